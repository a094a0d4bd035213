import PyProof.Rows.All
import Wide.All
import OpenK.AllK
import Wide.FinOn
import KE.GoesEnum
import HandS.ForMost
import HandS.Walk
import HandS.Codes
import HandS.IsInst
import HandS.SortInts
import HandS.Strs
import HandS.SetFor
import HandS.Property
import HandS.TupMul
import HandS.TupAny
import HandS.Style
import HandS.Lambda
import HandS.Words
import HandS.Dict
import KE.KDictKeyed
import KE.KDictWalk
import HandS.Deep
import KE.DataEq
import HandS.Zip
import HandS.Zip0
import PyProof.ZipIter
import HandS.Rev
import HandS.EndTab
import HandS.Exc
import HandS.ExcOwn
import HandS.TryOnly
import HandS.WordsExc
import HandS.ExcInit
import HandS.FStr
import HandS.Nested
import KE.KExcSuper
import KE.KSuperObj
import PyProof.FString2
import PyProof.FitsInt
import HandS.ExcField
import HandS.ExcIs
import KE.KExcIs
import HandS.Conv
import HandS.Star
import HandS.Iter
import HandS.DictComp
import KE.KDictList
import PyProof.Rows.TupDisplay
import KE.KDictCopyH
import KE.KDictSum
import PyProof.DictTruth
import HandS.SortRule
import KE.DataMinMax
import KE.DataFind
import KE.GoesEnumKw
import PyProof.Rows.CallKwBuiltin
import KE.KDictOf
import PySem.Challenge.RW_routeweb_k66_updates_known
set_option Elab.async false
set_option linter.all false
set_option maxRecDepth 100000
set_option maxHeartbeats 8000000
/-! what stays, data, rules of our own -/
namespace Rw
open PySem PySem.Spec PyProof.Rows L2
/-! ### what stays -/
/-- an object that nobody changes -/
def Fixed : HO → Prop
  | .tup _ => True
  | .frz _ _ => True
  | .ins _ _ _ => True
  | _ => False
def Stay (H H' : Hp) : Prop := ∀ a o, Fixed o → H a = some o → H' a = some o
theorem Stay.refl (H : Hp) : Stay H H := fun _ _ _ h => h
theorem Stay.trans {H H1 H2 : Hp} (p : Stay H H1) (q : Stay H1 H2) : Stay H H2 := fun a o f h => q a o f (p a o f h)
theorem Stay.new {H : Hp} {p : Addr} {o : HO} (h : H p = none) : Stay H (upd H p o) := fun a u _ e => by
  rw [upd_ne (ne_of_none e h)]
  exact e
theorem Stay.put {H : Hp} {p : Addr} {u o : HO} (h : H p = some u) (n : ¬ Fixed u) : Stay H (upd H p o) := fun a v f e => by
  have : a ≠ p := fun z => by
    rw [z, h] at e
    cases e
    exact n f
  rw [upd_ne this]
  exact e
theorem Same.new {H : Hp} {p : Addr} {o : HO} (h : H p = none) : Same H (upd H p o) := fun a u e => by
  rw [upd_ne (ne_of_none e h)]
  exact e
/-- all but what stands at r -/
def Ext (r : Addr) (H H' : Hp) : Prop := ∀ a o, a ≠ r → H a = some o → H' a = some o
theorem Ext.refl (r : Addr) (H : Hp) : Ext r H H := fun _ _ _ h => h
theorem Ext.trans {r : Addr} {H H1 H2 : Hp} (p : Ext r H H1) (q : Ext r H1 H2) : Ext r H H2 := fun a o n h => q a o n (p a o n h)
theorem Ext.put {r : Addr} {H : Hp} {o : HO} : Ext r H (upd H r o) := fun a u n e => by
  rw [upd_ne n]
  exact e
theorem Ext.free {r p : Addr} {H H' : Hp} (x : Ext r H H') (n : p ≠ r) (h : H' p = none) : H p = none := by
  cases q : H p with
  | none => rfl
  | some o =>
    rw [x p o n q] at h
    cases h
/-! ### data -/
theorem DpAll.length {K : PySem.W.Frag} {H : Hp} : ∀ {vs : List V} {ds : List PyData}, DpAll K H vs ds → vs.length = ds.length
  | _, _, .nil => rfl
  | _, _, .cons _ k => by rw [List.length_cons, List.length_cons, DpAll.length k]
theorem DpAll.get {K : PySem.W.Frag} {H : Hp} : ∀ {vs : List V} {ds : List PyData} {i : Nat} {d : PyData}, DpAll K H vs ds → ds[i]? = some d → ∃ v, vs[i]? = some v ∧ Dp K H v d
  | _, _, _, _, .nil, e => by simp at e
  | _, _, 0, _, .cons h _, e => by simp at e; subst e; exact ⟨_, rfl, h⟩
  | _, _, i + 1, _, .cons _ k, e => by
    obtain ⟨v, e1, e2⟩ := DpAll.get (i := i) k (by simpa using e)
    exact ⟨v, by simpa using e1, e2⟩
theorem DpAll.getV {K : PySem.W.Frag} {H : Hp} : ∀ {vs : List V} {ds : List PyData} {i : Nat} {v : V}, DpAll K H vs ds → vs[i]? = some v → ∃ d, ds[i]? = some d ∧ Dp K H v d
  | _, _, _, _, .nil, e => by simp at e
  | _, _, 0, _, .cons h _, e => by simp at e; subst e; exact ⟨_, rfl, h⟩
  | _, _, i + 1, _, .cons _ k, e => by
    obtain ⟨d, e1, e2⟩ := DpAll.getV (i := i) k (by simpa using e)
    exact ⟨d, by simpa using e1, e2⟩
theorem DpAll.app {K : PySem.W.Frag} {H : Hp} : ∀ {vs ws : List V} {ds es : List PyData}, DpAll K H vs ds → DpAll K H ws es → DpAll K H (vs ++ ws) (ds ++ es)
  | _, _, _, _, .nil, q => q
  | _, _, _, _, .cons h k, q => .cons h (DpAll.app k q)
theorem Dp.tupE {K : PySem.W.Frag} {H : Hp} {v : V} {ds : List PyData} (h : Dp K H v (.tuple ds)) : ∃ a xs, v = .ref a ∧ SqT K H a xs ∧ DpAll K H xs ds := by
  cases h with
  | tup h k => exact ⟨_, _, rfl, h, k⟩
theorem Dp.lstE {K : PySem.W.Frag} {H : Hp} {v : V} {ds : List PyData} (h : Dp K H v (.list ds)) : ∃ a xs, v = .ref a ∧ SqL K H a xs ∧ DpAll K H xs ds := by
  cases h with
  | lst h k => exact ⟨_, _, rfl, h, k⟩
theorem Dp.intE {K : PySem.W.Frag} {H : Hp} {v : V} {i : Int} (h : Dp K H v (.int i)) : v = .int i := by cases h; rfl
theorem DpAll.ints {K : PySem.W.Frag} {H : Hp} : ∀ {ns : List Int} {vs : List V}, DpAll K H vs (ns.map PyData.int) → vs = ns.map V.int
  | [], _, h => by cases h; rfl
  | n :: ns, _, h => by
    cases h with
    | cons h k => rw [Dp.intE h, DpAll.ints k]; rfl
/-! ### isinstance -/
/-! ### the checks' answers -/
/-! ### readings, opened -/
theorem ex_bl {b : Bool} {p : Bool → Prop} : (∃ c, V.bl b = V.bl c ∧ p c) ↔ p b := ⟨fun ⟨_, e, h⟩ => by cases e; exact h, fun h => ⟨b, rfl, h⟩⟩
/-! ### comprehensions whose elements are data, nothing else changes -/
section
variable {K : PySem.W.Frag} {J : It} {n : Nat} {G : Hp → Prop} {Y : Nat → Hp → V → Hp → Prop} {g : TG} {tt : TT} {te : TE} {vs : List Nat} {σ : L2.St} {H : Hp} {Q : VK}
theorem DpAll.snoc {H : Hp} {acc : List V} {ds : List PyData} {k : Nat} {v : V} {d : PyData} (h : DpAll K H acc (ds.take k)) (e : ds[k]? = some d) (hv : Dp K H v d) : DpAll K H (acc ++ [v]) (ds.take (k + 1)) := by
  rw [List.take_succ, e]
  exact DpAll.app h (.cons hv .nil)
end
/-! ### the rules, the written part told by name (so that a reading does not hang on the block's context) -/
end Rw
/-! a lambda with parameters that captures nothing: made, handed on, called -/
namespace Rw
open PySem PySem.Spec PyProof.Rows L2
open LamX (Tabs TabS TabB ExtN CodeO codeO_ne inv_table among_app)
/-- the object of the lambda at f is o -/
def LamO (f : Addr) (o : Obj) : HO := .ext fun h => h.get? f = some o
end Rw
/-! data without addresses, what a heap holds of it, states -/
namespace Fx
open PySem PySem.Spec PyProof.Rows L2
open LamX (Tabs TabS TabB ExtN CodeO codeO_ne)
/-- a value without the heap -/
inductive D where
  | non | bl (b : Bool) | int (i : Int) | str (s : Str) | ty (n : String)
  | tup (ds : List D) | lst (ds : List D) | ins (c : String) (ds : List D) | dct (ks vs : List D) | dcq (ks vs : List D) | scr (ns : List Int) | fn (k : Nat) | xo (a : Addr) (o : Unit → HO) | exc | rng (lo hi : Int) | fu
/-- what a name holds: a value that stays, or a cell that this def alone may change (b: its place, where it is an argument's) -/
inductive S where
  | d (x : D) | o (b : Option Nat) (x : D)
  /-- a dict whose values are lists that this def alone may change -/
  | q (ks : List D) (dss : List (List D))
structure Err where
  cls : String
  fs : List D
abbrev En := List (Option S)
inductive Out (α : Type) where
  | ok (a : α) (ρ : En) | err (e : Err) (ρ : En) | stuck
def M (α : Type) := En → Out α
def Out.then {α β : Type} : Out α → (α → En → Out β) → Out β
  | .ok a ρ, f => f a ρ
  | .err e ρ, _ => .err e ρ
  | .stuck, _ => .stuck
@[reducible] def M.bind {α β : Type} (m : M α) (f : α → M β) : M β := fun ρ => (m ρ).then f
instance : Monad M where
  pure a := fun ρ => .ok a ρ
  bind := M.bind
/-- a lambda of the text: its full name, its parameters, body and scope -/
structure LamS where
  q : Str
  params : Arguments
  body : Expr
  scope : Scope
/-- the exception that a suite holds: its place, its dict, the fields -/
structure ExcI where
  a : Addr
  d : Option Addr
  fs : List (Str × V)
/-- what a law's context knows: the written part, the classes, their fields, the tables of code objects -/
structure Cfg where
  K : PySem.W.Frag
  cls : String → Addr
  flds : String → List Str
  T : List (Addr × Str)
  err : Err → Value → Option Addr → Hp → Prop
  fns : Nat → LamS
  w : World
  exc : Option ExcI
  kn : Hp
/-- a tuple of numbers alone -/
def isIntD : D → Bool
  | .int _ => true
  | _ => false
def pairy : D → Bool
  | .tup ds => ds.all isIntD
  | _ => false
/-- tuples of numbers, one at least: such a tuple is known to carry no attributes, so its methods can be called -/
def fullT : D → Bool
  | .tup (_ :: _) => true
  | _ => false
def arcy : List D → Bool
  | [] => false
  | d :: ds => pairy d && ds.all pairy && (d :: ds).any fullT
/-- a tuple's object that carries no attributes -/
def SqN (G : Hp) (a : Addr) (vs : List V) : Prop := ∃ o : Obj, G a = some (.frz o (.tup vs)) ∧ o.dict = none
/-- the key of a datum -/
def keyD : Key → D
  | .inl i => .int i
  | .inr x => .str x
mutual
def nkD : D → Option NestedKey
  | .non => some .none
  | .int i => some (.num i)
  | .str x => some (.text x)
  | .tup ds => match nkDs ds with
    | some ks => some (.tup ks)
    | none => none
  | .bl _ => none
  | .ty _ => none
  | .lst _ => none
  | .ins _ _ => none
  | .dct _ _ => none
  | .dcq _ _ => none
  | .scr _ => none
  | .fn _ => none
  | .xo _ _ => none
  | .exc => none
  | .rng _ _ => none
  | .fu => none
def nkDs : List D → Option (List NestedKey)
  | [] => some []
  | d :: ds => match nkD d, nkDs ds with
    | some k, some ks => some (k :: ks)
    | _, _ => none
end
/-- a dict whose object is known -/
def xdO (a : Addr) (o : Obj) : HO := .ext fun h => h.get? a = some o
def MixObj (w : World) (o : Obj) (kvs : List (Key × Value)) : Prop := ∀ (P : Program) (h : Heap) (a : Addr), h.get? a = some o → h.DictOf (mixKind P w) a kvs
def NkObj (w : World) (o : Obj) (xs : List (NestedKey × Addr × Value)) : Prop := ∀ (P : Program) (h : Heap) (a : Addr), h.get? a = some o → (∀ x ∈ xs, (nestedKind P w).is h x.1 x.2.1) → h.DictOfH (nestedKind P w) a xs
/-- the object o is a dict with the keys ks: ints and texts, or tuples; kv, us: its keys and values -/
inductive DcO (w : World) (a : Addr) (o : Obj) : List D → List V → List V → Prop
  | mix {kvs : List (Key × Value)} {us : List V} : (a == sysModules) = false → o.ExactDict → (∃ es ep, o.data = .dict es ep) → MixObj w o kvs → kvs.length ≤ sizeLine → Vals us (kvs.map (·.2)) → DcO w a o (kvs.map fun p => keyD p.1) (kvs.map fun p => kV p.1) us
  | nk {xs : List (NestedKey × Addr × Value)} {us : List V} {ks : List D} : (a == sysModules) = false → o.ExactDict → (∃ es ep, o.data = .dict es ep) → NkObj w o xs → xs.length ≤ sizeLine → Vals us (xs.map (·.2.2)) → ks.map nkD = xs.map (fun x => some x.1) → (∀ x ∈ xs, x.1.depth ≤ 8) → DcO w a o ks (xs.map fun x => V.ref x.2.1) us
mutual
inductive Rp (c : Cfg) (G : Hp) : V → D → Prop
  | non : Rp c G .non .non
  | bl (b : Bool) : Rp c G (.bl b) (.bl b)
  | int (i : Int) : Rp c G (.int i) (.int i)
  | str (s : Str) : Rp c G (.str s) (.str s)
  | ty (n : String) : Rp c G (.ty n) (.ty n)
  | tup {a : Addr} {vs : List V} {ds : List D} : SqT c.K G a vs → RpAll c G vs ds → (arcy ds = true → SqN G a vs) → Rp c G (.ref a) (.tup ds)
  | lst {a : Addr} {vs : List V} {ds : List D} : G a = some (.lst vs) → RpAll c G vs ds → Rp c G (.ref a) (.lst ds)
  | scr {a : Addr} {ns : List Int} : SqL c.K G a (ns.map V.int) → Rp c G (.ref a) (.scr ns)
  | ins {a dx : Addr} {n : String} {fs : List (Str × V)} {ds : List D} : G a = some (.ins (c.cls n) dx fs) → fs.map (·.1) = (c.flds n).take ds.length → RpAll c G (fs.map (·.2)) ds → Rp c G (.ref a) (.ins n ds)
  | dct {a : Addr} {kvs : List (Key × V)} {vs : List D} : G a = some (.dK kvs) → RpAll c G (kvs.map (·.2)) vs → Rp c G (.ref a) (.dcq (kvs.map fun p => keyD p.1) vs)
  | dcx {a : Addr} {o : Obj} {kv us : List V} {ks ds : List D} : G a = some (xdO a o) → DcO c.w a o ks kv us → RpAll c G kv ks → RpAll c G us ds → Rp c G (.ref a) (.dct ks ds)
  | xo {a : Addr} {o : Unit → HO} : G a = some (o ()) → Rp c G (.ref a) (.xo a o)
  | exc {x : ExcI} : c.exc = some x → (∀ dd, x.d = some dd → G dd = some (.xd x.fs)) → (∀ a o, c.kn a = some o → G a = some o) → Rp c G (.ref x.a) .exc
  | rng {a : Addr} {lo hi : Int} : G a = some (.rng lo hi) → Rp c G (.ref a) (.rng lo hi)
  | fu {a : Addr} {u : HO} : G a = some u → Rp c G (.ref a) .fu
  | fn {f c' : Addr} {k : Nat} {pm ctv : Value} : G f = some (Rw.LamO f (PySem.W.kla_obj "<lambda>" (c.fns k).q (c.fns k).params (c.fns k).body (c.fns k).scope [] pm c' ctv)) → G c' = some (CodeO c' (c.fns k).q) → Rp c G (.ref f) (.fn k)
inductive RpAll (c : Cfg) (G : Hp) : List V → List D → Prop
  | nil : RpAll c G [] []
  | cons {v : V} {d : D} {vs : List V} {ds : List D} : Rp c G v d → RpAll c G vs ds → RpAll c G (v :: vs) (d :: ds)
end
/-- a cell that is no table and no code object is written -/
inductive isCell : HO → Prop
  | lst (xs : List V) : isCell (.lst xs)
  | ins (C dx : Addr) (fs : List (Str × V)) : isCell (.ins C dx fs)
  | dK (kvs : List (Key × V)) : isCell (.dK kvs)
  | xd (a : Addr) (o : Obj) (es : Array DictEntry) (ep : Nat) : o.data = .dict es ep → isCell (xdO a o)
  | frz (o : Obj) (vs : List V) : isCell (.frz o (.tup vs))
/-- what stands at a changing cell -/
def Cell (c : Cfg) (G H : Hp) (a : Addr) : D → Prop
  | .lst ds => ∃ vs, H a = some (.lst vs) ∧ RpAll c G vs ds
  | .ins n ds => ∃ dx fs, H a = some (.ins (c.cls n) dx fs) ∧ fs.map (·.1) = (c.flds n).take ds.length ∧ RpAll c G (fs.map (·.2)) ds
  | .dct ks ds => ∃ o kv us, H a = some (xdO a o) ∧ DcO c.w a o ks kv us ∧ RpAll c G kv ks ∧ RpAll c G us ds
  | .xo b o => b = a ∧ H a = some (o ()) ∧ isCell (o ())
  | .tup ds => ∃ vs o, H a = some (.frz o (.tup vs)) ∧ o.dict = none ∧ RpAll c G vs ds
  | _ => False
abbrev Owns := List Addr
/-- lists that may be changed, at their places -/
inductive LsAll (c : Cfg) (G H : Hp) : List Addr → List (List D) → Prop
  | nil : LsAll c G H [] []
  | cons {b : Addr} {us : List V} {ds : List D} {bs : List Addr} {dss : List (List D)} : H b = some (.lst us) → RpAll c G us ds → LsAll c G H bs dss → LsAll c G H (b :: bs) (ds :: dss)
/-- where the cells of a def's arguments stand; what stays whatever a def does -/
structure Base where
  at_ : Nat → Option Addr
  pin : Hp
/-- a dict of such lists at a; os: all that is owned -/
def QDct (c : Cfg) (G H : Hp) (a : Addr) (ks : List D) (dss : List (List D)) (os : Owns) : Prop :=
  ∃ (kvs : List (Key × V)) (bs : List Addr), os = a :: bs ∧ H a = some (.dK kvs) ∧ ks = kvs.map (fun p => keyD p.1) ∧ kvs.map (·.2) = bs.map V.ref ∧ LsAll c G H bs dss
def plD : Option Nat → D
  | none => .tup []
  | some j => .tup [.int j]
/-- an instance whose last field is a dict that is owned too -/
def QIns (c : Cfg) (B : Base) (G H : Hp) (a : Addr) (ks : List D) (dss : List (List D)) (os : Owns) : Prop :=
  ∃ (n : String) (ds : List D) (p : Option Nat) (dk dv : List D) (dx : Addr) (fs : List (Str × V)) (b : Addr) (o : Obj) (kv us vs : List V), ks = [.ins n ds, plD p] ∧ dss = [dk, dv] ∧ os = [a, b] ∧ H a = some (.ins (c.cls n) dx fs) ∧ fs.map (·.1) = (c.flds n).take (ds.length + 1) ∧ fs.map (·.2) = vs ++ [V.ref b] ∧ RpAll c G vs ds ∧ H b = some (xdO b o) ∧ DcO c.w b o dk kv us ∧ RpAll c G kv dk ∧ RpAll c G us dv ∧ ∀ j : Nat, p = some j → B.at_ j = some a
/-- a dict of such lists whose object is known: keys of any kind -/
def QDcx (c : Cfg) (G H : Hp) (a : Addr) (ks : List D) (dss : List (List D)) (os : Owns) : Prop :=
  ∃ (ks' : List D) (o : Obj) (kv : List V) (bs : List Addr), ks = [.tup ks'] ∧ os = a :: bs ∧ H a = some (xdO a o) ∧ DcO c.w a o ks' kv (bs.map V.ref) ∧ RpAll c G kv ks' ∧ LsAll c G H bs dss
def QCell (c : Cfg) (B : Base) (G H : Hp) (a : Addr) (ks : List D) (dss : List (List D)) (os : Owns) : Prop := QDct c G H a ks dss os ∨ QIns c B G H a ks dss os ∨ QDcx c G H a ks dss os
inductive Sl (c : Cfg) (B : Base) (G H : Hp) : En → List (Option V) → Owns → Prop
  | nil : Sl c B G H [] [] []
  | skip {v : Option V} {es : En} {vs : List (Option V)} {own : Owns} : Sl c B G H es vs own → Sl c B G H (none :: es) (v :: vs) own
  | d {v : V} {x : D} {es : En} {vs : List (Option V)} {own : Owns} : Rp c G v x → Sl c B G H es vs own → Sl c B G H (some (.d x) :: es) (some v :: vs) own
  | o {a : Addr} {b : Option Nat} {x : D} {es : En} {vs : List (Option V)} {own : Owns} : Cell c G H a x → (∀ p, b = some p → B.at_ p = some a) → Sl c B G H es vs own → Sl c B G H (some (.o b x) :: es) (some (.ref a) :: vs) (a :: own)
  | q {a : Addr} {ks : List D} {dss : List (List D)} {es : En} {vs : List (Option V)} {os own : Owns} : QCell c B G H a ks dss os → Sl c B G H es vs own → Sl c B G H (some (.q ks dss) :: es) (some (.ref a) :: vs) (os ++ own)
def isTbl : HO → Bool
  | .tbl _ => true
  | _ => false
structure OkB (c : Cfg) (B : Base) (G H : Hp) (own : Owns) : Prop where
  sub : ∀ a o, G a = some o → H a = some o
  notbl : ∀ a o, G a = some o → isTbl o = false
  nd : own.Nodup
  out : ∀ p ∈ own, G p = none ∧ H p ≠ none
  tabs : Tabs c.T H
  pint : ∀ a o, B.pin a = some o → isTbl o = false
  pin : ∀ a o, B.pin a = some o → H a = some o ∧ a ∉ own
def Rep (c : Cfg) (B : Base) (ts : En) (vs : List (Option V)) (ρ : En) (σ : L2.St) (H : Hp) : Prop :=
  ∃ G o1 o2, OkB c B G H (o1 ++ o2) ∧ Sl c B G H ts vs o1 ∧ Sl c B G H ρ σ o2
section
variable {c : Cfg} {B : Base} {G G' H H' : Hp}
mutual
theorem Rp.mono (s : ∀ a o, G a = some o → G' a = some o) : ∀ {v : V} {d : D}, Rp c G v d → Rp c G' v d
  | _, _, .non => .non
  | _, _, .bl b => .bl b
  | _, _, .int i => .int i
  | _, _, .str x => .str x
  | _, _, .ty n => .ty n
  | _, _, .tup h k n => .tup (by
      rcases h with (h | ⟨o, h⟩) | h
      · exact .inl (.inl (s _ _ h))
      · exact .inl (.inr ⟨o, s _ _ h⟩)
      · exact .inr h) (RpAll.mono s k) (fun e => let ⟨o, h1, h2⟩ := n e; ⟨o, s _ _ h1, h2⟩)
  | _, _, .lst h k => .lst (s _ _ h) (RpAll.mono s k)
  | _, _, .scr h => .scr (Same.seq s h)
  | _, _, .ins h n k => .ins (s _ _ h) n (RpAll.mono s k)
  | _, _, .dct h k => .dct (s _ _ h) (RpAll.mono s k)
  | _, _, .dcx h o k1 k2 => .dcx (s _ _ h) o (RpAll.mono s k1) (RpAll.mono s k2)
  | _, _, .xo h => .xo (s _ _ h)
  | _, _, .exc h k n => .exc h (fun dd e => s _ _ (k dd e)) fun a o e => s _ _ (n a o e)
  | _, _, .rng h => .rng (s _ _ h)
  | _, _, .fu h => .fu (s _ _ h)
  | _, _, .fn h k => .fn (s _ _ h) (s _ _ k)
termination_by structural _ _ h => h
theorem RpAll.mono (s : ∀ a o, G a = some o → G' a = some o) : ∀ {vs : List V} {ds : List D}, RpAll c G vs ds → RpAll c G' vs ds
  | _, _, .nil => .nil
  | _, _, .cons h k => .cons (Rp.mono s h) (RpAll.mono s k)
termination_by structural _ _ h => h
end
theorem RpAll.length : ∀ {vs : List V} {ds : List D}, RpAll c G vs ds → vs.length = ds.length
  | _, _, .nil => rfl
  | _, _, .cons _ k => by rw [List.length_cons, List.length_cons, RpAll.length k]
theorem RpAll.get : ∀ {vs : List V} {ds : List D} {i : Nat} {d : D}, RpAll c G vs ds → ds[i]? = some d → ∃ v, vs[i]? = some v ∧ Rp c G v d
  | _, _, _, _, .nil, e => by simp at e
  | _, _, 0, _, .cons h _, e => by simp at e; subst e; exact ⟨_, rfl, h⟩
  | _, _, i + 1, _, .cons _ k, e => by
    obtain ⟨v, e1, e2⟩ := RpAll.get (i := i) k (by simpa using e)
    exact ⟨v, by simpa using e1, e2⟩
theorem RpAll.getV : ∀ {vs : List V} {ds : List D} {i : Nat} {v : V}, RpAll c G vs ds → vs[i]? = some v → ∃ d, ds[i]? = some d ∧ Rp c G v d
  | _, _, _, _, .nil, e => by simp at e
  | _, _, 0, _, .cons h _, e => by simp at e; subst e; exact ⟨_, rfl, h⟩
  | _, _, i + 1, _, .cons _ k, e => by
    obtain ⟨d, e1, e2⟩ := RpAll.getV (i := i) k (by simpa using e)
    exact ⟨d, by simpa using e1, e2⟩
theorem RpAll.app : ∀ {vs ws : List V} {ds es : List D}, RpAll c G vs ds → RpAll c G ws es → RpAll c G (vs ++ ws) (ds ++ es)
  | _, _, _, _, .nil, q => q
  | _, _, _, _, .cons h k, q => .cons h (RpAll.app k q)
theorem RpAll.take : ∀ {vs : List V} {ds : List D} (n : Nat), RpAll c G vs ds → RpAll c G (vs.take n) (ds.take n)
  | _, _, 0, _ => by simp only [List.take_zero]; exact .nil
  | _, _, _ + 1, .nil => .nil
  | _, _, n + 1, .cons h k => .cons h (RpAll.take n k)
theorem RpAll.drop : ∀ {vs : List V} {ds : List D} (n : Nat), RpAll c G vs ds → RpAll c G (vs.drop n) (ds.drop n)
  | _, _, 0, h => h
  | _, _, _ + 1, .nil => .nil
  | _, _, n + 1, .cons _ k => RpAll.drop n k
theorem RpAll.set : ∀ {vs : List V} {ds : List D} (i : Nat) {v : V} {d : D}, RpAll c G vs ds → Rp c G v d → RpAll c G (vs.set i v) (ds.set i d)
  | _, _, _, _, _, .nil, _ => .nil
  | _, _, 0, _, _, .cons _ k, q => .cons q k
  | _, _, i + 1, _, _, .cons h k, q => .cons h (RpAll.set i k q)
theorem RpAll.snoc {vs : List V} {ds : List D} {v : V} {d : D} (h : RpAll c G vs ds) (q : Rp c G v d) : RpAll c G (vs ++ [v]) (ds ++ [d]) := h.app (.cons q .nil)
theorem RpAll.of : ∀ {vs : List V} {ds : List D}, vs.length = ds.length → (∀ (i : Nat) (v : V), vs[i]? = some v → ∃ d, ds[i]? = some d ∧ Rp c G v d) → RpAll c G vs ds
  | [], [], _, _ => .nil
  | [], _ :: _, e, _ => by simp at e
  | _ :: _, [], e, _ => by simp at e
  | v :: vs, d :: ds, e, h => by
    obtain ⟨d', e1, h1⟩ := h 0 v rfl
    cases e1
    exact .cons h1 (RpAll.of (by simpa using e) fun i w hw => h (i + 1) w hw)
theorem RpAll.rev {vs : List V} {ds : List D} (h : RpAll c G vs ds) : RpAll c G vs.reverse ds.reverse := by
  refine .of (by simp [h.length]) fun i v e => ?_
  have hi : i < vs.length := by
    have := (List.getElem?_eq_some_iff.mp e).1
    simpa using this
  rw [List.getElem?_reverse hi] at e
  obtain ⟨d, e1, e2⟩ := h.getV e
  refine ⟨d, ?_, e2⟩
  rw [List.getElem?_reverse (by rw [← h.length]; exact hi), ← h.length]
  exact e1
theorem Cell.mono (s : ∀ a o, G a = some o → G' a = some o) {a : Addr} (e : H' a = H a) {x : D} (h : Cell c G H a x) : Cell c G' H' a x := by
  cases x with
  | lst ds =>
    obtain ⟨vs, h, k⟩ := h
    exact ⟨vs, e.trans h, k.mono s⟩
  | ins n ds =>
    obtain ⟨dx, fs, h, hn, k⟩ := h
    exact ⟨dx, fs, e.trans h, hn, k.mono s⟩
  | dct ks ds =>
    obtain ⟨o, kv, us, h, d, k1, k2⟩ := h
    exact ⟨o, kv, us, e.trans h, d, k1.mono s, k2.mono s⟩
  | xo b o =>
    obtain ⟨h1, h2, h3⟩ := h
    exact ⟨h1, e.trans h2, h3⟩
  | tup ds =>
    obtain ⟨vs, o, h, d, k⟩ := h
    exact ⟨vs, o, e.trans h, d, k.mono s⟩
  | _ => exact h.elim
theorem LsAll.mono (s : ∀ a o, G a = some o → G' a = some o) : ∀ {bs : List Addr} {dss : List (List D)}, (∀ p ∈ bs, H' p = H p) → LsAll c G H bs dss → LsAll c G' H' bs dss
  | _, _, _, .nil => .nil
  | _, _, e, .cons h k l => .cons ((e _ List.mem_cons_self).trans h) (k.mono s) (LsAll.mono s (fun p hp => e p (List.mem_cons_of_mem _ hp)) l)
theorem QCell.mono (s : ∀ a o, G a = some o → G' a = some o) {a : Addr} {ks : List D} {dss : List (List D)} {os : Owns} (e : ∀ p ∈ os, H' p = H p) (h : QCell c B G H a ks dss os) : QCell c B G' H' a ks dss os := by
  rcases h with ⟨kvs, bs, rfl, h1, h2, h3, h4⟩ | ⟨n, ds, p, dk, dv, dx, fs, b, o, kv, us, vs, rfl, rfl, rfl, h1, h2, h3, h4, h5, h6, h7, h8, h9⟩ | ⟨ks', o, kv, bs, rfl, rfl, h1, h2, h3, h4⟩
  · exact .inl ⟨kvs, bs, rfl, (e _ List.mem_cons_self).trans h1, h2, h3, h4.mono s fun p hp => e p (List.mem_cons_of_mem _ hp)⟩
  · exact .inr (.inl ⟨n, ds, p, dk, dv, dx, fs, b, o, kv, us, vs, rfl, rfl, rfl, (e _ List.mem_cons_self).trans h1, h2, h3, h4.mono s, (e _ (List.mem_cons_of_mem _ List.mem_cons_self)).trans h5, h6, h7.mono s, h8.mono s, h9⟩)
  · exact .inr (.inr ⟨ks', o, kv, bs, rfl, rfl, (e _ List.mem_cons_self).trans h1, h2, h3.mono s, h4.mono s fun p hp => e p (List.mem_cons_of_mem _ hp)⟩)
theorem nodup_sub {os own own' : Owns} (nd : (os ++ own).Nodup) (h : ∀ p ∈ own', p ∈ own) (n : own'.Nodup) : (os ++ own').Nodup := by
  rw [List.nodup_append] at nd ⊢
  exact ⟨nd.1, n, fun x hx y hy => nd.2.2 x hx y (h y hy)⟩
theorem Sl.mono (s : ∀ a o, G a = some o → G' a = some o) : ∀ {es : En} {vs : List (Option V)} {own : Owns}, (∀ p ∈ own, H' p = H p) → Sl c B G H es vs own → Sl c B G' H' es vs own
  | _, _, _, _, .nil => .nil
  | _, _, _, e, .skip k => .skip (Sl.mono s e k)
  | _, _, _, e, .d h k => .d (h.mono s) (Sl.mono s e k)
  | _, _, _, e, .o h hb k => .o (h.mono s (e _ List.mem_cons_self)) hb (Sl.mono s (fun p hp => e p (List.mem_cons_of_mem _ hp)) k)
  | _, _, _, e, .q h k => .q (h.mono s fun p hp => e p (List.mem_append_left _ hp)) (Sl.mono s (fun p hp => e p (List.mem_append_right _ hp)) k)
theorem Sl.length : ∀ {es : En} {vs : List (Option V)} {own : Owns}, Sl c B G H es vs own → es.length = vs.length
  | _, _, _, .nil => rfl
  | _, _, _, .skip k => by rw [List.length_cons, List.length_cons, Sl.length k]
  | _, _, _, .d _ k => by rw [List.length_cons, List.length_cons, Sl.length k]
  | _, _, _, .o _ _ k => by rw [List.length_cons, List.length_cons, Sl.length k]
  | _, _, _, .q _ k => by rw [List.length_cons, List.length_cons, Sl.length k]
theorem Sl.getD : ∀ {es : En} {vs : List (Option V)} {own : Owns} {i : Nat} {x : D}, Sl c B G H es vs own → es[i]? = some (some (.d x)) → ∃ v, vs[i]? = some (some v) ∧ Rp c G v x
  | _, _, _, _, _, .nil, e => by simp at e
  | _, _, _, 0, _, .skip k, e => by simp at e
  | _, _, _, 0, _, .d h k, e => by simp at e; subst e; exact ⟨_, rfl, h⟩
  | _, _, _, 0, _, .o h _ k, e => by simp at e
  | _, _, _, i + 1, _, .skip k, e => Sl.getD (i := i) k (by simpa using e)
  | _, _, _, i + 1, _, .d h k, e => Sl.getD (i := i) k (by simpa using e)
  | _, _, _, i + 1, _, .o h _ k, e => Sl.getD (i := i) k (by simpa using e)
  | _, _, _, 0, _, .q h k, e => by simp at e
  | _, _, _, i + 1, _, .q _ k, e => Sl.getD (i := i) k (by simpa using e)
theorem Sl.getO : ∀ {es : En} {vs : List (Option V)} {own : Owns} {i : Nat} {b : Option Nat} {x : D}, Sl c B G H es vs own → es[i]? = some (some (.o b x)) → ∃ a, vs[i]? = some (some (.ref a)) ∧ Cell c G H a x ∧ a ∈ own ∧ ∀ p, b = some p → B.at_ p = some a
  | _, _, _, _, _, _, .nil, e => by simp at e
  | _, _, _, 0, _, _, .skip k, e => by simp at e
  | _, _, _, 0, _, _, .d h k, e => by simp at e
  | _, _, _, 0, _, _, .o h hb k, e => by simp at e; obtain ⟨rfl, rfl⟩ := e; exact ⟨_, rfl, h, List.mem_cons_self, hb⟩
  | _, _, _, i + 1, _, _, .skip k, e => Sl.getO (i := i) k (by simpa using e)
  | _, _, _, i + 1, _, _, .d h k, e => Sl.getO (i := i) k (by simpa using e)
  | _, _, _, i + 1, _, _, .o h _ k, e => by
    obtain ⟨a, h1, h2, h3, h4⟩ := Sl.getO (i := i) k (by simpa using e)
    exact ⟨a, h1, h2, List.mem_cons_of_mem _ h3, h4⟩
  | _, _, _, 0, _, _, .q h k, e => by simp at e
  | _, _, _, i + 1, _, _, .q _ k, e => by
    obtain ⟨a, h1, h2, h3, h4⟩ := Sl.getO (i := i) k (by simpa using e)
    exact ⟨a, h1, h2, List.mem_append_right _ h3, h4⟩
/-- one entry: its owned cell, if it has one -/
inductive En1 (c : Cfg) (B : Base) (G H : Hp) : S → V → Owns → Prop
  | d {v : V} {x : D} : Rp c G v x → En1 c B G H (.d x) v []
  | o {a : Addr} {b : Option Nat} {x : D} : Cell c G H a x → (∀ p, b = some p → B.at_ p = some a) → En1 c B G H (.o b x) (.ref a) [a]
  | q {a : Addr} {ks : List D} {dss : List (List D)} {os : Owns} : QCell c B G H a ks dss os → En1 c B G H (.q ks dss) (.ref a) os
theorem Sl.one {s : S} {v : V} {os : Owns} {es : En} {vs : List (Option V)} {own : Owns} (h : En1 c B G H s v os) (k : Sl c B G H es vs own) : Sl c B G H (some s :: es) (some v :: vs) (os ++ own) := by
  cases h with
  | d h => exact .d h k
  | o h hb => exact .o h hb k
  | q h => exact .q h k
theorem Sl.unone {s : S} {v : Option V} {es : En} {vs : List (Option V)} {own : Owns} (k : Sl c B G H (some s :: es) (v :: vs) own) : ∃ w os own', v = some w ∧ En1 c B G H s w os ∧ own = os ++ own' ∧ Sl c B G H es vs own' := by
  cases k with
  | d h k => exact ⟨_, [], _, rfl, .d h, rfl, k⟩
  | o h hb k => exact ⟨_, [_], _, rfl, .o h hb, rfl, k⟩
  | q h k => exact ⟨_, _, _, rfl, .q h, rfl, k⟩
/-- a slot is set to an entry -/
theorem Sl.set : ∀ {es : En} {vs : List (Option V)} {own : Owns} (i : Nat) {s : S} {v : V} {os : Owns}, Sl c B G H es vs own → En1 c B G H s v os →
    ∃ own', Sl c B G H (es.set i (some s)) (vs.set i (some v)) own' ∧ (∀ p ∈ own', p ∈ os ∨ p ∈ own) ∧ ((os ++ own).Nodup → own'.Nodup)
  | _, _, _, _, _, _, os, .nil, _ => ⟨[], .nil, fun _ h => by simp at h, fun _ => by simp⟩
  | _, _, own, 0, _, _, os, .skip k, e => ⟨os ++ own, Sl.one e k, fun p hp => List.mem_append.mp hp, id⟩
  | _, _, own, 0, _, _, os, .d _ k, e => ⟨os ++ own, Sl.one e k, fun p hp => List.mem_append.mp hp, id⟩
  | _, _, a :: own, 0, _, _, os, .o _ _ k, e => ⟨os ++ own, Sl.one e k, fun p hp => (List.mem_append.mp hp).imp id (List.mem_cons_of_mem _), fun nd => nd.sublist (List.Sublist.append_left (List.sublist_cons_self _ _) _)⟩
  | _, _, _, i + 1, _, _, os, .skip k, e => by
    obtain ⟨own', h1, h2, h3⟩ := Sl.set i k e
    exact ⟨own', .skip h1, h2, h3⟩
  | _, _, _, i + 1, _, _, os, .d h k, e => by
    obtain ⟨own', h1, h2, h3⟩ := Sl.set i k e
    exact ⟨own', .d h h1, h2, h3⟩
  | _, _, a :: own, i + 1, _, _, os, .o h hb k, e => by
    obtain ⟨own', h1, h2, h3⟩ := Sl.set i k e
    refine ⟨a :: own', .o h hb h1, fun p hp => ?_, fun nd => ?_⟩
    · rcases List.mem_cons.mp hp with rfl | hp
      · exact .inr List.mem_cons_self
      · exact (h2 p hp).imp id (List.mem_cons_of_mem _)
    · rw [List.nodup_append] at nd
      obtain ⟨n1, n2, n3⟩ := nd
      obtain ⟨n4, n5⟩ := List.nodup_cons.mp n2
      rw [List.nodup_cons]
      refine ⟨fun hm => ?_, h3 ?_⟩
      · rcases h2 a hm with q | q
        · exact n3 a q a List.mem_cons_self rfl
        · exact n4 q
      · rw [List.nodup_append]
        exact ⟨n1, n5, fun x hx y hy => n3 x hx y (List.mem_cons_of_mem _ hy)⟩
  | _, _, _, 0, _, _, os, @Sl.q _ _ _ _ _ _ _ _ _ qs own _ k, e => ⟨os ++ own, Sl.one e k, fun p hp => (List.mem_append.mp hp).imp id (List.mem_append_right _), fun nd => nd.sublist (List.Sublist.append_left (List.sublist_append_right _ _) _)⟩
  | _, _, _, i + 1, _, _, os, @Sl.q _ _ _ _ _ _ _ _ _ qs own h k, e => by
    obtain ⟨own', h1, h2, h3⟩ := Sl.set i k e
    refine ⟨qs ++ own', .q h h1, fun p hp => ?_, fun nd => ?_⟩
    · rcases List.mem_append.mp hp with hp | hp
      · exact .inr (List.mem_append_left _ hp)
      · exact (h2 p hp).imp id (List.mem_append_right _)
    · rw [List.nodup_append] at nd
      obtain ⟨n1, n2, n3⟩ := nd
      rw [List.nodup_append] at n2 ⊢
      obtain ⟨n4, n5, n6⟩ := n2
      refine ⟨n4, h3 ?_, fun x hx y hy => ?_⟩
      · rw [List.nodup_append]
        exact ⟨n1, n5, fun x hx y hy => n3 x hx y (List.mem_append_right _ hy)⟩
      · rcases h2 y hy with z | z
        · exact fun e => n3 y z x (List.mem_append_left _ hx) e.symm
        · exact n6 x hx y z
/-- a slot is forgotten -/
theorem Sl.forget : ∀ {es : En} {vs : List (Option V)} {own : Owns} (i : Nat) (w : Option V), Sl c B G H es vs own →
    ∃ own', Sl c B G H (es.set i none) (vs.set i w) own' ∧ (∀ p ∈ own', p ∈ own) ∧ (own.Nodup → own'.Nodup)
  | _, _, _, _, _, .nil => ⟨[], .nil, fun _ h => h, id⟩
  | _, _, own, 0, _, .skip k => ⟨own, .skip k, fun _ h => h, id⟩
  | _, _, own, 0, _, .d _ k => ⟨own, .skip k, fun _ h => h, id⟩
  | _, _, a :: own, 0, _, .o _ _ k => ⟨own, .skip k, fun p hp => List.mem_cons_of_mem _ hp, fun nd => (List.nodup_cons.mp nd).2⟩
  | _, _, _, i + 1, w, .skip k => by
    obtain ⟨own', h1, h2, h3⟩ := Sl.forget i w k
    exact ⟨own', .skip h1, h2, h3⟩
  | _, _, _, i + 1, w, .d h k => by
    obtain ⟨own', h1, h2, h3⟩ := Sl.forget i w k
    exact ⟨own', .d h h1, h2, h3⟩
  | _, _, a :: own, i + 1, w, .o h hb k => by
    obtain ⟨own', h1, h2, h3⟩ := Sl.forget i w k
    refine ⟨a :: own', .o h hb h1, fun p hp => ?_, fun nd => ?_⟩
    · rcases List.mem_cons.mp hp with rfl | hp
      · exact List.mem_cons_self
      · exact List.mem_cons_of_mem _ (h2 p hp)
    · rw [List.nodup_cons] at nd ⊢
      exact ⟨fun hm => nd.1 (h2 a hm), h3 nd.2⟩
  | _, _, _, 0, _, @Sl.q _ _ _ _ _ _ _ _ _ qs own _ k => ⟨own, .skip k, fun p hp => List.mem_append_right _ hp, fun nd => (List.nodup_append.mp nd).2.1⟩
  | _, _, _, i + 1, w, @Sl.q _ _ _ _ _ _ _ _ _ qs own h k => by
    obtain ⟨own', h1, h2, h3⟩ := Sl.forget i w k
    refine ⟨qs ++ own', .q h h1, fun p hp => ?_, fun nd => nodup_sub nd h2 (h3 (List.nodup_append.mp nd).2.1)⟩
    rcases List.mem_append.mp hp with hp | hp
    · exact List.mem_append_left _ hp
    · exact List.mem_append_right _ (h2 p hp)
end
section
variable {c : Cfg} {B : Base} {G H H' : Hp} {own own' : Owns} {ts : En} {vs : List (Option V)} {ρ : En} {σ : L2.St}
theorem OkB.subO (k : OkB c B G H own) (h1 : ∀ p ∈ own', p ∈ own) (h2 : own'.Nodup) : OkB c B G H own' := ⟨k.sub, k.notbl, h2, fun p hp => k.out p (h1 p hp), k.tabs, k.pint, fun a o e => ⟨(k.pin a o e).1, fun hm => (k.pin a o e).2 (h1 a hm)⟩⟩
theorem isTbl_false {o : HO} (h : isTbl o = false) (ps : Array Value) : o ≠ .tbl ps := fun z => by
  rw [z] at h
  cases h
theorem tabs_new {T : List (Addr × Str)} {p : Addr} {o : HO} (t : Tabs T H) (hp : H p = none) : Tabs T (upd H p o) := fun q hq => by
  obtain ⟨ps, h1, h2, h3⟩ := t q hq
  refine ⟨ps, by rw [upd_ne (ne_of_none h1 hp)]; exact h1, h2, fun pos cv e => ?_⟩
  obtain ⟨cc, e1, e2⟩ := h3 pos cv e
  exact ⟨cc, e1, by rw [upd_ne (ne_of_none e2 hp)]; exact e2⟩
theorem rep_get (o : Obj) (n : Nat) (h : ∃ es ep, o.data = .dict es ep) (b : Nat) (hb : b < n) : ({ objs := Array.replicate n o } : Heap).get? b = some o := by
  obtain ⟨cl, di, da, sl⟩ := o
  obtain ⟨es, ep, h⟩ := h
  cases h
  unfold Heap.get?
  simp only [Array.getElem?_replicate, hb, if_true]
theorem xdO_code {a q : Addr} {o : Obj} {es : Array DictEntry} {ep : Nat} {x : Str} (h : o.data = .dict es ep) : xdO a o ≠ CodeO q x := fun z => by
  unfold xdO CodeO at z
  injection z with z
  have g1 := rep_get o (a + q + 1) ⟨es, ep, h⟩ a (by omega)
  have g2 := rep_get o (a + q + 1) ⟨es, ep, h⟩ q (by omega)
  have z1 := congrFun z ({ objs := Array.replicate (a + q + 1) o } : Heap)
  have g3 := z1.mp g1
  obtain ⟨oc, vs, t, e1, e2, _⟩ := g3
  rw [g2] at e1
  cases e1
  rw [h] at e2
  cases e2
theorem isCell_tbl {u : HO} (h : isCell u) (ps : Array Value) : u ≠ .tbl ps := fun z => by
  cases h <;> cases z
theorem isCell_code {u : HO} {a : Addr} {q : Str} (h : isCell u) : u ≠ CodeO a q := fun z => by
  cases h with
  | xd a o es ep h => exact xdO_code h z
  | lst => unfold CodeO at z; cases z
  | ins => unfold CodeO at z; cases z
  | dK => unfold CodeO at z; cases z
  | frz => unfold CodeO at z; cases z
theorem tabs_put {T : List (Addr × Str)} {p : Addr} {u o : HO} (t : Tabs T H) (hp : H p = some u) (n : isCell u) : Tabs T (upd H p o) := fun q hq => by
  obtain ⟨ps, h1, h2, h3⟩ := t q hq
  refine ⟨ps, ?_, h2, fun pos cv e => ?_⟩
  · have : q.1 ≠ p := fun z => by
      rw [z, hp] at h1
      exact isCell_tbl n ps (Option.some.inj h1)
    rw [upd_ne this]
    exact h1
  · obtain ⟨cc, e1, e2⟩ := h3 pos cv e
    refine ⟨cc, e1, ?_⟩
    have : cc ≠ p := fun z => by
      rw [z, hp] at e2
      exact isCell_code n (Option.some.inj e2)
    rw [upd_ne this]
    exact e2
theorem OkB.gnone (k : OkB c B G H own) {p : Addr} (hp : H p = none) : G p = none := by
  cases e : G p with
  | none => rfl
  | some o =>
    rw [k.sub p o e] at hp
    cases hp
theorem OkB.alloc (k : OkB c B G H own) {p : Addr} {o : HO} (hp : H p = none) (ho : isTbl o = false) : OkB c B (upd G p o) (upd H p o) own := by
  have gp := k.gnone hp
  refine ⟨fun a u e => ?_, fun a u e => ?_, k.nd, fun q hq => ?_, tabs_new k.tabs hp, k.pint, fun a u e => ⟨by rw [upd_ne (ne_of_none (k.pin a u e).1 hp)]; exact (k.pin a u e).1, (k.pin a u e).2⟩⟩
  · by_cases ha : a = p
    · subst ha
      rw [upd_same] at e ⊢
      exact e
    · rw [upd_ne ha] at e ⊢
      exact k.sub a u e
  · by_cases ha : a = p
    · subst ha
      rw [upd_same] at e
      cases e
      exact ho
    · rw [upd_ne ha] at e
      exact k.notbl a u e
  · obtain ⟨h1, h2⟩ := k.out q hq
    have ha : q ≠ p := fun z => h2 (by rw [z]; exact hp)
    rw [upd_ne ha, upd_ne ha]
    exact ⟨h1, h2⟩
/-- a new cell that may be changed -/
theorem OkB.allocO (k : OkB c B G H own) {p : Addr} {o : HO} (hp : H p = none) : OkB c B G (upd H p o) (p :: own) := by
  have gp := k.gnone hp
  refine ⟨fun a u e => ?_, k.notbl, ?_, fun q hq => ?_, tabs_new k.tabs hp, k.pint, fun a u e => ⟨by rw [upd_ne (ne_of_none (k.pin a u e).1 hp)]; exact (k.pin a u e).1, fun hm => ?_⟩⟩
  · have ha : a ≠ p := fun z => by rw [z, gp] at e; cases e
    rw [upd_ne ha]
    exact k.sub a u e
  · rw [List.nodup_cons]
    exact ⟨fun hm => (k.out p hm).2 hp, k.nd⟩
  · rcases List.mem_cons.mp hq with rfl | hq
    · exact ⟨gp, by rw [upd_same]; simp⟩
    · obtain ⟨h1, h2⟩ := k.out q hq
      have ha : q ≠ p := fun z => h2 (by rw [z]; exact hp)
      rw [upd_ne ha]
      exact ⟨h1, h2⟩
  · rcases List.mem_cons.mp hm with rfl | hm
    · rw [(k.pin _ u e).1] at hp
      cases hp
    · exact (k.pin a u e).2 hm
/-- an owned cell stays from here on -/
theorem OkB.freeze {p : Addr} {o : HO} (k : OkB c B G H own) (hp : p ∈ own) (e : H p = some o) (ho : isTbl o = false) (h1 : ∀ q ∈ own', q ∈ own ∧ q ≠ p) (h2 : own'.Nodup) : OkB c B (upd G p o) H own' := by
  obtain ⟨gp, _⟩ := k.out _ hp
  refine ⟨fun a u e' => ?_, fun a u e' => ?_, h2, fun q hq => ?_, k.tabs, k.pint, fun a u e => ⟨(k.pin a u e).1, fun hm => (k.pin a u e).2 (h1 a hm).1⟩⟩
  · by_cases ha : a = p
    · subst ha
      rw [upd_same] at e'
      rw [e, ← e']
    · rw [upd_ne ha] at e'
      exact k.sub a u e'
  · by_cases ha : a = p
    · subst ha
      rw [upd_same] at e'
      cases e'
      exact ho
    · rw [upd_ne ha] at e'
      exact k.notbl a u e'
  · obtain ⟨m, ne⟩ := h1 q hq
    obtain ⟨h1, h2⟩ := k.out q m
    rw [upd_ne ne]
    exact ⟨h1, h2⟩
/-- an owned cell is written -/
theorem OkB.write {p : Addr} {u o : HO} (k : OkB c B G H own) (hp : p ∈ own) (e : H p = some u) (hu : isCell u) : OkB c B G (upd H p o) own := by
  obtain ⟨gp, _⟩ := k.out _ hp
  refine ⟨fun a u' e' => ?_, k.notbl, k.nd, fun q hq => ?_, tabs_put k.tabs e hu, k.pint, fun a u' e' => ⟨by rw [upd_ne fun z : a = p => (k.pin a u' e').2 (z ▸ hp)]; exact (k.pin a u' e').1, (k.pin a u' e').2⟩⟩
  · have ha : a ≠ p := fun z => by rw [z, gp] at e'; cases e'
    rw [upd_ne ha]
    exact k.sub a u' e'
  · obtain ⟨h1, h2⟩ := k.out q hq
    refine ⟨h1, ?_⟩
    by_cases ha : q = p
    · rw [ha, upd_same]
      simp
    · rw [upd_ne ha]
      exact h2
end
end Fx
/-! what a reading makes of a state -/
namespace Fx
open PySem PySem.Spec PyProof.Rows L2
open LamX (Tabs TabS TabB ExtN CodeO codeO_ne)
/-- data that wait, the last one first -/
abbrev tmp (ds : List D) : En := ds.reverse.map fun x => some (S.d x)
abbrev tmv (us : List V) : List (Option V) := us.reverse.map some
section
variable {c : Cfg} {B : Base} {G H H' : Hp} {own own' : Owns} {ts : En} {vs : List (Option V)} {ρ : En} {σ : L2.St}
theorem Sl.tmpR : ∀ {ds : List D} {us : List V} {own : Owns}, us.length = ds.length → Sl c B G H (ds.map (fun x => some (S.d x)) ++ ts) (us.map some ++ vs) own → RpAll c G us ds ∧ Sl c B G H ts vs own
  | [], [], _, _, h => ⟨.nil, h⟩
  | [], _ :: _, _, e, _ => by simp at e
  | _ :: _, [], _, e, _ => by simp at e
  | x :: ds, u :: us, _, e, h => by
    cases h with
    | d h k =>
      obtain ⟨h1, h2⟩ := Sl.tmpR (by simpa using e) k
      exact ⟨.cons h h1, h2⟩
theorem Sl.tmp {ds : List D} {us : List V} (e : us.length = ds.length) (h : Sl c B G H (tmp ds ++ ts) (tmv us ++ vs) own) : RpAll c G us ds ∧ Sl c B G H ts vs own := by
  obtain ⟨h1, h2⟩ := Sl.tmpR (by simpa using e) h
  refine ⟨?_, h2⟩
  have := h1.rev
  simpa using this
theorem upd_sub {p : Addr} {o : HO} (h : G p = none) : ∀ a u, G a = some u → upd G p o a = some u := fun a u e => by
  rw [upd_ne (ne_of_none e h)]
  exact e
/-- the owned cells stay behind a new object -/
theorem own_new {p : Addr} {o : HO} (k : OkB c B G H own) (hp : H p = none) : ∀ q ∈ own, upd H p o q = H q := fun q hq => by
  have ha : q ≠ p := fun z => (k.out q hq).2 (by rw [z]; exact hp)
  rw [upd_ne ha]
/-- a new object of what waits -/
theorem Rep.new {ds : List D} {us : List V} {p : Addr} {o : HO} {x : D} (r : Rep c B (tmp ds ++ ts) (tmv us ++ vs) ρ σ H) (hl : us.length = ds.length) (hp : H p = none) (ho : isTbl o = false) (hx : ∀ G', G' p = some o → RpAll c G' us ds → Rp c G' (.ref p) x) :
    Rep c B (some (.d x) :: ts) (some (.ref p) :: vs) ρ σ (upd H p o) := by
  obtain ⟨G, o1, o2, k, h1, h2⟩ := r
  obtain ⟨a1, a2⟩ := h1.tmp hl
  have gp := k.gnone hp
  have ow := own_new (o := o) k hp
  exact ⟨upd G p o, o1, o2, k.alloc hp ho, .d (hx _ upd_same (a1.mono (upd_sub gp))) (a2.mono (upd_sub gp) fun q hq => ow q (List.mem_append_left _ hq)), h2.mono (upd_sub gp) fun q hq => ow q (List.mem_append_right _ hq)⟩
theorem Rep.newO {ds : List D} {us : List V} {p : Addr} {o : HO} {x : D} (r : Rep c B (tmp ds ++ ts) (tmv us ++ vs) ρ σ H) (hl : us.length = ds.length) (hp : H p = none) (hx : ∀ G H', H' p = some o → RpAll c G us ds → Cell c G H' p x) :
    Rep c B (some (.o none x) :: ts) (some (.ref p) :: vs) ρ σ (upd H p o) := by
  obtain ⟨G, o1, o2, k, h1, h2⟩ := r
  obtain ⟨a1, a2⟩ := h1.tmp hl
  have ow := own_new (o := o) k hp
  refine ⟨G, p :: o1, o2, k.allocO hp, .o (hx _ _ upd_same a1) (fun _ e => nomatch e) (a2.mono (fun _ _ e => e) fun q hq => ow q (List.mem_append_left _ hq)), h2.mono (fun _ _ e => e) fun q hq => ow q (List.mem_append_right _ hq)⟩
/-- what waits gives a value, the heap as it is -/
theorem Rep.repl {ds : List D} {us : List V} {v : V} {x : D} (r : Rep c B (tmp ds ++ ts) (tmv us ++ vs) ρ σ H) (hl : us.length = ds.length) (hx : ∀ G, RpAll c G us ds → Rp c G v x) : Rep c B (some (.d x) :: ts) (some v :: vs) ρ σ H := by
  obtain ⟨G, o1, o2, k, h1, h2⟩ := r
  obtain ⟨a1, a2⟩ := h1.tmp hl
  exact ⟨G, o1, o2, k, .d (hx _ a1) a2, h2⟩
theorem Rep.drop {s : Option S} {v : Option V} (r : Rep c B (s :: ts) (v :: vs) ρ σ H) : Rep c B ts vs ρ σ H := by
  obtain ⟨G, o1, o2, k, h1, h2⟩ := r
  cases h1 with
  | skip h => exact ⟨G, _, o2, k, h, h2⟩
  | d _ h => exact ⟨G, _, o2, k, h, h2⟩
  | o _ _ h =>
    refine ⟨G, _, o2, k.subO (fun p hp => List.mem_cons_of_mem _ hp) ?_, h, h2⟩
    have := k.nd
    rw [List.cons_append, List.nodup_cons] at this
    exact this.2
  | q _ h =>
    refine ⟨G, _, o2, k.subO (fun p hp => ?_) ?_, h, h2⟩
    · rw [List.append_assoc]
      exact List.mem_append_right _ hp
    · have := k.nd
      rw [List.append_assoc] at this
      exact (List.nodup_append.mp this).2.1
theorem Rep.dropN {ds : List D} {us : List V} (hl : us.length = ds.length) (r : Rep c B (tmp ds ++ ts) (tmv us ++ vs) ρ σ H) : Rep c B ts vs ρ σ H := by
  obtain ⟨G, o1, o2, k, h1, h2⟩ := r
  exact ⟨G, o1, o2, k, (h1.tmp hl).2, h2⟩
def canFz : D → Bool
  | .lst _ => true
  | .dct _ _ => true
  | _ => false
theorem Cell.fz {a : Addr} {x : D} (hx : canFz x = true) (hc : Cell c G H a x) : ∃ o, H a = some o ∧ isTbl o = false ∧ ∀ G', (∀ b u, G b = some u → G' b = some u) → G' a = some o → Rp c G' (.ref a) x := by
  cases x with
  | lst ds =>
    obtain ⟨vs, h, k⟩ := hc
    exact ⟨_, h, rfl, fun G' s e => .lst e (k.mono s)⟩
  | dct ks ds =>
    obtain ⟨o, kv, us, h, d, k1, k2⟩ := hc
    exact ⟨_, h, rfl, fun G' s e => .dcx e d (k1.mono s) (k2.mono s)⟩
  | _ => cases hx
/-- a new cell stays from here on -/
theorem Rep.fz {x : D} {v : V} (hx : canFz x = true) (r : Rep c B (some (.o none x) :: ts) (some v :: vs) ρ σ H) : Rep c B (some (.d x) :: ts) (some v :: vs) ρ σ H := by
  obtain ⟨G, o1, o2, k, h1, h2⟩ := r
  cases h1 with
  | @o a _ _ _ _ own hc hb h =>
    obtain ⟨o, e, ho, f⟩ := hc.fz hx
    have nd := k.nd
    rw [List.cons_append, List.nodup_cons] at nd
    have gp := (k.out _ (List.mem_append_left _ List.mem_cons_self)).1
    exact ⟨upd G a o, own, o2, k.freeze (List.mem_append_left _ List.mem_cons_self) e ho (fun q hq => ⟨List.mem_cons_of_mem _ hq, fun z => nd.1 (z ▸ hq)⟩) nd.2, .d (f _ (upd_sub gp) upd_same) (h.mono (upd_sub gp) fun _ _ => rfl), h2.mono (upd_sub gp) fun _ _ => rfl⟩
/-- a name's cell stays from here on -/
theorem Sl.fzAt : ∀ {es : En} {vs : List (Option V)} {own : Owns} {i : Nat} {b : Option Nat} {x : D} {a : Addr}, own.Nodup → Sl c B G H es vs own → es[i]? = some (some (.o b x)) → vs[i]? = some (some (.ref a)) → Rp c G (.ref a) x →
    ∃ own', Sl c B G H (es.set i (some (.d x))) vs own' ∧ (∀ q ∈ own', q ∈ own ∧ q ≠ a) ∧ own'.Nodup := by
  intro es
  induction es with
  | nil => intro vs own i b x a _ _ e; simp at e
  | cons s es ih =>
    intro vs own i b x a nd h e ev hr
    cases h with
    | skip k =>
      cases i with
      | zero => simp at e
      | succ i =>
        obtain ⟨own', h1, h2, h3⟩ := ih nd k (by simpa using e) (by simpa using ev) hr
        exact ⟨own', .skip h1, h2, h3⟩
    | d hh k =>
      cases i with
      | zero => simp at e
      | succ i =>
        obtain ⟨own', h1, h2, h3⟩ := ih nd k (by simpa using e) (by simpa using ev) hr
        exact ⟨own', .d hh h1, h2, h3⟩
    | @o a' b' x' _ _ own hh hb k =>
      rw [List.nodup_cons] at nd
      cases i with
      | zero =>
        simp at e ev
        obtain ⟨rfl, rfl⟩ := e
        subst ev
        exact ⟨own, .d hr k, fun q hq => ⟨List.mem_cons_of_mem _ hq, fun z => nd.1 (z ▸ hq)⟩, nd.2⟩
      | succ i =>
        have e' : es[i]? = some (some (.o b x)) := by simpa using e
        obtain ⟨a2, e2, _, m2, _⟩ := k.getO e'
        obtain ⟨own', h1, h2, h3⟩ := ih nd.2 k e' (by simpa using ev) hr
        have ea : a2 = a := by
          have : _ = some (some (V.ref a)) := (by simpa using ev)
          rw [this] at e2
          cases e2
          rfl
        subst ea
        refine ⟨a' :: own', .o hh hb h1, fun q hq => ?_, ?_⟩
        · rcases List.mem_cons.mp hq with rfl | hq
          · exact ⟨List.mem_cons_self, fun z => nd.1 (z ▸ m2)⟩
          · exact ⟨List.mem_cons_of_mem _ (h2 q hq).1, (h2 q hq).2⟩
        · rw [List.nodup_cons]
          exact ⟨fun hm => nd.1 (h2 a' hm).1, h3⟩
    | @q a' ks' dss' _ _ qs own hh k =>
      cases i with
      | zero => simp at e
      | succ i =>
        have e' : es[i]? = some (some (.o b x)) := by simpa using e
        obtain ⟨a2, e2, _, m2, _⟩ := k.getO e'
        have n2 := (List.nodup_append.mp nd)
        obtain ⟨own', h1, h2, h3⟩ := ih n2.2.1 k e' (by simpa using ev) hr
        have ea : a2 = a := by
          have : _ = some (some (V.ref a)) := (by simpa using ev)
          rw [this] at e2
          cases e2
          rfl
        subst ea
        refine ⟨qs ++ own', .q hh h1, fun q hq => ?_, nodup_sub nd (fun p hp => (h2 p hp).1) h3⟩
        rcases List.mem_append.mp hq with hq | hq
        · exact ⟨List.mem_append_left _ hq, fun z => n2.2.2 q hq a2 m2 z⟩
        · exact ⟨List.mem_append_right _ (h2 q hq).1, (h2 q hq).2⟩
theorem Rep.fzAt {i : Nat} {b : Option Nat} {x : D} (hx : canFz x = true) (e : ρ[i]? = some (some (.o b x))) (r : Rep c B ts vs ρ σ H) : Rep c B ts vs (ρ.set i (some (.d x))) σ H := by
  obtain ⟨G, o1, o2, k, h1, h2⟩ := r
  obtain ⟨a, ev, hc, hm, _⟩ := h2.getO e
  obtain ⟨o, eo, ho, f⟩ := hc.fz hx
  have gp := (k.out _ (List.mem_append_right _ hm)).1
  have nd := k.nd
  rw [List.nodup_append] at nd
  obtain ⟨n1, n2, n3⟩ := nd
  obtain ⟨own', g1, g2, g3⟩ := (h2.mono (upd_sub (o := o) gp) (fun _ _ => rfl) (H' := H)).fzAt n2 e ev (f _ (upd_sub gp) upd_same)
  refine ⟨upd G a o, o1, own', k.freeze (List.mem_append_right _ hm) eo ho (fun q hq => ?_) ?_, h1.mono (upd_sub gp) fun _ _ => rfl, g1⟩
  · rcases List.mem_append.mp hq with hq | hq
    · exact ⟨List.mem_append_left _ hq, fun z => n3 q hq a hm z⟩
    · exact ⟨List.mem_append_right _ (g2 q hq).1, (g2 q hq).2⟩
  · rw [List.nodup_append]
    exact ⟨n1, g3, fun x hx y hy => n3 x hx y (g2 y hy).1⟩
theorem Rep.var {i : Nat} {x : D} (e : ρ[i]? = some (some (.d x))) (r : Rep c B ts vs ρ σ H) : ∃ v, σ[i]? = some (some v) ∧ Rep c B (some (.d x) :: ts) (some v :: vs) ρ σ H := by
  obtain ⟨G, o1, o2, k, h1, h2⟩ := r
  obtain ⟨v, e1, hr⟩ := h2.getD e
  exact ⟨v, e1, G, o1, o2, k, .d hr h1, h2⟩
theorem Rep.varO {i : Nat} {b : Option Nat} {x : D} (e : ρ[i]? = some (some (.o b x))) (r : Rep c B ts vs ρ σ H) : ∃ a, σ[i]? = some (some (.ref a)) ∧ ∃ G, (∀ a o, G a = some o → H a = some o) ∧ Cell c G H a x := by
  obtain ⟨G, o1, o2, k, h1, h2⟩ := r
  obtain ⟨a, e1, hr, _⟩ := h2.getO e
  exact ⟨a, e1, G, k.sub, hr⟩
/-- a value is stored -/
theorem Rep.set {i : Nat} {s : S} {v : V} (r : Rep c B (some s :: ts) (some v :: vs) ρ σ H) : Rep c B ts vs (ρ.set i (some s)) (σ.set i (some v)) H := by
  obtain ⟨G, o1, o2, k, h1, h2⟩ := r
  obtain ⟨w, os, o1', ew, e1, rfl, h1'⟩ := h1.unone
  cases ew
  obtain ⟨own', g1, g2, g3⟩ := h2.set i e1
  have nd := k.nd
  rw [List.append_assoc, List.nodup_append, List.nodup_append] at nd
  obtain ⟨n1, ⟨n2, n4, n5⟩, n3⟩ := nd
  refine ⟨G, o1', own', k.subO (fun p hp => ?_) ?_, h1', g1⟩
  · rcases List.mem_append.mp hp with hp | hp
    · exact List.mem_append_left _ (List.mem_append_right _ hp)
    · rcases g2 p hp with q | q
      · exact List.mem_append_left _ (List.mem_append_left _ q)
      · exact List.mem_append_right _ q
  · rw [List.nodup_append]
    refine ⟨n2, g3 ?_, fun x hx y hy z => ?_⟩
    · rw [List.nodup_append]
      exact ⟨n1, n4, fun x hx y hy => n3 x hx y (List.mem_append_right _ hy)⟩
    · rcases g2 y hy with hq | hq
      · exact n3 y hq x (List.mem_append_left _ hx) z.symm
      · exact n5 x hx y hq z
theorem Rep.forget {i : Nat} (w : Option V) (r : Rep c B ts vs ρ σ H) : Rep c B ts vs (ρ.set i none) (σ.set i w) H := by
  obtain ⟨G, o1, o2, k, h1, h2⟩ := r
  obtain ⟨own', g1, g2, g3⟩ := h2.forget i w
  have nd := k.nd
  rw [List.nodup_append] at nd
  refine ⟨G, o1, own', k.subO (fun p hp => (List.mem_append.mp hp).elim (List.mem_append_left _) fun h => List.mem_append_right _ (g2 p h)) ?_, h1, g1⟩
  rw [List.nodup_append]
  exact ⟨nd.1, g3 nd.2.1, fun x hx y hy => nd.2.2 x hx y (g2 y hy)⟩
/-- a name's cell is written -/
theorem Sl.write : ∀ {es : En} {vs : List (Option V)} {own : Owns} {i : Nat} {b : Option Nat} {x y : D} {a : Addr}, own.Nodup → Sl c B G H es vs own → es[i]? = some (some (.o b x)) → vs[i]? = some (some (.ref a)) → (∀ q, q ≠ a → H' q = H q) → Cell c G H' a y →
    Sl c B G H' (es.set i (some (.o b y))) vs own := by
  intro es
  induction es with
  | nil => intro vs own i b x y a _ _ e; simp at e
  | cons s es ih =>
    intro vs own i b x y a nd h e ev hh hc
    cases h with
    | skip k =>
      cases i with
      | zero => simp at e
      | succ i => exact .skip (ih nd k (by simpa using e) (by simpa using ev) hh hc)
    | d hr k =>
      cases i with
      | zero => simp at e
      | succ i => exact .d hr (ih nd k (by simpa using e) (by simpa using ev) hh hc)
    | @o a' b' x' _ _ own ho hb k =>
      rw [List.nodup_cons] at nd
      cases i with
      | zero =>
        simp at e ev
        obtain ⟨rfl, rfl⟩ := e
        subst ev
        exact .o hc hb (k.mono (fun _ _ e => e) fun q hq => hh _ fun z => nd.1 (z ▸ hq))
      | succ i =>
        have e' : es[i]? = some (some (.o b x)) := by simpa using e
        obtain ⟨a2, e2, _, m2, _⟩ := k.getO e'
        have ea : a2 = a := by
          have : _ = some (some (V.ref a)) := (by simpa using ev)
          rw [this] at e2
          cases e2
          rfl
        subst ea
        have na : a' ≠ a2 := fun z => nd.1 (z ▸ m2)
        exact .o (ho.mono (fun _ _ e => e) (hh _ na)) hb (ih nd.2 k e' (by simpa using ev) hh hc)
    | @q a' ks' dss' _ _ qs own ho k =>
      cases i with
      | zero => simp at e
      | succ i =>
        have e' : es[i]? = some (some (.o b x)) := by simpa using e
        obtain ⟨a2, e2, _, m2, _⟩ := k.getO e'
        have n2 := (List.nodup_append.mp nd)
        have ea : a2 = a := by
          have : _ = some (some (V.ref a)) := (by simpa using ev)
          rw [this] at e2
          cases e2
          rfl
        subst ea
        exact .q (ho.mono (fun _ _ e => e) fun p hp => hh _ fun z => n2.2.2 p hp a2 m2 z) (ih n2.2.1 k e' (by simpa using ev) hh hc)
theorem Rep.write {ds : List D} {us : List V} {i : Nat} {b : Option Nat} {x y : D} {a : Addr} {u o : HO} (e : ρ[i]? = some (some (.o b x))) (ev : σ[i]? = some (some (.ref a))) (hl : us.length = ds.length) (r : Rep c B (tmp ds ++ ts) (tmv us ++ vs) ρ σ H) (hu : H a = some u) (cu : isCell u)
    (hy : ∀ G H', H' a = some o → Cell c G H a x → RpAll c G us ds → Cell c G H' a y) : Rep c B ts vs (ρ.set i (some (.o b y))) σ (upd H a o) := by
  obtain ⟨G, o1, o2, k, h1, h2⟩ := r
  obtain ⟨a1, a2⟩ := h1.tmp hl
  obtain ⟨a', e1, hc, hm, _⟩ := h2.getO e
  rw [ev] at e1
  cases e1
  have nd := k.nd
  rw [List.nodup_append] at nd
  refine ⟨G, o1, o2, k.write (List.mem_append_right _ hm) hu cu, a2.mono (fun _ _ e => e) fun q hq => ?_, h2.write nd.2.1 e ev (fun q hq => upd_ne hq) (hy G _ upd_same hc a1)⟩
  exact upd_ne fun z => nd.2.2 q hq a hm z
end
/-! ### what a reading makes of a state -/
def Post {α : Type} (K : α → En → Prop) (E : Err → En → Prop) : Out α → Prop
  | .ok a ρ => K a ρ
  | .err e ρ => E e ρ
  | .stuck => False
theorem post_then {α β : Type} {K : β → En → Prop} {E : Err → En → Prop} {m : Out α} {f : α → En → Out β} : Post K E (m.then f) ↔ Post (fun a ρ => Post K E (f a ρ)) E m := by
  cases m <;> exact Iff.rfl
theorem Post.imp {α : Type} {K K' : α → En → Prop} {E E' : Err → En → Prop} {m : Out α} (h : Post K E m) (hk : ∀ a ρ, K a ρ → K' a ρ) (he : ∀ e ρ, E e ρ → E' e ρ) : Post K' E' m := by
  cases m with
  | ok a ρ => exact hk _ _ h
  | err e ρ => exact he _ _ h
  | stuck => exact h
theorem Post.imp1 {α : Type} {K K' : α → En → Prop} {E : Err → En → Prop} {m : Out α} (h : Post K E m) (hk : ∀ a ρ, K a ρ → K' a ρ) : Post K' E m := h.imp hk fun _ _ h => h
section
variable (c : Cfg) (W : WX)
/-- what is wanted of an exception -/
def ErrP (B : Base) (ts : En) (vs : List (Option V)) (σ : L2.St) (e : Err) (ρ : En) : Prop := ∀ k d H', c.err e k d H' → Rep c B ts vs ρ σ H' → W k d σ H'
def OkP (B : Base) (ts : En) (vs : List (Option V)) (σ : L2.St) (Q : VK) (s : S) (ρ : En) : Prop := ∀ v H', Rep c B (some s :: ts) (some v :: vs) ρ σ H' → Q v H'
def OkT (B : Base) (ts : En) (vs : List (Option V)) (σ : L2.St) (Q : Bool → Hp → Prop) (b : Bool) (ρ : En) : Prop := ∀ H', Rep c B ts vs ρ σ H' → Q b H'
def OkA (B : Base) (ts : En) (vs : List (Option V)) (σ : L2.St) (Q : List V → Hp → Prop) (ds : List D) (ρ : En) : Prop := ∀ us H', us.length = ds.length → Rep c B (tmp ds ++ ts) (tmv us ++ vs) ρ σ H' → Q us H'
def Den (te : TE) (f : M S) : Prop := ∀ B ts vs ρ σ H Q, Rep c B ts vs ρ σ H → Post (OkP c B ts vs σ Q) (ErrP c W B ts vs σ) (f ρ) → te σ H Q
def DenT (tt : TT) (f : M Bool) : Prop := ∀ B ts vs ρ σ H Q, Rep c B ts vs ρ σ H → Post (OkT c B ts vs σ Q) (ErrP c W B ts vs σ) (f ρ) → tt σ H Q
def DenA (ta : TA) (f : M (List D)) : Prop := ∀ B ts vs ρ σ H Q, Rep c B ts vs ρ σ H → Post (OkA c B ts vs σ Q) (ErrP c W B ts vs σ) (f ρ) → ta σ H Q
end
/-- a value that stays -/
def toD : S → Option D
  | .d x => some x
  | .o none x => if canFz x then some x else none
  | .o (some _) _ => none
  | .q _ _ => none
def dv (f : M S) : M D := fun ρ => (f ρ).then fun s ρ' => match toD s with
  | some x => .ok x ρ'
  | none => .stuck
section
variable {c : Cfg} {W : WX} {B : Base} {H : Hp} {ts : En} {vs : List (Option V)} {ρ : En} {σ : L2.St}
theorem ErrP.drop {s : Option S} {v : Option V} {e : Err} {ρ : En} (h : ErrP c W B ts vs σ e ρ) : ErrP c W B (s :: ts) (v :: vs) σ e ρ := fun k d H' he r => h k d H' he r.drop
theorem Rep.toD {s : S} {x : D} {v : V} (h : toD s = some x) (r : Rep c B (some s :: ts) (some v :: vs) ρ σ H) : Rep c B (some (.d x) :: ts) (some v :: vs) ρ σ H := by
  cases s with
  | d y => cases h; exact r
  | o b y =>
    cases b with
    | some _ => cases h
    | none =>
      have h : (if canFz y then some y else none) = some x := h
      split at h
      · rename_i hy
        cases h
        exact r.fz hy
      · cases h
  | q _ _ => cases h
theorem Den.dv {te : TE} {f : M S} {Q : VK} (h : Den c W te f) (r : Rep c B ts vs ρ σ H) (q : Post (fun x ρ' => ∀ v H', Rep c B (some (.d x) :: ts) (some v :: vs) ρ' σ H' → Q v H') (ErrP c W B ts vs σ) (dv f ρ)) : te σ H Q := by
  refine h B ts vs ρ σ H Q r ?_
  unfold Fx.dv at q
  rw [post_then] at q
  refine q.imp1 fun s ρ' p v H' r' => ?_
  split at p
  · rename_i x hx
    exact p v H' (r'.toD hx)
  · exact p.elim
end
def mVar (i : Nat) : M S := fun ρ => match ρ[i]? with
  | some (some (.d x)) => .ok (.d x) ρ
  | some (some (.o none x)) => if canFz x then .ok (.d x) (ρ.set i (some (.d x))) else .stuck
  | _ => .stuck
def mC (x : D) : M S := fun ρ => .ok (.d x) ρ
/-- a value of two, one, some -/
def mOp (g : D → D → Option S) (fa fb : M S) : M S := fun ρ => (dv fa ρ).then fun x ρ1 => (dv fb ρ1).then fun y ρ2 => match g x y with
  | some s => .ok s ρ2
  | none => .stuck
def mUn (g : D → Option S) (fa : M S) : M S := fun ρ => (dv fa ρ).then fun x ρ1 => match g x with
  | some s => .ok s ρ1
  | none => .stuck
def aNil : M (List D) := fun ρ => .ok [] ρ
def aCons (fa : M S) (fr : M (List D)) : M (List D) := fun ρ => (dv fa ρ).then fun x ρ1 => (fr ρ1).then fun ds ρ2 => .ok (x :: ds) ρ2
def mCB (g : List D → Option S) (fa : M (List D)) : M S := fun ρ => (fa ρ).then fun ds ρ1 => match g ds with
  | some s => .ok s ρ1
  | none => .stuck
/-- an operation on values does on data what g does -/
def OpDen (c : Cfg) (r : R2) (g : D → D → Option S) : Prop := ∀ (B : Base) (ts : En) (vs : List (Option V)) (ρ : En) (σ : L2.St) (H : Hp) (Q : VK) (x y : D) (v u : V) (s : S),
  Rep c B (some (.d y) :: some (.d x) :: ts) (some u :: some v :: vs) ρ σ H → g x y = some s → OkP c B ts vs σ Q s ρ → r v u H Q
def UnDen (c : Cfg) (r : V → Hp → VK → Prop) (g : D → Option S) : Prop := ∀ (B : Base) (ts : En) (vs : List (Option V)) (ρ : En) (σ : L2.St) (H : Hp) (Q : VK) (x : D) (v : V) (s : S),
  Rep c B (some (.d x) :: ts) (some v :: vs) ρ σ H → g x = some s → OkP c B ts vs σ Q s ρ → r v H Q
def CbDen (c : Cfg) (r : List V → Hp → VK → Prop) (g : List D → Option S) : Prop := ∀ (B : Base) (ts : En) (vs : List (Option V)) (ρ : En) (σ : L2.St) (H : Hp) (Q : VK) (ds : List D) (us : List V) (s : S),
  us.length = ds.length → Rep c B (tmp ds ++ ts) (tmv us ++ vs) ρ σ H → g ds = some s → OkP c B ts vs σ Q s ρ → r us H Q
section
variable {c : Cfg} {W : WX} {ta tb tc : TE} {fa fb fc : M S} {tt tu : TT} {ft fu : M Bool}
theorem den_var {i : Nat} : Den c W (tVar i) (mVar i) := by
  intro B ts vs ρ σ H Q r h
  unfold mVar at h
  split at h
  · rename_i x e
    obtain ⟨v, e1, r1⟩ := r.var e
    exact ⟨v, e1, h v H r1⟩
  · rename_i x e
    split at h
    · rename_i hx
      have r1 := r.fzAt hx e
      have hlt := (List.getElem?_eq_some_iff.mp e).1
      have e2 : (ρ.set i (some (.d x)))[i]? = some (some (.d x)) := by rw [List.getElem?_set_self hlt]
      obtain ⟨v, e1, r2⟩ := r1.var e2
      exact ⟨v, e1, h v H r2⟩
    · exact h.elim
  · exact h.elim
theorem den_c {v : V} {x : D} (hx : ∀ G, Rp c G v x) : Den c W (tC v) (mC x) := fun B ts vs ρ σ H Q r h => h v H (Rep.repl (ds := []) (us := []) r rfl fun G _ => hx G)
theorem den_op {r : R2} {g : D → D → Option S} (ho : OpDen c r g) (ha : Den c W ta fa) (hb : Den c W tb fb) : Den c W (tOp r ta tb) (mOp g fa fb) := by
  intro B ts vs ρ σ H Q rp h
  unfold mOp at h
  rw [post_then] at h
  refine ha.dv rp (h.imp1 fun x ρ1 h v H1 r1 => ?_)
  rw [post_then] at h
  refine hb.dv r1 (h.imp (fun y ρ2 h u H2 r2 => ?_) fun _ _ h => h.drop)
  split at h
  · rename_i s hs
    exact ho B ts vs ρ2 σ H2 Q x y v u s r2 hs h
  · exact h.elim
theorem den_un {r : V → Hp → VK → Prop} {g : D → Option S} (ho : UnDen c r g) (ha : Den c W ta fa) : Den c W (tUn r ta) (mUn g fa) := by
  intro B ts vs ρ σ H Q rp h
  unfold mUn at h
  rw [post_then] at h
  refine ha.dv rp (h.imp1 fun x ρ1 h v H1 r1 => ?_)
  split at h
  · rename_i s hs
    exact ho B ts vs ρ1 σ H1 Q x v s r1 hs h
  · exact h.elim
theorem den_nil : DenA c W tNil aNil := fun B ts vs ρ σ H Q r h => h [] H rfl r
theorem den_cons {tr : TA} {fr : M (List D)} (ha : Den c W ta fa) (hr : DenA c W tr fr) : DenA c W (tCons ta tr) (aCons fa fr) := by
  intro B ts vs ρ σ H Q rp h
  unfold aCons at h
  rw [post_then] at h
  refine ha.dv rp (h.imp1 fun x ρ1 h v H1 r1 => ?_)
  rw [post_then] at h
  refine hr B _ _ ρ1 σ H1 _ r1 (h.imp (fun ds ρ2 h us H2 hl r2 => ?_) fun _ _ h => h.drop)
  refine h (v :: us) H2 (by simp [hl]) ?_
  unfold tmp tmv
  rw [List.reverse_cons, List.map_append, List.reverse_cons, List.map_append, List.append_assoc, List.append_assoc]
  exact r2
theorem den_cb {r : List V → Hp → VK → Prop} {g : List D → Option S} {tA : TA} {fA : M (List D)} (ho : CbDen c r g) (ha : DenA c W tA fA) : Den c W (tCB r tA) (mCB g fA) := by
  intro B ts vs ρ σ H Q rp h
  unfold mCB at h
  rw [post_then] at h
  refine ha B ts vs ρ σ H _ rp (h.imp1 fun ds ρ1 h us H1 hl r1 => ?_)
  split at h
  · rename_i s hs
    exact ho B ts vs ρ1 σ H1 Q ds us s hl r1 hs h
  · exact h.elim
end
end Fx
/-! tuples that a def makes, with their objects: no attributes -/
namespace Fx
open PySem PySem.Spec PyProof.Rows L2
section
variable {X : Cx} {es : List Expr} {pos : Pos} {t : TA}
/-- what a new tuple's place holds -/
def NewT (H : Hp) (xs : List V) (Q : VK) : Prop := ∀ (p : Addr) (o : Obj), H p = none → o.dict = none → Q (.ref p) (upd H p (.frz o (.tup xs)))
theorem newT_laid {pins : List (Addr × Obj)} {σ : L2.St} {H : Hp} {s : Shared} {xs : List V} {us : List Value} {Q : VK} (I : Inv X pins σ H s) (z : xs.length ≤ sizeLine) (r : Vals xs us) (q : NewT H xs Q) :
    EP X pins σ Q (.ref s.heap.objs.size) { s with heap := s.heap.push { cls := .type "tuple", data := .seq us.toArray } } := by
  have free : H s.heap.objs.size = none := I.hok.fresh (Nat.le_refl _)
  have isT : IsTup (s.heap.push { cls := .type "tuple", data := .seq us.toArray }) s.heap.objs.size us.toArray := IsTup.new _ _
  have got : (s.heap.push { cls := .type "tuple", data := .seq us.toArray }).get? s.heap.objs.size = some { cls := .type "tuple", data := .seq us.toArray } := Heap.get?_push_size _ rfl
  refine ⟨.ref s.heap.objs.size, _, I.laid (t' := s.toks) (o := .frz { cls := .type "tuple", data := .seq us.toArray } (.tup xs)) (fun _ _ e => Heap.get?_push_of_some _ e) (Nat.le_refl _) ⟨got, z, us, r, isT⟩, rfl, q _ _ free rfl⟩
def tTupN (t : TA) : TE := fun σ H Q => t σ H fun xs H1 => xs.length ≤ sizeLine ∧ NewT H1 xs Q
theorem pe_tupN {kk} (h : PA X es t) : PE X (.Tuple es kk pos) (tTupN t) :=
  ⟨fun pins s σ H Q I hq => wpAny_Tuple_spliced (thn (h.run pos pins s σ H _ I hq) fun us s1 ⟨xs, H1, I1, r, z, q⟩ => ⟨r.length ▸ z, newT_laid I1 z r q⟩)⟩
/-- tuple(x) -/
def rTupN (K : PySem.W.Frag) : List V → Hp → VK → Prop := fun xs H Q => ∃ p ys, xs = [.ref p] ∧ ((SqL K H p ys ∧ NewT H ys Q) ∨ (SqT K H p ys ∧ Q (.ref p) H))
theorem call_tupN : CallR X (.type "tuple") (rTupN X.K) := by
  rintro pins s σ H xs us Q I r ⟨p, ys, rfl, hh⟩
  obtain ⟨u, rfl, rx⟩ := vals1 r
  cases rx
  cases hh with
  | inl hh =>
    obtain ⟨its, r', pl, hz⟩ := I.list hh.1
    refine call_tuple_list pl.isList (fun h' kp => newT_laid (I.kept (t' := s.toks) kp) hz r' hh.2) ?_
    have := r'.length
    simp only [List.size_toArray]
    omega
  | inr hh =>
    obtain ⟨its, r', pl, _⟩ := I.tuple hh.1
    exact call_tuple_same pl ⟨.ref p, H, I, rfl, hh.2⟩
/-- t + u -/
def rCatN (K : PySem.W.Frag) : R2 := fun x y H Q => ∃ a b xs ys, x = .ref a ∧ y = .ref b ∧ SqT K H a xs ∧ SqT K H b ys ∧ xs.length + ys.length ≤ sizeLine ∧
  (xs = [] → Q (.ref b) H) ∧ (xs ≠ [] → ys = [] → Q (.ref a) H) ∧ (xs ≠ [] → ys ≠ [] → NewT H (xs ++ ys) Q)
theorem op_catN : OpR X (binaryOp .Add) (rCatN X.K) := by
  rintro pins s σ H x y v u Q I rx ry ⟨a, b, xs, ys, rfl, rfl, ha, hb, hz, q0, q1, q2⟩
  cases rx
  cases ry
  obtain ⟨us, r1, p1, _⟩ := I.tuple ha
  obtain ⟨ws, r2, p2, _⟩ := I.tuple hb
  by_cases hx : xs = []
  · subst hx
    cases r1
    exact cat_tup0 p1 p2 ⟨.ref b, H, I, rfl, q0 rfl⟩
  · refine HT.cat_tup p1 p2 (fun z => hx (r1.nil_iff.mp z)) (fun z => ⟨.ref a, H, I, rfl, q1 hx (r2.nil_iff.mp z)⟩) (fun z => ?_) (by rw [← r1.length, ← r2.length]; exact hz)
    exact newT_laid I (by rw [List.length_append]; exact hz) (r1.append r2) (q2 hx fun w => z (r2.nil_iff.mpr w))
/-- t[lo:hi] -/
def rSlN (K : PySem.W.Frag) : V → Option Int → Option Int → Hp → VK → Prop := fun x lo hi H Q => ∃ a xs, x = .ref a ∧ SqT K H a xs ∧
  (HT.sIx xs.length 0 lo = 0 ∧ HT.sIx xs.length xs.length hi = xs.length → Q (.ref a) H) ∧ (¬ (HT.sIx xs.length 0 lo = 0 ∧ HT.sIx xs.length xs.length hi = xs.length) → NewT H (cutV xs lo hi) Q)
theorem sl_tupN : SlR X (rSlN X.K) := by
  rintro pins s σ H x v vl vu lo hi sl Q I rx hs pl pu ⟨a, xs, rfl, hx, q1, q2⟩
  cases rx
  obtain ⟨us, r, ht, hz⟩ := I.tuple hx
  have n : us.toArray.size = xs.length := by rw [List.size_toArray, r.length]
  refine ⟨"tuple", _, PyProof.Rows.slot_tuple_getitem.lookup, ht.typeIs, ?_⟩
  by_cases hw : HT.sIx xs.length 0 lo = 0 ∧ HT.sIx xs.length xs.length hi = xs.length
  · exact getItem_tuple_whole ht hs pl pu (n.symm ▸ hw) ⟨.ref a, H, I, rfl, q1 hw⟩
  · refine HT.getItem_tuple_cut ht hs pl pu (n.symm ▸ hw) ?_ (n.symm ▸ hz)
    rw [n]
    exact newT_laid I (Nat.le_trans (cutV_length xs lo hi) hz) ((r.drop (HT.sIx xs.length 0 lo)).take (HT.sIx xs.length xs.length hi - HT.sIx xs.length 0 lo)) (q2 hw)
end
end Fx
/-! operations on data -/
namespace Fx
open PySem PySem.Spec PyProof.Rows L2
/-! ### data as the library has them -/
mutual
/-- plain, at most n deep -/
def pl : Nat → D → Bool
  | _, .non => true
  | _, .bl _ => true
  | _, .int _ => true
  | _, .str _ => true
  | n + 1, .tup ds => plA n ds
  | n + 1, .lst ds => plA n ds
  | _, _ => false
def plA : Nat → List D → Bool
  | _, [] => true
  | n, d :: ds => pl n d && plA n ds
end
mutual
def toP : D → PyData
  | .non => .none
  | .bl b => .bool b
  | .int i => .int i
  | .str s => .str s
  | .tup ds => .tuple (toPs ds)
  | .lst ds => .list (toPs ds)
  | _ => .none
def toPs : List D → List PyData
  | [] => []
  | d :: ds => toP d :: toPs ds
end
theorem toPs_map : ∀ ds : List D, toPs ds = ds.map toP
  | [] => by simp [toPs]
  | d :: ds => by simp [toPs, toPs_map ds]
mutual
theorem pl_plain : ∀ {n : Nat} {d : D}, pl n d = true → (toP d).plain = true ∧ (toP d).depth ≤ n
  | n, .non, h => by simp [toP, PyData.plain, PyData.depth]
  | n, .bl b, h => by simp [toP, PyData.plain, PyData.depth]
  | n, .int i, h => by simp [toP, PyData.plain, PyData.depth]
  | n, .str s, h => by simp [toP, PyData.plain, PyData.depth]
  | n + 1, .tup ds, h => by
    have h := plA_plain (n := n) (ds := ds) (by simpa [pl] using h)
    simp only [toP, PyData.plain, PyData.depth]
    exact ⟨h.1, by omega⟩
  | n + 1, .lst ds, h => by
    have h := plA_plain (n := n) (ds := ds) (by simpa [pl] using h)
    simp only [toP, PyData.plain, PyData.depth]
    exact ⟨h.1, by omega⟩
  | 0, .tup ds, h => by simp [pl] at h
  | 0, .lst ds, h => by simp [pl] at h
  | n, .ty _, h => by simp [pl] at h
  | n, .ins _ _, h => by simp [pl] at h
  | n, .dct _ _, h => by simp [pl] at h
  | n, .dcq _ _, h => by simp [pl] at h
  | n, .xo _ _, h => by simp [pl] at h
  | n, .exc, h => by simp [pl] at h
  | n, .rng _ _, h => by simp [pl] at h
  | n, .fu, h => by simp [pl] at h
  | n, .scr _, h => by simp [pl] at h
theorem plA_plain : ∀ {n : Nat} {ds : List D}, plA n ds = true → PyData.plainAll (toPs ds) = true ∧ PyData.depthAll (toPs ds) ≤ n
  | _, [], _ => by simp [toPs, PyData.plainAll, PyData.depthAll]
  | n, d :: ds, h => by
    simp only [plA, Bool.and_eq_true] at h
    have h1 := pl_plain h.1
    have h2 := plA_plain h.2
    simp only [toPs, PyData.plainAll, PyData.depthAll, Bool.and_eq_true]
    exact ⟨⟨h1.1, h2.1⟩, by omega⟩
end
mutual
theorem Rp.dp {c : Cfg} {G H : Hp} (s : ∀ a o, G a = some o → H a = some o) : ∀ {n : Nat} {v : V} {d : D}, pl n d = true → Rp c G v d → Dp c.K H v (toP d)
  | _, _, _, _, .non => by simp only [toP]; exact .non
  | _, _, _, _, .bl b => by simp only [toP]; exact .bl b
  | _, _, _, _, .int i => by simp only [toP]; exact .int i
  | _, _, _, _, .str x => by simp only [toP]; exact .str x
  | n + 1, _, _, h, .tup t k _ => by
    simp only [toP]
    refine .tup ?_ (RpAll.dp s (n := n) (by simpa [pl] using h) k)
    rcases t with (t | ⟨o, t⟩) | t
    · exact .inl (.inl (s _ _ t))
    · exact .inl (.inr ⟨o, s _ _ t⟩)
    · exact .inr t
  | n + 1, _, _, h, .lst t k => by
    simp only [toP]
    exact .lst (SqL.of (s _ _ t)) (RpAll.dp s (n := n) (by simpa [pl] using h) k)
  | 0, _, _, h, .tup _ _ _ => by simp [pl] at h
  | 0, _, _, h, .lst _ _ => by simp [pl] at h
  | _, _, _, h, .ty _ => by simp [pl] at h
  | _, _, _, h, .ins _ _ _ => by simp [pl] at h
  | _, _, _, h, .dct _ _ => by simp [pl] at h
  | _, _, _, h, .dcx _ _ _ _ => by simp [pl] at h
  | _, _, _, h, .xo _ => by simp [pl] at h
  | _, _, _, h, .exc _ _ _ => by simp [pl] at h
  | _, _, _, h, .rng _ => by simp [pl] at h
  | _, _, _, h, .fu _ => by simp [pl] at h
  | _, _, _, h, .scr _ => by simp [pl] at h
  | _, _, _, h, .fn _ _ => by simp [pl] at h
termination_by structural _ _ _ _ h => h
theorem RpAll.dp {c : Cfg} {G H : Hp} (s : ∀ a o, G a = some o → H a = some o) : ∀ {n : Nat} {vs : List V} {ds : List D}, plA n ds = true → RpAll c G vs ds → DpAll c.K H vs (toPs ds)
  | _, _, _, _, .nil => by simp only [toPs]; exact .nil
  | n, _, _, h, .cons t k => by
    simp only [plA, Bool.and_eq_true] at h
    simp only [toPs]
    exact .cons (Rp.dp s h.1 t) (RpAll.dp s h.2 k)
termination_by structural _ _ _ _ h => h
end
def eqD (x y : D) : Bool := PyData.eqv (toP x) (toP y)
def ok1 (x : D) : Option S := some (.d x)
/-! ### rules that take more than one kind -/
section
variable {X : Cx} {f : Value → Value → Sem Value} {r r' : R2}
theorem OpR.or (h : OpR X f r) (h' : OpR X f r') : OpR X f (fun x y H Q => r x y H Q ∨ r' x y H Q) := by
  intro pins s σ H x y v u Q I rx ry q
  rcases q with q | q
  · exact h pins s σ H x y v u Q I rx ry q
  · exact h' pins s σ H x y v u Q I rx ry q
/-- one of two, by what g does -/
def gOr (g g' : D → D → Option S) : D → D → Option S := fun x y => match g x y with
  | some s => some s
  | none => g' x y
theorem OpDen.or {c : Cfg} {g g' : D → D → Option S} (h : OpDen c r g) (h' : OpDen c r' g') : OpDen c (fun x y H Q => r x y H Q ∨ r' x y H Q) (gOr g g') := fun B ts vs ρ σ H Q x y v u s r1 e q => by
  unfold gOr at e
  split at e
  · rename_i s1 e1
    cases e
    exact .inl (h B ts vs ρ σ H Q x y v u s r1 e1 q)
  · exact .inr (h' B ts vs ρ σ H Q x y v u s r1 e q)
end
section
variable {c : Cfg} {B : Base} {ts : En} {vs : List (Option V)} {ρ : En} {σ : L2.St} {H : Hp}
/-- what waits, opened -/
structure Opn (c : Cfg) (B : Base) (ts : En) (vs : List (Option V)) (ρ : En) (σ : L2.St) (H G : Hp) : Prop where
  sub : ∀ a o, G a = some o → H a = some o
  val : ∀ {v : V} {x : D}, Rp c G v x → Rep c B (some (.d x) :: ts) (some v :: vs) ρ σ H
  new : ∀ {p : Addr} {o : HO} {x : D}, H p = none → isTbl o = false → (∀ G', (∀ a u, G a = some u → G' a = some u) → G' p = some o → Rp c G' (.ref p) x) → Rep c B (some (.d x) :: ts) (some (.ref p) :: vs) ρ σ (upd H p o)
  newO : ∀ {p : Addr} {o : HO} {x : D}, H p = none → (∀ H', H' p = some o → Cell c G H' p x) → Rep c B (some (.o none x) :: ts) (some (.ref p) :: vs) ρ σ (upd H p o)
theorem Rep.opn {ds : List D} {us : List V} (hl : us.length = ds.length) (r : Rep c B (tmp ds ++ ts) (tmv us ++ vs) ρ σ H) : ∃ G, Opn c B ts vs ρ σ H G ∧ RpAll c G us ds := by
  obtain ⟨G, o1, o2, k, h1, h2⟩ := r
  obtain ⟨a1, a2⟩ := h1.tmp hl
  refine ⟨G, ⟨k.sub, fun hv => ⟨G, o1, o2, k, .d hv a2, h2⟩, fun {p o x} hp ho hx => ?_, fun {p o x} hp hx => ?_⟩, a1⟩
  · have gp := k.gnone hp
    have ow := own_new (o := o) k hp
    exact ⟨upd G p o, o1, o2, k.alloc hp ho, .d (hx _ (upd_sub gp) upd_same) (a2.mono (upd_sub gp) fun q hq => ow q (List.mem_append_left _ hq)), h2.mono (upd_sub gp) fun q hq => ow q (List.mem_append_right _ hq)⟩
  · have ow := own_new (o := o) k hp
    exact ⟨G, p :: o1, o2, k.allocO hp, .o (hx _ upd_same) (fun _ e => nomatch e) (a2.mono (fun _ _ e => e) fun q hq => ow q (List.mem_append_left _ hq)), h2.mono (fun _ _ e => e) fun q hq => ow q (List.mem_append_right _ hq)⟩
theorem Rep.two {x y : D} {v u : V} (r : Rep c B (some (.d y) :: some (.d x) :: ts) (some u :: some v :: vs) ρ σ H) : ∃ G, Opn c B ts vs ρ σ H G ∧ Rp c G v x ∧ Rp c G u y := by
  obtain ⟨G, s, h⟩ := Rep.opn (ds := [x, y]) (us := [v, u]) rfl r
  cases h with
  | cons h1 h2 =>
    cases h2 with
    | cons h2 h3 => exact ⟨G, s, h1, h2⟩
theorem Rep.one {x : D} {v : V} (r : Rep c B (some (.d x) :: ts) (some v :: vs) ρ σ H) : ∃ G, Opn c B ts vs ρ σ H G ∧ Rp c G v x := by
  obtain ⟨G, s, h⟩ := Rep.opn (ds := [x]) (us := [v]) rfl r
  cases h with
  | cons h1 h2 => exact ⟨G, s, h1⟩
theorem SqT.up {K : PySem.W.Frag} {G H : Hp} {a : Addr} {xs : List V} (s : ∀ a o, G a = some o → H a = some o) (h : SqT K G a xs) : SqT K H a xs := by
  rcases h with (h | ⟨o, h⟩) | h
  · exact .inl (.inl (s _ _ h))
  · exact .inl (.inr ⟨o, s _ _ h⟩)
  · exact .inr h
end
theorem Rp.tupE {c : Cfg} {G : Hp} {v : V} {ds : List D} (h : Rp c G v (.tup ds)) : ∃ a xs, v = .ref a ∧ SqT c.K G a xs ∧ RpAll c G xs ds := by cases h with | tup h k n => exact ⟨_, _, rfl, h, k⟩
theorem Rp.tupN {c : Cfg} {G : Hp} {v : V} {ds : List D} (h : Rp c G v (.tup ds)) : ∃ a xs, v = .ref a ∧ SqT c.K G a xs ∧ RpAll c G xs ds ∧ (arcy ds = true → SqN G a xs) := by cases h with | tup h k n => exact ⟨_, _, rfl, h, k, n⟩
theorem Rp.lstE {c : Cfg} {G : Hp} {v : V} {ds : List D} (h : Rp c G v (.lst ds)) : ∃ a xs, v = .ref a ∧ G a = some (.lst xs) ∧ RpAll c G xs ds := by cases h with | lst h k => exact ⟨_, _, rfl, h, k⟩
theorem Rp.scrE {c : Cfg} {G : Hp} {v : V} {ns : List Int} (h : Rp c G v (.scr ns)) : ∃ a, v = .ref a ∧ SqL c.K G a (ns.map V.int) := by cases h with | scr h => exact ⟨_, rfl, h⟩
/-! ### + - * % // ** -/
def gII (f : Int → Int → Int) : D → D → Option S
  | .int i, .int j => ok1 (.int (f i j))
  | _, _ => none
def gIIc (C : Int → Int → Bool) (f : Int → Int → Int) : D → D → Option S
  | .int i, .int j => if C i j then ok1 (.int (f i j)) else none
  | _, _ => none
theorem od_II {c : Cfg} {f : Int → Int → Int} : OpDen c (rI0 fun i j => .int (f i j)) (gII f) := by
  intro B ts vs ρ σ H Q x y v u s r e q
  obtain ⟨G, O, h1, h2⟩ := r.two
  cases x <;> cases y <;> first | cases e | skip
  cases h1
  cases h2
  exact ⟨_, _, rfl, rfl, q _ _ (O.val (.int _))⟩
theorem od_IIc {c : Cfg} {C : Int → Int → Prop} {Cb : Int → Int → Bool} {f : Int → Int → Int} (hC : ∀ i j, Cb i j = true → C i j) : OpDen c (rI C fun i j => .int (f i j)) (gIIc Cb f) := by
  intro B ts vs ρ σ H Q x y v u s r e q
  obtain ⟨G, O, h1, h2⟩ := r.two
  cases x <;> cases y <;> first | cases e | skip
  rename_i i j
  have e : (if Cb i j then ok1 (.int (f i j)) else none) = some s := e
  split at e
  · rename_i hc
    cases e
    cases h1
    cases h2
    exact ⟨_, _, rfl, rfl, hC _ _ hc, q _ _ (O.val (.int _))⟩
  · cases e
def small (n : Nat) : Bool := decide (n ≤ 16777216)
theorem small_line {n : Nat} (h : small n = true) : n ≤ sizeLine := by
  rw [sizeLine_eq]
  exact of_decide_eq_true h
def gCatT : D → D → Option S
  | .tup xs, .tup ys => if small (xs.length + ys.length) then ok1 (.tup (xs ++ ys)) else none
  | _, _ => none
theorem od_catT {c : Cfg} : OpDen c (rCatN c.K) gCatT := by
  intro B ts vs ρ σ H Q x y v u s r e q
  obtain ⟨G, O, h1, h2⟩ := r.two
  cases x <;> cases y <;> first | cases e | skip
  rename_i xs ys
  have e : (if small (xs.length + ys.length) then ok1 (.tup (xs ++ ys)) else none) = some s := e
  split at e
  · rename_i hz
    cases e
    obtain ⟨a, us, rfl, ha, ka, na⟩ := h1.tupN
    obtain ⟨b, ws, rfl, hb, kb, nb⟩ := h2.tupN
    refine ⟨a, b, us, ws, rfl, rfl, SqT.up O.sub ha, SqT.up O.sub hb, by rw [ka.length, kb.length]; exact small_line hz, ?_⟩
    refine ⟨fun hx => ?_, fun hx hy => ?_, fun hx hy p o hp ho => ?_⟩
    · subst hx
      cases ka
      exact q _ _ (O.val (.tup hb kb nb))
    · subst hy
      cases kb
      rw [List.append_nil] at q
      exact q _ _ (O.val (.tup ha ka na))
    · exact q _ _ (O.new hp rfl fun G' m e => .tup (.inl (.inr ⟨o, e⟩)) ((ka.app kb).mono m) fun _ => ⟨o, e, ho⟩)
  · cases e
def gCatL : D → D → Option S
  | .lst xs, .lst ys => if small (xs.length + ys.length) then some (.o none (.lst (xs ++ ys))) else none
  | _, _ => none
theorem od_catL {c : Cfg} : OpDen c rCat gCatL := by
  intro B ts vs ρ σ H Q x y v u s r e q
  obtain ⟨G, O, h1, h2⟩ := r.two
  cases x <;> cases y <;> first | cases e | skip
  rename_i xs ys
  have e : (if small (xs.length + ys.length) then some (S.o none (.lst (xs ++ ys))) else none) = some s := e
  split at e
  · rename_i hz
    cases e
    obtain ⟨a, us, rfl, ha, ka⟩ := h1.lstE
    obtain ⟨b, ws, rfl, hb, kb⟩ := h2.lstE
    exact ⟨a, b, us, ws, rfl, rfl, O.sub _ _ ha, O.sub _ _ hb, by rw [ka.length, kb.length]; exact small_line hz, fun p hp => q _ _ (O.newO hp fun H' e => ⟨_, e, ka.app kb⟩)⟩
  · cases e
def gCatS : D → D → Option S
  | .str x, .str y => if small (x.length + y.length) then ok1 (.str (x ++ y)) else none
  | _, _ => none
theorem od_catS {c : Cfg} : OpDen c (fun x y H Q => ∃ i j, x = .str i ∧ y = .str j ∧ i.length + j.length ≤ sizeLine ∧ Q (.str (i ++ j)) H) gCatS := by
  intro B ts vs ρ σ H Q x y v u s r e q
  obtain ⟨G, O, h1, h2⟩ := r.two
  cases x <;> cases y <;> first | cases e | skip
  rename_i xs ys
  have e : (if small (xs.length + ys.length) then ok1 (.str (xs ++ ys)) else none) = some s := e
  split at e
  · rename_i hz
    cases e
    cases h1
    cases h2
    exact ⟨_, _, rfl, rfl, small_line hz, q _ _ (O.val (.str _))⟩
  · cases e
def rAddG (K : PySem.W.Frag) : R2 := fun x y H Q => rI0 (fun i j => .int (i + j)) x y H Q ∨ rCatN K x y H Q ∨ rCat x y H Q ∨ (∃ i j, x = .str i ∧ y = .str j ∧ i.length + j.length ≤ sizeLine ∧ Q (.str (i ++ j)) H)
theorem op_addG {X : Cx} : OpR X (binaryOp .Add) (rAddG X.K) := OpR.or op_add (OpR.or op_catN (OpR.or op_cat op_add_str))
def gAdd : D → D → Option S
  | .int i, .int j => ok1 (.int (i + j))
  | .tup xs, .tup ys => if small (xs.length + ys.length) then ok1 (.tup (xs ++ ys)) else none
  | .lst xs, .lst ys => if small (xs.length + ys.length) then some (.o none (.lst (xs ++ ys))) else none
  | .str x, .str y => if small (x.length + y.length) then ok1 (.str (x ++ y)) else none
  | _, _ => none
theorem od_add {c : Cfg} : OpDen c (rAddG c.K) gAdd := by
  intro B ts vs ρ σ H Q x y v u s r e q
  cases x <;> cases y <;> first | cases e | skip
  · exact .inl (od_II (f := (· + ·)) B ts vs ρ σ H Q _ _ v u _ r rfl q)
  · exact .inr (.inr (.inr (od_catS B ts vs ρ σ H Q _ _ v u s r e q)))
  · exact .inr (.inl (od_catT B ts vs ρ σ H Q _ _ v u s r e q))
  · exact .inr (.inr (.inl (od_catL B ts vs ρ σ H Q _ _ v u s r e q)))
end Fx
/-! more operations on data -/
namespace Fx
open PySem PySem.Spec PyProof.Rows L2
/-! ### - * % // ** -/
def gMinus : D → D → Option S := gII (· - ·)
theorem od_sub {c : Cfg} : OpDen c (rI0 fun i j => .int (i - j)) gMinus := od_II
def i64 (i : Int) : Bool := decide (-18446744073709551616 < i) && decide (i < 18446744073709551616)
theorem i64_iff {i : Int} : i64 i = true ↔ -(2 ^ 64) < i ∧ i < 2 ^ 64 := by
  unfold i64
  simp only [Bool.and_eq_true, decide_eq_true_eq]
  constructor <;> (intro h; constructor <;> omega)
def gMulI : D → D → Option S := gIIc (fun i j => i64 i || i64 j) (· * ·)
theorem od_mulI {c : Cfg} : OpDen c (rI CMul fun i j => .int (i * j)) gMulI := od_IIc fun i j h => by
  rw [Bool.or_eq_true, i64_iff, i64_iff] at h
  exact h
def gMod : D → D → Option S := gIIc (fun _ j => decide (0 < j)) (· % ·)
theorem od_mod {c : Cfg} : OpDen c (rI (fun _ j => 0 < j) fun i j => .int (i % j)) gMod := od_IIc fun i j h => of_decide_eq_true h
def gDiv : D → D → Option S := gIIc (fun _ j => decide (0 < j) && decide (j < 1073741824)) (· / ·)
theorem od_div {c : Cfg} : OpDen c (rI CDiv fun i j => .int (i / j)) gDiv := od_IIc fun i j h => by
  simp only [Bool.and_eq_true, decide_eq_true_eq] at h
  exact h
def gPow : D → D → Option S := gIIc (fun i j => decide (0 ≤ j) && decide (j ≤ 64) && decide (i.natAbs < 18446744073709551616)) (fun i j => i ^ j.toNat)
theorem od_pow {c : Cfg} : OpDen c (rI CPow fun i j => .int (i ^ j.toNat)) gPow := od_IIc fun i j h => by
  simp only [Bool.and_eq_true, decide_eq_true_eq] at h
  exact ⟨h.1.1, by omega, by have := h.2; omega⟩
def gNeg : D → Option S
  | .int i => ok1 (.int (-i))
  | _ => none
theorem ud_neg {c : Cfg} : UnDen c (rU fun i => .int (-i)) gNeg := by
  intro B ts vs ρ σ H Q x v s r e q
  obtain ⟨G, O, h1⟩ := r.one
  cases x <;> first | cases e | skip
  cases h1
  exact ⟨_, rfl, q _ _ (O.val (.int _))⟩
/-- list * int -/
def gRepL : D → D → Option S
  | .lst xs, .int k => if small (xs.length * k.toNat) && decide (k < 1073741824) && decide (-1073741824 < k) then some (.o none (.lst (List.replicate k.toNat xs).flatten)) else none
  | _, _ => none
theorem RpAll.rep {c : Cfg} {G : Hp} {us : List V} {xs : List D} (h : RpAll c G us xs) : ∀ n : Nat, RpAll c G (List.replicate n us).flatten (List.replicate n xs).flatten
  | 0 => .nil
  | n + 1 => by
    rw [List.replicate_succ, List.replicate_succ, List.flatten_cons, List.flatten_cons]
    exact h.app (RpAll.rep h n)
theorem od_repL {c : Cfg} : OpDen c rRep gRepL := by
  intro B ts vs ρ σ H Q x y v u s r e q
  obtain ⟨G, O, h1, h2⟩ := r.two
  cases x <;> cases y <;> first | cases e | skip
  rename_i xs k
  have e : (if small (xs.length * k.toNat) && decide (k < 1073741824) && decide (-1073741824 < k) then some (S.o none (.lst (List.replicate k.toNat xs).flatten)) else none) = some s := e
  split at e
  · rename_i hz
    simp only [Bool.and_eq_true, decide_eq_true_eq] at hz
    cases e
    cases h2
    obtain ⟨a, us, rfl, ha, ka⟩ := h1.lstE
    exact ⟨a, k, us, rfl, rfl, O.sub _ _ ha, by omega, by omega, by rw [ka.length]; exact small_line hz.1.1, fun p hp => q _ _ (O.newO hp fun H' e => ⟨_, e, ka.rep _⟩)⟩
  · cases e
def rMulG : R2 := fun x y H Q => rI CMul (fun i j => .int (i * j)) x y H Q ∨ rRep x y H Q
theorem op_mulG {X : Cx} : OpR X (binaryOp .Mult) rMulG := OpR.or op_mul op_rep
def gMul : D → D → Option S
  | .int i, .int j => if i64 i || i64 j then ok1 (.int (i * j)) else none
  | .lst xs, .int k => if small (xs.length * k.toNat) && decide (k < 1073741824) && decide (-1073741824 < k) then some (.o none (.lst (List.replicate k.toNat xs).flatten)) else none
  | _, _ => none
theorem od_mul {c : Cfg} : OpDen c rMulG gMul := by
  intro B ts vs ρ σ H Q x y v u s r e q
  cases x <;> cases y <;> first | cases e | skip
  · exact .inl (od_mulI B ts vs ρ σ H Q _ _ v u _ r e q)
  · exact .inr (od_repL B ts vs ρ σ H Q _ _ v u s r e q)
/-! ### comparisons -/
def pl60 (d : D) : Bool := pl 60 d
theorem pl60_shaped {d : D} (h : pl60 d = true) : (toP d).plain = true ∧ (toP d).depth ≤ 60 := pl_plain h
def rEqP (K : PySem.W.Frag) (neg : Bool) : R2 := fun x y H Q => ∃ d e, Dp K H x d ∧ Dp K H y e ∧ d.plain = true ∧ e.plain = true ∧ d.depth ≤ 64 ∧ Q (.bl (if neg then !PyData.eqv d e else PyData.eqv d e)) H
section
variable {X : Cx}
theorem op_eqP (hu : X.A.units + 66 < cLine) : OpR X (compareOp .Eq) (rEqP X.K false) := by
  intro pins s σ H x y v u Q I rx ry h
  obtain ⟨d, e, hd, he, sd, se, dp, q⟩ := h
  obtain ⟨as, r1⟩ := Dp.reads I d x v hd rx
  obtain ⟨bs, r2⟩ := Dp.reads I e y u he ry
  exact SeqAt.eq_plain r1 r2 sd se (by omega) ⟨.bl _, H, I, rfl, q⟩
theorem op_neP (hu : X.A.units + 66 < cLine) : OpR X (compareOp .NotEq) (rEqP X.K true) := by
  intro pins s σ H x y v u Q I rx ry h
  obtain ⟨d, e, hd, he, sd, se, dp, q⟩ := h
  obtain ⟨as, r1⟩ := Dp.reads I d x v hd rx
  obtain ⟨bs, r2⟩ := Dp.reads I e y u he ry
  exact SeqAt.ne_plain r1 r2 sd se (by omega) ⟨.bl _, H, I, rfl, q⟩
def rInP (K : PySem.W.Frag) (neg : Bool) : R2 := fun x y H Q => ∃ d ds, Dp K H x d ∧ (Dp K H y (.list ds) ∨ Dp K H y (.tuple ds)) ∧ d.plain = true ∧ PyData.plainAll ds = true ∧ d.depth ≤ 64 ∧ Q (.bl (if neg then !(ds.any fun z => PyData.eqv z d) else ds.any fun z => PyData.eqv z d)) H
theorem op_inP (hu : X.A.units + 66 < cLine) : OpR X (compareOp .In) (rInP X.K false) := by
  intro pins s σ H x y v u Q I rx ry h
  obtain ⟨d, ds, hd, he, sd, se, dp, q⟩ := h
  obtain ⟨as, r1⟩ := Dp.reads I d x v hd rx
  rcases he with he | he
  · obtain ⟨bs, r2⟩ := Dp.reads I _ y u he ry
    exact SeqAt.in_list_data r2 r1 se sd (by omega) ⟨.bl _, H, I, rfl, q⟩
  · obtain ⟨bs, r2⟩ := Dp.reads I _ y u he ry
    exact SeqAt.in_tuple_data r2 r1 se sd (by omega) ⟨.bl _, H, I, rfl, q⟩
theorem op_ninP (hu : X.A.units + 66 < cLine) : OpR X (compareOp .NotIn) (rInP X.K true) := by
  intro pins s σ H x y v u Q I rx ry h
  obtain ⟨d, ds, hd, he, sd, se, dp, q⟩ := h
  obtain ⟨as, r1⟩ := Dp.reads I d x v hd rx
  rcases he with he | he
  · obtain ⟨bs, r2⟩ := Dp.reads I _ y u he ry
    exact SeqAt.notIn_list_data r2 r1 se sd (by omega) ⟨.bl _, H, I, rfl, q⟩
  · obtain ⟨bs, r2⟩ := Dp.reads I _ y u he ry
    exact SeqAt.notIn_tuple_data r2 r1 se sd (by omega) ⟨.bl _, H, I, rfl, q⟩
end
def gEq (x y : D) : Option S := if pl60 x && pl60 y then ok1 (.bl (eqD x y)) else none
def gNe (x y : D) : Option S := if pl60 x && pl60 y then ok1 (.bl (!eqD x y)) else none
theorem od_eqN {c : Cfg} (neg : Bool) {g : D → D → Option S} (hg : ∀ x y s, g x y = some s → pl60 x = true ∧ pl60 y = true ∧ s = .d (.bl (if neg then !eqD x y else eqD x y))) : OpDen c (rEqP c.K neg) g := by
  intro B ts vs ρ σ H Q x y v u s r e q
  obtain ⟨G, O, h1, h2⟩ := r.two
  obtain ⟨p1, p2, rfl⟩ := hg x y s e
  exact ⟨toP x, toP y, h1.dp O.sub p1, h2.dp O.sub p2, (pl60_shaped p1).1, (pl60_shaped p2).1, Nat.le_trans (pl60_shaped p1).2 (by decide), q _ _ (O.val (.bl _))⟩
theorem od_eq {c : Cfg} : OpDen c (rEqP c.K false) gEq := od_eqN false fun x y s e => by
  unfold gEq at e
  split at e
  · rename_i h
    rw [Bool.and_eq_true] at h
    cases e
    exact ⟨h.1, h.2, rfl⟩
  · cases e
theorem od_ne {c : Cfg} : OpDen c (rEqP c.K true) gNe := od_eqN true fun x y s e => by
  unfold gNe at e
  split at e
  · rename_i h
    rw [Bool.and_eq_true] at h
    cases e
    exact ⟨h.1, h.2, rfl⟩
  · cases e
/-- the items of a list, a tuple -/
def itemsD : D → Option (List D)
  | .tup ds => some ds
  | .lst ds => some ds
  | _ => none
def inD (x : D) (ds : List D) : Bool := ds.any fun z => eqD z x
def gInN (neg : Bool) (x y : D) : Option S := match itemsD y with
  | some ds => if pl60 x && plA 60 ds then ok1 (.bl (if neg then !inD x ds else inD x ds)) else none
  | none => none
def gIn : D → D → Option S := gInN false
def gNotIn : D → D → Option S := gInN true
theorem od_in {c : Cfg} {neg : Bool} : OpDen c (rInP c.K neg) (gInN neg) := by
  intro B ts vs ρ σ H Q x y v u s r e q
  obtain ⟨G, O, h1, h2⟩ := r.two
  unfold gInN at e
  split at e
  · rename_i ds hi
    split at e
    · rename_i hp
      rw [Bool.and_eq_true] at hp
      cases e
      have e3 : (toPs ds).any (fun z => PyData.eqv z (toP x)) = inD x ds := by
        rw [toPs_map, List.any_map]
        rfl
      refine ⟨toP x, toPs ds, h1.dp O.sub hp.1, ?_, (pl60_shaped hp.1).1, (plA_plain hp.2).1, Nat.le_trans (pl60_shaped hp.1).2 (by decide), ?_⟩
      · cases y <;> first | cases hi | skip
        · have := h2.dp (n := 61) O.sub (by simpa [pl] using hp.2)
          simp only [toP] at this
          exact .inr this
        · have := h2.dp (n := 61) O.sub (by simpa [pl] using hp.2)
          simp only [toP] at this
          exact .inl this
      · rw [e3]
        exact q _ _ (O.val (.bl _))
    · cases e
  · cases e
def gBB (f : Int → Int → Bool) : D → D → Option S
  | .int i, .int j => ok1 (.bl (f i j))
  | _, _ => none
theorem od_BB {c : Cfg} {f : Int → Int → Bool} : OpDen c (rI0 fun i j => .bl (f i j)) (gBB f) := by
  intro B ts vs ρ σ H Q x y v u s r e q
  obtain ⟨G, O, h1, h2⟩ := r.two
  cases x <;> cases y <;> first | cases e | skip
  cases h1
  cases h2
  exact ⟨_, _, rfl, rfl, q _ _ (O.val (.bl _))⟩
def gLt : D → D → Option S := gBB fun i j => decide (i < j)
def gLe : D → D → Option S := gBB fun i j => decide (i ≤ j)
def gGt : D → D → Option S := gBB fun i j => decide (j < i)
def gGe : D → D → Option S := gBB fun i j => decide (j ≤ i)
def isN : D → Bool
  | .non => true
  | _ => false
def gIsN (x y : D) : Option S := if isN y then ok1 (.bl (isN x)) else none
def gNotN (x y : D) : Option S := if isN y then ok1 (.bl (!isN x)) else none
theorem Rp.isN {c : Cfg} {G : Hp} {v : V} {x : D} (h : Rp c G v x) : decide (v = .non) = isN x := by
  cases h <;> rfl
theorem od_isN {c : Cfg} : OpDen c (fun x y H Q => y = .non ∧ Q (.bl (decide (x = .non))) H) gIsN := by
  intro B ts vs ρ σ H Q x y v u s r e q
  obtain ⟨G, O, h1, h2⟩ := r.two
  unfold gIsN at e
  split at e
  · rename_i hy
    cases e
    have : u = .non := by
      rw [← h2.isN] at hy
      exact of_decide_eq_true hy
    exact ⟨this, by rw [h1.isN]; exact q _ _ (O.val (.bl _))⟩
  · cases e
theorem od_notN {c : Cfg} : OpDen c (fun x y H Q => y = .non ∧ Q (.bl (!decide (x = .non))) H) gNotN := by
  intro B ts vs ρ σ H Q x y v u s r e q
  obtain ⟨G, O, h1, h2⟩ := r.two
  unfold gNotN at e
  split at e
  · rename_i hy
    cases e
    have : u = .non := by
      rw [← h2.isN] at hy
      exact of_decide_eq_true hy
    exact ⟨this, by rw [h1.isN]; exact q _ _ (O.val (.bl _))⟩
  · cases e
/-! ### subscripts -/
def gIx : D → D → Option S
  | .tup xs, .int i => (atI xs i).bind ok1
  | .lst xs, .int i => (atI xs i).bind ok1
  | .scr ns, .int i => (atI ns i).bind fun n => ok1 (.int n)
  | .str z, .int i => if small z.length then (atI z.cps.toList i).bind fun k => ok1 (.str ⟨#[k]⟩) else none
  | _, _ => none
theorem RpAll.atI {c : Cfg} {G : Hp} {us : List V} {xs : List D} {i : Int} {d : D} (h : RpAll c G us xs) (e : atI xs i = some d) : ∃ v, atI us i = some v ∧ Rp c G v d := by
  unfold L2.atI at e ⊢
  rw [h.length]
  cases e1 : ixN xs.length i with
  | none => rw [e1] at e; cases e
  | some j =>
    rw [e1] at e
    exact h.get e
theorem atI_map {α β : Type} {f : α → β} {xs : List α} {i : Int} : atI (xs.map f) i = (atI xs i).map f := by
  unfold atI
  rw [List.length_map]
  cases ixN xs.length i with
  | none => rfl
  | some j => exact List.getElem?_map
theorem od_ix {c : Cfg} : OpDen c (rIx c.K) gIx := by
  intro B ts vs ρ σ H Q x y v u s r e q
  obtain ⟨G, O, h1, h2⟩ := r.two
  cases x <;> cases y <;> first | cases e | skip
  · rename_i z i
    have e : (if small z.length then (atI z.cps.toList i).bind fun k => ok1 (.str ⟨#[k]⟩) else none) = some s := e
    split at e
    · rename_i hz
      cases h1
      cases h2
      cases e1 : atI z.cps.toList i with
      | none => rw [e1] at e; cases e
      | some k =>
        rw [e1] at e
        cases e
        exact .inr (.inr ⟨z, i, k, rfl, rfl, small_line hz, e1, q _ _ (O.val (.str _))⟩)
    · cases e
  · rename_i xs i
    have e : (atI xs i).bind ok1 = some s := e
    cases e1 : atI xs i with
    | none => rw [e1] at e; cases e
    | some d =>
      rw [e1] at e
      cases e
      cases h2
      obtain ⟨a, us, rfl, ha, ka⟩ := h1.tupE
      obtain ⟨w, e2, hw⟩ := ka.atI e1
      exact .inr (.inl ⟨a, us, i, w, rfl, rfl, SqT.up O.sub ha, e2, q _ _ (O.val hw)⟩)
  · rename_i xs i
    have e : (atI xs i).bind ok1 = some s := e
    cases e1 : atI xs i with
    | none => rw [e1] at e; cases e
    | some d =>
      rw [e1] at e
      cases e
      cases h2
      obtain ⟨a, us, rfl, ha, ka⟩ := h1.lstE
      obtain ⟨w, e2, hw⟩ := ka.atI e1
      exact .inl ⟨a, us, i, w, rfl, rfl, SqL.of (O.sub _ _ ha), e2, q _ _ (O.val hw)⟩
  · rename_i ns i
    have e : (atI ns i).bind (fun n => ok1 (.int n)) = some s := e
    cases e1 : atI ns i with
    | none => rw [e1] at e; cases e
    | some n =>
      rw [e1] at e
      cases e
      cases h2
      obtain ⟨a, rfl, ha⟩ := h1.scrE
      exact .inl ⟨a, _, i, _, rfl, rfl, Same.seq O.sub ha, by rw [atI_map, e1]; rfl, q _ _ (O.val (.int _))⟩
/-! ### displays -/
def mTup (fa : M (List D)) : M S := fun ρ => (fa ρ).then fun ds ρ1 => if small ds.length then .ok (.d (.tup ds)) ρ1 else .stuck
def mLst (fa : M (List D)) : M S := fun ρ => (fa ρ).then fun ds ρ1 => if small ds.length then .ok (.o none (.lst ds)) ρ1 else .stuck
section
variable {c : Cfg} {W : WX} {tA : TA} {fA : M (List D)}
theorem den_tup (ha : DenA c W tA fA) : Den c W (tTupN tA) (mTup fA) := by
  intro B ts vs ρ σ H Q rp h
  unfold mTup at h
  rw [post_then] at h
  refine ha B ts vs ρ σ H _ rp (h.imp1 fun ds ρ1 h us H1 hl r1 => ?_)
  split at h
  · rename_i hz
    obtain ⟨G, O, k⟩ := r1.opn hl
    exact ⟨by rw [hl]; exact small_line hz, fun p o hp ho => h _ _ (O.new hp rfl fun G' m e => .tup (.inl (.inr ⟨o, e⟩)) (k.mono m) fun _ => ⟨o, e, ho⟩)⟩
  · exact h.elim
theorem den_lst (ha : DenA c W tA fA) : Den c W (tLst tA) (mLst fA) := by
  intro B ts vs ρ σ H Q rp h
  unfold mLst at h
  rw [post_then] at h
  refine ha B ts vs ρ σ H _ rp (h.imp1 fun ds ρ1 h us H1 hl r1 => ?_)
  split at h
  · rename_i hz
    obtain ⟨G, O, k⟩ := r1.opn hl
    exact ⟨by rw [hl]; exact small_line hz, fun p hp => h _ _ (O.newO hp fun H' e => ⟨_, e, k⟩)⟩
  · exact h.elim
end
/-! ### calls of built-ins -/
theorem Rep.one' {c : Cfg} {B : Base} {ts : En} {vs : List (Option V)} {ρ : En} {σ : L2.St} {H : Hp} {x : D} {us : List V} (hl : us.length = [x].length) (r : Rep c B (tmp [x] ++ ts) (tmv us ++ vs) ρ σ H) : ∃ v, us = [v] ∧ ∃ G, Opn c B ts vs ρ σ H G ∧ Rp c G v x := by
  obtain ⟨G, O, k⟩ := r.opn hl
  cases k with
  | cons h k =>
    cases k
    exact ⟨_, rfl, G, O, h⟩
theorem Rep.two' {c : Cfg} {B : Base} {ts : En} {vs : List (Option V)} {ρ : En} {σ : L2.St} {H : Hp} {x y : D} {us : List V} (hl : us.length = [x, y].length) (r : Rep c B (tmp [x, y] ++ ts) (tmv us ++ vs) ρ σ H) : ∃ v w, us = [v, w] ∧ ∃ G, Opn c B ts vs ρ σ H G ∧ Rp c G v x ∧ Rp c G w y := by
  obtain ⟨G, O, k⟩ := r.opn hl
  cases k with
  | cons h k =>
    cases k with
    | cons h' k =>
      cases k
      exact ⟨_, _, rfl, G, O, h, h'⟩
def rLenG (K : PySem.W.Frag) : List V → Hp → VK → Prop := fun xs H Q => (∃ p ys, xs = [.ref p] ∧ (SqL K H p ys ∨ SqT K H p ys) ∧ Q (.int ys.length) H) ∨ (∃ z, xs = [.str z] ∧ z.length ≤ sizeLine ∧ Q (.int z.length) H)
theorem cr_lenG {X : Cx} : CallR X (.builtin "len") (rLenG X.K) := CallR.or call_len_seq call_len_str
def lenD : D → Option Nat
  | .tup ds => some ds.length
  | .lst ds => some ds.length
  | .scr ns => some ns.length
  | .str z => if small z.length then some z.length else none
  | _ => none
def gLen : List D → Option S
  | [x] => (lenD x).bind fun n => ok1 (.int n)
  | _ => none
theorem cd_len {c : Cfg} : CbDen c (rLenG c.K) gLen := by
  intro B ts vs ρ σ H Q ds us s hl r e q
  match ds, hl, r, e with
  | [x], hl, r, e =>
    obtain ⟨v, rfl, G, O, h⟩ := r.one' hl
    have e : (lenD x).bind (fun n => ok1 (.int n)) = some s := e
    cases x with
    | str z =>
      have e : ((if small z.length then some z.length else none).bind fun n => ok1 (.int n)) = some s := e
      split at e
      · rename_i hz
        cases e
        cases h
        exact .inr ⟨z, rfl, small_line hz, q _ _ (O.val (.int _))⟩
      · cases e
    | tup ds =>
      cases e
      obtain ⟨a, xs, rfl, ha, ka⟩ := h.tupE
      exact .inl ⟨a, xs, rfl, .inr (SqT.up O.sub ha), by rw [ka.length]; exact q _ _ (O.val (.int _))⟩
    | lst ds =>
      cases e
      obtain ⟨a, xs, rfl, ha, ka⟩ := h.lstE
      exact .inl ⟨a, xs, rfl, .inl (SqL.of (O.sub _ _ ha)), by rw [ka.length]; exact q _ _ (O.val (.int _))⟩
    | scr ns =>
      cases e
      obtain ⟨a, rfl, ha⟩ := h.scrE
      exact .inl ⟨a, _, rfl, .inl (Same.seq O.sub ha), by rw [List.length_map]; exact q _ _ (O.val (.int _))⟩
    | _ => cases e
  | [], _, _, e => cases e
  | _ :: _ :: _, _, _, e => cases e
/-- tuple(x), list(x) of a list, a tuple -/
def gTuple : List D → Option S
  | [.tup ds] => ok1 (.tup ds)
  | [.lst ds] => ok1 (.tup ds)
  | _ => none
theorem cd_tuple {c : Cfg} : CbDen c (rTupN c.K) gTuple := by
  intro B ts vs ρ σ H Q ds us s hl r e q
  match ds, hl, r, e with
  | [.tup ds], hl, r, e =>
    cases e
    obtain ⟨v, rfl, G, O, h⟩ := r.one' hl
    obtain ⟨a, xs, rfl, ha, ka, na⟩ := h.tupN
    exact ⟨a, xs, rfl, .inr ⟨SqT.up O.sub ha, q _ _ (O.val (.tup ha ka na))⟩⟩
  | [.lst ds], hl, r, e =>
    cases e
    obtain ⟨v, rfl, G, O, h⟩ := r.one' hl
    obtain ⟨a, xs, rfl, ha, ka⟩ := h.lstE
    exact ⟨a, xs, rfl, .inl ⟨SqL.of (O.sub _ _ ha), fun p o hp ho => q _ _ (O.new hp rfl fun G' m e => .tup (.inl (.inr ⟨o, e⟩)) (ka.mono m) fun _ => ⟨o, e, ho⟩)⟩⟩
def gList : List D → Option S
  | [.tup ds] => some (.o none (.lst ds))
  | [.lst ds] => some (.o none (.lst ds))
  | _ => none
theorem cd_list {c : Cfg} : CbDen c (fun xs H Q => ∃ p ys, xs = [.ref p] ∧ (SqL c.K H p ys ∨ SqT c.K H p ys) ∧ ∀ l, H l = none → Q (.ref l) (upd H l (.lst ys))) gList := by
  intro B ts vs ρ σ H Q ds us s hl r e q
  match ds, hl, r, e with
  | [.tup ds], hl, r, e =>
    cases e
    obtain ⟨v, rfl, G, O, h⟩ := r.one' hl
    obtain ⟨a, xs, rfl, ha, ka⟩ := h.tupE
    exact ⟨a, xs, rfl, .inr (SqT.up O.sub ha), fun p hp => q _ _ (O.newO hp fun H' e => ⟨_, e, ka⟩)⟩
  | [.lst ds], hl, r, e =>
    cases e
    obtain ⟨v, rfl, G, O, h⟩ := r.one' hl
    obtain ⟨a, xs, rfl, ha, ka⟩ := h.lstE
    exact ⟨a, xs, rfl, .inl (SqL.of (O.sub _ _ ha)), fun p hp => q _ _ (O.newO hp fun H' e => ⟨_, e, ka⟩)⟩
/-- all, any of a list of bools -/
def blsD : List D → Option (List Bool)
  | [] => some []
  | .bl b :: ds => (blsD ds).map (b :: ·)
  | _ => none
theorem RpAll.bls {c : Cfg} {G : Hp} : ∀ {us : List V} {ds : List D} {bs : List Bool}, blsD ds = some bs → RpAll c G us ds → us = bs.map V.bl
  | _, [], _, e, h => by cases e; cases h; rfl
  | _, d :: ds, bs, e, h => by
    cases d <;> first | cases e | skip
    rename_i b
    have e : (blsD ds).map (b :: ·) = some bs := e
    cases e1 : blsD ds with
    | none => rw [e1] at e; cases e
    | some bs' =>
      rw [e1] at e
      cases e
      cases h with
      | cons h k =>
        cases h
        rw [k.bls e1]
        rfl
def gAll : List D → Option S
  | [.lst ds] => (blsD ds).bind fun bs => ok1 (.bl (bs.all id))
  | _ => none
def gAny : List D → Option S
  | [.lst ds] => (blsD ds).bind fun bs => ok1 (.bl (bs.any id))
  | _ => none
theorem cd_all {c : Cfg} : CbDen c (rAll c.K) gAll := by
  intro B ts vs ρ σ H Q ds us s hl r e q
  match ds, hl, r, e with
  | [.lst ds], hl, r, e =>
    obtain ⟨v, rfl, G, O, h⟩ := r.one' hl
    obtain ⟨a, xs, rfl, ha, ka⟩ := h.lstE
    have e : (blsD ds).bind (fun bs => ok1 (.bl (bs.all id))) = some s := e
    cases e1 : blsD ds with
    | none => rw [e1] at e; cases e
    | some bs =>
      rw [e1] at e
      cases e
      have := ka.bls e1
      subst this
      exact ⟨a, bs, rfl, SqL.of (O.sub _ _ ha), q _ _ (O.val (.bl _))⟩
theorem cd_any {c : Cfg} : CbDen c (rAny c.K) gAny := by
  intro B ts vs ρ σ H Q ds us s hl r e q
  match ds, hl, r, e with
  | [.lst ds], hl, r, e =>
    obtain ⟨v, rfl, G, O, h⟩ := r.one' hl
    obtain ⟨a, xs, rfl, ha, ka⟩ := h.lstE
    have e : (blsD ds).bind (fun bs => ok1 (.bl (bs.any id))) = some s := e
    cases e1 : blsD ds with
    | none => rw [e1] at e; cases e
    | some bs =>
      rw [e1] at e
      cases e
      have := ka.bls e1
      subst this
      exact ⟨a, bs, rfl, SqL.of (O.sub _ _ ha), q _ _ (O.val (.bl _))⟩
end Fx
/-! tests, statements, targets, loops, comprehensions -/
namespace Fx
open PySem PySem.Spec PyProof.Rows L2
theorem RpAll.sl {c : Cfg} {B : Base} {G H : Hp} {ts : En} {vs : List (Option V)} {own : Owns} : ∀ {us : List V} {ds : List D}, RpAll c G us ds → Sl c B G H ts vs own → Sl c B G H ((ds.map fun x => some (S.d x)) ++ ts) (us.map some ++ vs) own
  | _, _, .nil, h => h
  | _, _, .cons a k, h => .d a (RpAll.sl k h)
/-! ### tests -/
def mTest (f : M S) : M Bool := fun ρ => (dv f ρ).then fun x ρ' => match x with
  | .bl b => .ok b ρ'
  | _ => .stuck
def mNot (f : M Bool) : M Bool := fun ρ => (f ρ).then fun b ρ' => .ok (!b) ρ'
def mAnd (f g : M Bool) : M Bool := fun ρ => (f ρ).then fun b ρ' => if b = true then g ρ' else .ok false ρ'
def mOr (f g : M Bool) : M Bool := fun ρ => (f ρ).then fun b ρ' => if b = true then .ok true ρ' else g ρ'
def mAndV (f g : M S) : M S := fun ρ => (mTest f ρ).then fun b ρ' => if b = true then g ρ' else .ok (.d (.bl false)) ρ'
def mOrV (f g : M S) : M S := fun ρ => (mTest f ρ).then fun b ρ' => if b = true then .ok (.d (.bl true)) ρ' else g ρ'
def mNotV (f : M S) : M S := fun ρ => (mTest f ρ).then fun b ρ' => .ok (.d (.bl (!b))) ρ'
def mIf (t : M Bool) (f g : M S) : M S := fun ρ => (t ρ).then fun b ρ' => if b = true then f ρ' else g ρ'
def mYes : M Bool := fun ρ => .ok true ρ
section
variable {c : Cfg} {W : WX} {B : Base} {H : Hp} {ts : En} {vs : List (Option V)} {ρ : En} {σ : L2.St} {te ta tb : TE} {fe fa fb : M S} {tt tu : TT} {ft fu : M Bool}
theorem Den.test (h : Den c W te fe) {Q : Bool → Hp → Prop} (r : Rep c B ts vs ρ σ H) (q : Post (fun b ρ' => ∀ H', Rep c B ts vs ρ' σ H' → Q b H') (ErrP c W B ts vs σ) (mTest fe ρ)) : te σ H fun x H' => ∃ k, x = .bl k ∧ Q k H' := by
  unfold mTest at q
  rw [post_then] at q
  refine h.dv r (q.imp1 fun x ρ' p v H' r' => ?_)
  cases x <;> first | exact p.elim | skip
  obtain ⟨G, O, hv⟩ := r'.one
  cases hv
  exact ⟨_, rfl, p H' r'.drop⟩
theorem dt_test (h : Den c W te fe) : DenT c W (tTest te) (mTest fe) := fun B ts vs ρ σ H Q r q => h.test r q
theorem dt_B (h : Den c W te fe) : DenT c W (tB te) (mTest fe) := fun B ts vs ρ σ H Q r q => h.test r q
theorem dt_not (h : DenT c W tt ft) : DenT c W (tNot tt) (mNot ft) := fun B ts vs ρ σ H Q r q => by
  unfold mNot at q
  rw [post_then] at q
  exact h B ts vs ρ σ H _ r q
theorem dt_and (h : DenT c W tt ft) (k : DenT c W tu fu) : DenT c W (tAnd tt tu) (mAnd ft fu) := fun B ts vs ρ σ H Q r q => by
  unfold mAnd at q
  rw [post_then] at q
  refine h B ts vs ρ σ H _ r (q.imp1 fun b ρ' p H' r' => ?_)
  cases b with
  | true => exact k B ts vs ρ' σ H' Q r' p
  | false => exact p H' r'
theorem dt_or (h : DenT c W tt ft) (k : DenT c W tu fu) : DenT c W (tOr tt tu) (mOr ft fu) := fun B ts vs ρ σ H Q r q => by
  unfold mOr at q
  rw [post_then] at q
  refine h B ts vs ρ σ H _ r (q.imp1 fun b ρ' p H' r' => ?_)
  cases b with
  | true => exact p H' r'
  | false => exact k B ts vs ρ' σ H' Q r' p
theorem dt_yes : DenT c W tYes mYes := fun B ts vs ρ σ H Q r q => q H r
theorem OkP.bl {Q : VK} {b : Bool} {ρ : En} (h : OkP c B ts vs σ Q (.d (.bl b)) ρ) {H : Hp} (r : Rep c B ts vs ρ σ H) : Q (.bl b) H := h _ _ (Rep.repl (ds := []) (us := []) r rfl fun G _ => .bl b)
theorem den_andV (h : Den c W ta fa) (k : Den c W tb fb) : Den c W (tAndV ta tb) (mAndV fa fb) := fun B ts vs ρ σ H Q r q => by
  unfold mAndV at q
  rw [post_then] at q
  refine h.test (Q := fun b H1 => if b = true then tb σ H1 Q else Q (.bl false) H1) r (q.imp1 fun b ρ' p H' r' => ?_)
  cases b with
  | true => exact k B ts vs ρ' σ H' Q r' p
  | false => exact OkP.bl p r'
theorem den_notV (h : Den c W ta fa) : Den c W (tNotV ta) (mNotV fa) := fun B ts vs ρ σ H Q r q => by
  unfold mNotV at q
  rw [post_then] at q
  exact h.test r (q.imp1 fun b ρ' p H' r' => OkP.bl p r')
theorem den_if (h : DenT c W tt ft) (ka : Den c W ta fa) (kb : Den c W tb fb) : Den c W (tIf tt ta tb) (mIf ft fa fb) := fun B ts vs ρ σ H Q r q => by
  unfold mIf at q
  rw [post_then] at q
  refine h B ts vs ρ σ H _ r (q.imp1 fun b ρ' p H' r' => ?_)
  cases b with
  | true => exact ka B ts vs ρ' σ H' Q r' p
  | false => exact kb B ts vs ρ' σ H' Q r' p
end
/-! ### statements -/
inductive Fl where
  | nx | rt (s : S) | bk | ct
def EndP (c : Cfg) (B : Base) (ts : En) (vs : List (Option V)) (D : Ends) : Fl → En → Prop
  | .nx, ρ => ∀ σ H, Rep c B ts vs ρ σ H → D.nx σ H
  | .bk, ρ => ∀ σ H, Rep c B ts vs ρ σ H → D.bk σ H
  | .ct, ρ => ∀ σ H, Rep c B ts vs ρ σ H → D.ct σ H
  | .rt s, ρ => ∀ v σ H, Rep c B (some s :: ts) (some v :: vs) ρ σ H → D.rt v H
def ErrS (c : Cfg) (W : WX) (B : Base) (ts : En) (vs : List (Option V)) (e : Err) (ρ : En) : Prop := ∀ σ k d H, c.err e k d H → Rep c B ts vs ρ σ H → W k d σ H
def DenS (c : Cfg) (W : WX) (t : TS) (F : M Fl) : Prop := ∀ B ts vs ρ σ H D, Rep c B ts vs ρ σ H → Post (EndP c B ts vs D) (ErrS c W B ts vs) (F ρ) → t D σ H
/-- but for the slots js -/
def Off (js : List Nat) (σ σ' : L2.St) : Prop := σ'.length = σ.length ∧ ∀ i, i ∉ js → σ'[i]? = σ[i]?
def DenG (c : Cfg) (W : WX) (g : TG) (F : D → M Unit) (js : List Nat) : Prop := ∀ B ts vs ρ σ H x v Q, Rep c B (some (.d x) :: ts) (some v :: vs) ρ σ H → Post (fun _ ρ' => ∀ σ' H', Off js σ σ' → Rep c B ts vs ρ' σ' H' → Q σ' H') (ErrS c W B ts vs) (F x ρ) → g v σ H Q
def DenGs (c : Cfg) (W : WX) (g : TGs) (F : List D → M Unit) (js : List Nat) : Prop := ∀ B ts vs ρ σ H ds us Q, us.length = ds.length → Rep c B ((ds.map fun x => some (S.d x)) ++ ts) (us.map some ++ vs) ρ σ H → Post (fun _ ρ' => ∀ σ' H', Off js σ σ' → Rep c B ts vs ρ' σ' H' → Q σ' H') (ErrS c W B ts vs) (F ds ρ) → g us σ H Q
def mNx : M Fl := fun ρ => .ok .nx ρ
def mBk : M Fl := fun ρ => .ok .bk ρ
def mCt : M Fl := fun ρ => .ok .ct ρ
def mSt : M Fl := fun _ => .stuck
def mSeq (F G : M Fl) : M Fl := fun ρ => (F ρ).then fun f ρ' => match f with
  | .nx => G ρ'
  | .rt s => .ok (.rt s) ρ'
  | .bk => .ok .bk ρ'
  | .ct => .ok .ct ρ'
def mRet (f : M S) : M Fl := fun ρ => (f ρ).then fun s ρ' => .ok (.rt s) ρ'
def mRetN : M Fl := fun ρ => .ok (.rt (.d .non)) ρ
/-- the value of a name is handed back, its cell with it -/
def mRetO (i : Nat) : M Fl := fun ρ => match ρ[i]? with
  | some (some (.o none x)) => .ok (.rt (.o none x)) (ρ.set i none)
  | some (some (.d x)) => .ok (.rt (.d x)) ρ
  | _ => .stuck
def mIfS (t : M Bool) (F G : M Fl) : M Fl := fun ρ => (t ρ).then fun b ρ' => if b = true then F ρ' else G ρ'
def mDrop (f : M S) : M Fl := fun ρ => (f ρ).then fun _ ρ' => .ok .nx ρ'
def mAsg (f : M S) (g : D → M Unit) : M Fl := fun ρ => (dv f ρ).then fun x ρ' => (g x ρ').then fun _ ρ2 => .ok .nx ρ2
def mAsgO (i : Nat) (f : M S) : M Fl := fun ρ => (f ρ).then fun s ρ' => match s with
  | .o none x => .ok .nx (ρ'.set i (some (.o none x)))
  | .d x => .ok .nx (ρ'.set i (some (.d x)))
  | _ => .stuck
def gmName (i : Nat) : D → M Unit := fun x ρ => .ok () (ρ.set i (some (.d x)))
def gmNil : List D → M Unit := fun ds ρ => match ds with
  | [] => .ok () ρ
  | _ => .stuck
def gmCons (g : D → M Unit) (gs : List D → M Unit) : List D → M Unit := fun ds ρ => match ds with
  | d :: r => (g d ρ).then fun _ ρ' => gs r ρ'
  | [] => .stuck
def gmTup (n : Nat) (gs : List D → M Unit) : D → M Unit := fun x ρ => match x with
  | .tup ds => if ds.length = n then gs ds ρ else .stuck
  | _ => .stuck
section
variable {c : Cfg} {W : WX} {te : TE} {fe : M S} {tt : TT} {ft : M Bool} {t u : TS} {F G : M Fl} {g : TG} {gm : D → M Unit} {js js' : List Nat}
theorem ErrS.toP {B : Base} {ts : En} {vs : List (Option V)} {σ : L2.St} {e : Err} {ρ : En} (h : ErrS c W B ts vs e ρ) : ErrP c W B ts vs σ e ρ := fun k d H' he r => h σ k d H' he r
theorem ErrS.drop {B : Base} {ts : En} {vs : List (Option V)} {s : Option S} {v : Option V} {e : Err} {ρ : En} (h : ErrS c W B ts vs e ρ) : ErrS c W B (s :: ts) (v :: vs) e ρ := fun σ k d H' he r => h σ k d H' he r.drop
theorem ds_nx : DenS c W tNext mNx := fun B ts vs ρ σ H D r q => q σ H r
theorem ds_never : DenS c W tNever mSt := fun B ts vs ρ σ H D r q => q
theorem ds_seq (h : DenS c W t F) (k : DenS c W u G) : DenS c W (tSeq t u) (mSeq F G) := fun B ts vs ρ σ H D r q => by
  unfold mSeq at q
  rw [post_then] at q
  refine h B ts vs ρ σ H { D with nx := u D } r (q.imp1 fun f ρ' p => ?_)
  cases f with
  | nx => exact fun σ' H' r' => k B ts vs ρ' σ' H' D r' p
  | rt s => exact p
  | bk => exact p
  | ct => exact p
theorem ds_ret (h : Den c W te fe) : DenS c W (tRet te) (mRet fe) := fun B ts vs ρ σ H D r q => by
  unfold mRet at q
  rw [post_then] at q
  exact h B ts vs ρ σ H _ r (q.imp (fun s ρ' p v H' r' => p v σ H' r') fun _ _ h => h.toP)
theorem ds_if (h : DenT c W tt ft) (k : DenS c W t F) (l : DenS c W u G) : DenS c W (tIfS tt t u) (mIfS ft F G) := fun B ts vs ρ σ H D r q => by
  unfold mIfS at q
  rw [post_then] at q
  refine h B ts vs ρ σ H _ r (q.imp (fun b ρ' p H' r' => ?_) fun _ _ h => h.toP)
  cases b with
  | true => exact k B ts vs ρ' σ H' D r' p
  | false => exact l B ts vs ρ' σ H' D r' p
theorem ds_drop (h : Den c W te fe) : DenS c W (tDrop te) (mDrop fe) := fun B ts vs ρ σ H D r q => by
  unfold mDrop at q
  rw [post_then] at q
  exact h B ts vs ρ σ H _ r (q.imp (fun s ρ' p v H' r' => p σ H' r'.drop) fun _ _ h => h.toP)
theorem ds_asg (h : Den c W te fe) (k : DenG c W g gm js) : DenS c W (tAsg te g) (mAsg fe gm) := fun B ts vs ρ σ H D r q => by
  unfold mAsg at q
  rw [post_then] at q
  refine h.dv r (q.imp (fun x ρ' p v H' r' => ?_) fun _ _ h => h.toP)
  rw [post_then] at p
  exact k B ts vs ρ' σ H' x v D.nx r' (p.imp1 fun _ ρ2 p2 σ2 H2 _ r2 => p2 σ2 H2 r2)
theorem ds_asgO {i : Nat} (h : Den c W te fe) : DenS c W (tAsg te (gName i)) (mAsgO i fe) := fun B ts vs ρ σ H D r q => by
  unfold mAsgO at q
  rw [post_then] at q
  refine h B ts vs ρ σ H _ r (q.imp (fun s ρ' p v H' r' => ?_) fun _ _ h => h.toP)
  cases s with
  | d x => exact p _ H' r'.set
  | o b x =>
    cases b with
    | some _ => exact p.elim
    | none => exact p _ H' r'.set
  | q _ _ => exact p.elim
theorem dg_name {i : Nat} : DenG c W (gName i) (gmName i) [i] := fun B ts vs ρ σ H x v Q r q => q _ H ⟨by rw [List.length_set], fun j hj => List.getElem?_set_ne fun e => hj (by simp [e])⟩ r.set
theorem dgs_nil : DenGs c W gNil gmNil [] := fun B ts vs ρ σ H ds us Q hl r q => by
  cases ds with
  | nil =>
    cases us with
    | nil => exact ⟨rfl, q σ H ⟨rfl, fun _ _ => rfl⟩ r⟩
    | cons _ _ => simp at hl
  | cons _ _ => exact q.elim
theorem dgs_cons {gs : TGs} {gms : List D → M Unit} (h : DenG c W g gm js) (k : DenGs c W gs gms js') : DenGs c W (gCons g gs) (gmCons gm gms) (js ++ js') := fun B ts vs ρ σ H ds us Q hl r q => by
  cases ds with
  | nil => exact q.elim
  | cons x ds =>
    cases us with
    | nil => simp at hl
    | cons v us =>
      have hl' : us.length = ds.length := by simpa using hl
      refine ⟨v, us, rfl, ?_⟩
      have q : Post _ _ ((gm x ρ).then fun _ ρ' => gms ds ρ') := q
      rw [post_then] at q
      refine h B _ _ ρ σ H x v _ r (q.imp (fun _ ρ' p σ' H' o1 r' => k B ts vs ρ' σ' H' ds us Q hl' r' (p.imp1 fun _ ρ2 p σ2 H2 o2 r2 => p σ2 H2 ⟨o2.1.trans o1.1, fun i hi => (o2.2 i fun z => hi (List.mem_append_right _ z)).trans (o1.2 i fun z => hi (List.mem_append_left _ z))⟩ r2)) fun e ρ' h σ' k' d H' he r' => h σ' k' d H' he ?_)
      have r2 := Rep.dropN (ds := ds.reverse) (us := us.reverse) (by simpa using hl') (by simpa [tmp, tmv] using r')
      exact r2
theorem dg_tup {gs : TGs} {gms : List D → M Unit} {n : Nat} (k : DenGs c W gs gms js) : DenG c W (gTup c.K n gs) (gmTup n gms) js := fun B ts vs ρ σ H x v Q r q => by
  cases x <;> first | exact q.elim | skip
  rename_i ds
  have q : Post _ _ (if ds.length = n then gms ds ρ else .stuck) := q
  split at q
  · rename_i hn
    obtain ⟨G, o1, o2, kk, h1, h2⟩ := r
    cases h1 with
    | d hv h1 =>
      obtain ⟨a, xs, rfl, ha, ka⟩ := hv.tupE
      refine ⟨a, xs, rfl, SqT.up kk.sub ha, by rw [ka.length, hn], k B ts vs ρ σ H ds xs Q ka.length ⟨G, o1, o2, kk, ?_, h2⟩ q⟩
      exact ka.sl h1
  · exact q.elim
end
/-! ### loops -/
/-- what a walk gives, turn by turn, while what it walks waits -/
def IsWalk (c : Cfg) (st : List D) (sv : List V) (J : It) (items : List D) : Prop := ∃ n Gw Y, Walk J n Gw Y ∧ n = items.length ∧
  (∀ B ts vs ρ σ H, Rep c B (tmp st ++ ts) (tmv sv ++ vs) ρ σ H → Gw H) ∧
  ∀ B ts vs ρ σ H k x H', k < n → Rep c B (tmp st ++ ts) (tmv sv ++ vs) ρ σ H → Y k H x H' → ∃ d, items[k]? = some d ∧ Rep c B (some (.d d) :: (tmp st ++ ts)) (some x :: (tmv sv ++ vs)) ρ σ H'
def OkI (c : Cfg) (B : Base) (ts : En) (vs : List (Option V)) (σ : L2.St) (R : It → Hp → Prop) (items : List D) (ρ : En) : Prop :=
  ∀ J st sv H', sv.length = st.length → Rep c B (tmp st ++ ts) (tmv sv ++ vs) ρ σ H' → IsWalk c st sv J items → R J H'
def DenI (c : Cfg) (W : WX) (wi : TI) (f : M (List D)) : Prop := ∀ B ts vs ρ σ H R, Rep c B ts vs ρ σ H → Post (OkI c B ts vs σ R) (ErrP c W B ts vs σ) (f ρ) → wi σ H R
/-- a for's turns -/
def mLoop (gm : D → M Unit) (F : M Fl) : List D → M Fl
  | [] => fun ρ => .ok .nx ρ
  | x :: xs => fun ρ => (gm x ρ).then fun _ ρ1 => (F ρ1).then fun f ρ2 => match f with
    | .nx => mLoop gm F xs ρ2
    | .ct => mLoop gm F xs ρ2
    | .bk => .ok .nx ρ2
    | .rt s => .ok (.rt s) ρ2
def mFor (fI : M (List D)) (gm : D → M Unit) (F : M Fl) : M Fl := fun ρ => (fI ρ).then fun items ρ1 => mLoop gm F items ρ1
def mWhile (ft : M Bool) (F : M Fl) : Nat → M Fl
  | 0 => fun _ => .stuck
  | n + 1 => fun ρ => (ft ρ).then fun b ρ1 => if b = true then (F ρ1).then fun f ρ2 => match f with
      | .nx => mWhile ft F n ρ2
      | .ct => mWhile ft F n ρ2
      | .bk => .ok .nx ρ2
      | .rt s => .ok (.rt s) ρ2
    else .ok .nx ρ1
section
variable {c : Cfg} {W : WX} {wi : TI} {fI : M (List D)} {te : TE} {fe : M S} {tt : TT} {ft : M Bool} {t u : TS} {F G : M Fl} {g : TG} {gm : D → M Unit} {js js' : List Nat}
theorem EndP.dropN {B : Base} {ts : En} {vs : List (Option V)} {st : List D} {sv : List V} {s : S} {v : V} {ρ : En} {σ : L2.St} {H : Hp} (hl : sv.length = st.length) (r : Rep c B (some s :: (tmp st ++ ts)) (some v :: (tmv sv ++ vs)) ρ σ H) : Rep c B (some s :: ts) (some v :: vs) ρ σ H := by
  obtain ⟨G, o1, o2, k, h1, h2⟩ := r
  obtain ⟨w, os, o1', ew, e1, rfl, h1'⟩ := h1.unone
  cases ew
  exact ⟨G, os ++ o1', o2, k, Sl.one e1 (h1'.tmp hl).2, h2⟩
theorem ds_for (h : DenI c W wi fI) (k : DenG c W g gm js) (l : DenS c W t F) : DenS c W (tFor wi g t) (mFor fI gm F) := fun B ts vs ρ σ H D r q => by
  unfold mFor at q
  rw [post_then] at q
  refine h B ts vs ρ σ H _ r (q.imp (fun items ρ1 q J st sv H1 hl r1 w => ?_) fun _ _ h => h.toP)
  obtain ⟨n, Gw, Y, wk, rfl, hG, hY⟩ := w
  refine for_it wk (fun i σ H => ∃ ρ, Rep c B (tmp st ++ ts) (tmv sv ++ vs) ρ σ H ∧ Post (EndP c B ts vs D) (ErrS c W B ts vs) (mLoop gm F (items.drop i) ρ)) ⟨ρ1, r1, q⟩ (fun i σ H _ ⟨ρ, r, _⟩ => hG _ _ _ _ _ _ r) ?_ ?_
  · rintro i x σ1 H1 H2 hi ⟨ρ, r, q⟩ y
    obtain ⟨d, ed, r2⟩ := hY _ _ _ _ _ _ _ _ _ hi r y
    have hd : items.drop i = d :: items.drop (i + 1) := by
      rw [List.drop_eq_getElem_cons hi]
      rw [List.getElem?_eq_getElem hi] at ed
      cases ed
      rfl
    rw [hd] at q
    have q : Post _ _ ((gm d ρ).then fun _ ρ1 => (F ρ1).then fun f ρ2 => _) := q
    rw [post_then] at q
    have er : ∀ e ρ, ErrS c W B ts vs e ρ → ErrS c W B (tmp st ++ ts) (tmv sv ++ vs) e ρ := fun e ρ h σ k d H' he r => h σ k d H' he (r.dropN hl)
    refine k B _ _ ρ σ1 H2 d x _ r2 (q.imp (fun _ ρ2 q σ2 H3 _ r3 => ?_) er)
    rw [post_then] at q
    refine l B _ _ ρ2 σ2 H3 _ r3 (q.imp (fun f ρ3 p => ?_) er)
    cases f with
    | nx => exact fun σ4 H4 r4 => ⟨ρ3, r4, p⟩
    | ct => exact fun σ4 H4 r4 => ⟨ρ3, r4, p⟩
    | bk => exact fun σ4 H4 r4 => p σ4 H4 (r4.dropN hl)
    | rt s => exact fun v σ4 H4 r4 => p v σ4 H4 (EndP.dropN hl r4)
  · rintro σ1 H1 ⟨ρ, r, q⟩
    rw [List.drop_length] at q
    exact q σ1 H1 (r.dropN hl)
theorem ds_while {n : Nat} (h : DenT c W tt ft) (l : DenS c W t F) : DenS c W (tWhile tt t) (mWhile ft F n) := fun B ts vs ρ σ H D r q => by
  refine ⟨fun m σ H => ∃ ρ, Rep c B ts vs ρ σ H ∧ Post (EndP c B ts vs D) (ErrS c W B ts vs) (mWhile ft F m ρ), ⟨n, ρ, r, q⟩, ?_⟩
  rintro m σ H ⟨ρ, r, q⟩
  cases m with
  | zero => exact q.elim
  | succ m =>
    have q : Post _ _ ((ft ρ).then fun b ρ1 => _) := q
    rw [post_then] at q
    refine h B ts vs ρ σ H _ r (q.imp (fun b ρ1 q H1 r1 => ?_) fun _ _ h => h.toP)
    cases b with
    | false => exact q σ H1 r1
    | true =>
      have q : Post _ _ ((F ρ1).then fun f ρ2 => _) := q
      rw [post_then] at q
      refine ⟨fun σ H => ∃ ρ, Rep c B ts vs ρ σ H ∧ Post (EndP c B ts vs D) (ErrS c W B ts vs) (mWhile ft F m ρ), fun σ' H' h => ⟨m, Nat.lt_succ_self m, h⟩, ?_⟩
      refine l B ts vs ρ1 σ H1 _ r1 (q.imp1 fun f ρ2 p => ?_)
      cases f with
      | nx => exact fun σ4 H4 r4 => ⟨ρ2, r4, p⟩
      | ct => exact fun σ4 H4 r4 => ⟨ρ2, r4, p⟩
      | bk => exact p
      | rt s => exact p
end
/-! ### what is walked -/
def iSeq (f : M S) : M (List D) := fun ρ => (dv f ρ).then fun x ρ' => match itemsD x with
  | some ds => .ok ds ρ'
  | none => .stuck
def intsFrom (lo : Int) : Nat → List D
  | 0 => []
  | n + 1 => .int lo :: intsFrom (lo + 1) n
theorem intsFrom_length : ∀ (n : Nat) (lo : Int), (intsFrom lo n).length = n
  | 0, _ => rfl
  | n + 1, lo => by simp [intsFrom, intsFrom_length n]
theorem intsFrom_get : ∀ (n : Nat) (lo : Int) (k : Nat), k < n → (intsFrom lo n)[k]? = some (.int (lo + k))
  | 0, _, _, h => absurd h (Nat.not_lt_zero _)
  | n + 1, lo, 0, _ => by simp [intsFrom]
  | n + 1, lo, k + 1, h => by
    simp only [intsFrom, List.getElem?_cons_succ]
    rw [intsFrom_get n (lo + 1) k (by omega)]
    congr 2
    push_cast
    omega
def rOk (i : Int) : Bool := decide (-4611686018427387904 ≤ i) && decide (i < 4611686018427387904)
def iRange1 (fa : M (List D)) : M (List D) := fun ρ => (fa ρ).then fun ds ρ' => match ds with
  | [.int j] => if rOk j then .ok (intsFrom 0 j.toNat) ρ' else .stuck
  | _ => .stuck
def iRange2 (fa : M (List D)) : M (List D) := fun ρ => (fa ρ).then fun ds ρ' => match ds with
  | [.int i, .int j] => if rOk i && rOk j then .ok (intsFrom i (j - i).toNat) ρ' else .stuck
  | _ => .stuck
section
variable {c : Cfg} {W : WX} {wi : TI} {fI : M (List D)} {te : TE} {fe : M S} {tA : TA} {fA : M (List D)}
theorem rOk_iff {i : Int} : rOk i = true ↔ -(2 ^ 62) ≤ i ∧ i < 2 ^ 62 := by
  unfold rOk
  simp only [Bool.and_eq_true, decide_eq_true_eq]
  constructor <;> (intro h; constructor <;> omega)
theorem walk_ints {lo : Int} {n : Nat} : IsWalk c [] [] (Itr lo n) (intsFrom lo n) := by
  refine ⟨n, _, _, walk_range, (intsFrom_length n lo).symm, fun _ _ _ _ _ _ _ => trivial, ?_⟩
  rintro B ts vs ρ σ H k x H' hk r ⟨rfl, rfl⟩
  exact ⟨_, intsFrom_get n lo k hk, Rep.repl (ds := []) (us := []) r rfl fun G _ => .int _⟩
theorem di_range1 (h : DenA c W tA fA) : DenI c W (iRng1 tA) (iRange1 fA) := fun B ts vs ρ σ H R r q => by
  unfold iRange1 at q
  rw [post_then] at q
  refine h B ts vs ρ σ H _ r (q.imp1 fun ds ρ' p us H' hl r' => ?_)
  split at p
  · rename_i j
    split at p
    · rename_i hj
      rw [rOk_iff] at hj
      obtain ⟨v, rfl, G, O, hv⟩ := r'.one' hl
      cases hv
      exact ⟨j, rfl, hj.1, hj.2, p _ [] [] H' rfl (Rep.dropN (ds := [.int j]) (us := [.int j]) rfl r') walk_ints⟩
    · exact p.elim
  · exact p.elim
theorem di_range2 (h : DenA c W tA fA) : DenI c W (iRng2 tA) (iRange2 fA) := fun B ts vs ρ σ H R r q => by
  unfold iRange2 at q
  rw [post_then] at q
  refine h B ts vs ρ σ H _ r (q.imp1 fun ds ρ' p us H' hl r' => ?_)
  split at p
  · rename_i i j
    split at p
    · rename_i hj
      rw [Bool.and_eq_true, rOk_iff, rOk_iff] at hj
      obtain ⟨v, w, rfl, G, O, hv, hw⟩ := r'.two' hl
      cases hv
      cases hw
      exact ⟨i, j, rfl, ⟨hj.1.1, hj.1.2, hj.2.1, hj.2.2⟩, p _ [] [] H' rfl (Rep.dropN (ds := [.int i, .int j]) (us := [.int i, .int j]) rfl r') walk_ints⟩
    · exact p.elim
  · exact p.elim
end
end Fx
/-! zip of two tuples, its pairs kept by a name: the pair that was handed out before may be alive or not -/
namespace Fx
open PySem RZ
open Builtin.SmallTypes (ownedTupleIsFree ownedTupleHandOut nextOf)
section
variable {prog : Program} {w : World} {A : Around} {E : Value → Shared → Prop} {s : Shared} {z TI TO i1 i2 l1 l2 : Addr} {k1 k2 : Nat} {xs ys : Array Value} {x y v : Value} {f : Bool}
/-- the zip object: v names the pair that it handed out, if any -/
abbrev ZAt (h : Heap) (z TI TO : Addr) (v : Value) (f : Bool) : Prop := h.get? z = some { cls := .type "zip", dict := none, data := .fields #[v, .bool f, .bool false, .ref TI, .ref TO], slots := #[] }
def Old (v : Value) : Prop := v = .none ∨ ∃ T : Addr, v = rawInt T
theorem zip_free {Q : Bool → Shared → Prop} (g : ZAt s.heap z TI TO v f) (hv : Old v) (q : ∀ b h' f', ZAt h' z TI TO v f' → Heap.SameBut z s.heap h' → Q b { s with heap := h' }) :
    wpAny (model prog w) A (ownedTupleIsFree (Value.ref z)) Q E s := by
  have look : ∀ (a : Addr) (P : Option Obj → Shared → Prop), P (s.heap.get? a) s → wpAny (model prog w) A (loadIfAlive a) P E s := fun a P h _ _ _ => h
  unfold ownedTupleIsFree
  rcases hv with rfl | ⟨T, rfl⟩
  · exact wpAny_bind (wpAny_field g rfl (x := Value.none) rfl (wpAny_pure (q true s.heap f g (Heap.SameBut.refl _ _))))
  · apply wpAny_bind
    refine wpAny_field g rfl (x := rawInt T) rfl ?_
    show wpAny _ _ (loadIfAlive (Int.toNat (T : Int)) >>= _) _ _ _
    rw [Int.toNat_natCast]
    apply wpAny_bind
    apply look
    cases s.heap.get? T with
    | none => exact wpAny_pure (q true s.heap f g (Heap.SameBut.refl _ _))
    | some o =>
      simp only [Option.isNone_some, Bool.false_eq_true, ite_false]
      apply wpAny_bind
      refine wpAny_field g rfl (x := Value.bool f) rfl ?_
      by_cases e : f = true
      · subst e
        exact wpAny_pure (q false s.heap true g (Heap.SameBut.refl _ _))
      · have e : f = false := by simpa using e
        subst e
        exact wpAny_bind (wpAny_setField_rec g (by simp) fun h' g' same => wpAny_pure (q false h' true g' same))
/-- next(z), both have an item -/
theorem zip_turn {Q : Value → Shared → Prop} (D : ZipApart z TI TO i1 i2 l1 l2) (g : ZAt s.heap z TI TO v f) (hv : Old v) (t1 : IsPair s.heap TI (.ref i1) (.ref i2)) (t2 : ∃ a b, IsPair s.heap TO a b)
    (j1 : s.heap.IsTupleIter i1 l1 k1) (j2 : s.heap.IsTupleIter i2 l2 k2) (c1 : s.heap.IsTuple l1 xs) (c2 : s.heap.IsTuple l2 ys) (ex : xs[k1]? = some x) (ey : ys[k2]? = some y)
    (q : ∀ h' v' f', Old v' → ZAt h' z TI TO v' f' → (∃ a b, IsPair h' TO a b) → h'.IsTupleIter i1 l1 (k1 + 1) → h'.IsTupleIter i2 l2 (k2 + 1) → IsPair h' s.heap.objs.size x y → h'.objs.size = s.heap.objs.size + 1 →
      (∀ c o, c ≠ z → c ≠ TO → c ≠ i1 → c ≠ i2 → s.heap.get? c = some o → h'.get? c = some o) → Q (.ref s.heap.objs.size) { s with heap := h' }) :
    wpAny (model prog w) A (Builtin.«zip.__next__» ⟨[Value.ref z], []⟩) (fun r s' => ∃ u, r = .done (.ret u) ∧ Q u s') E s := by
  obtain ⟨a, b, t2⟩ := t2
  show wpAny _ _ (field (Value.ref z) 2 >>= _) _ _ _
  apply wpAny_bind
  refine wpAny_field g rfl (x := Value.bool false) rfl ?_
  show wpAny _ _ (field (Value.ref z) 3 >>= _) _ _ _
  apply wpAny_bind
  refine wpAny_field g rfl (x := Value.ref TI) rfl ?_
  apply wpAny_bind
  apply wpAny_seqItems t1 rfl
  show wpAny _ _ (ownedTupleIsFree (Value.ref z) >>= _) _ _ _
  apply wpAny_bind
  refine zip_free g hv fun free h1 f1 g1 s1 => ?_
  have m1 : ∀ c o, c ≠ z → s.heap.get? c = some o → h1.get? c = some o := fun c o n e => s1.extBut _ _ n e
  cases free with
  | false =>
    simp only [Bool.false_eq_true, ite_false]
    apply wpAny_bind
    rw [← Array.forIn_toList]
    simp only [List.forIn_cons, List.forIn_nil]
    apply wpAny_bind
    apply wpAny_bind
    apply wpAny_holding
    show wpAny _ _ (nextOf (Value.ref i1) >>= _) _ _ _
    apply wpAny_bind
    refine nextOf_tuple_item (s := { s with heap := h1 }) (j1.extBut s1.extBut D.i1z) (c1.extBut s1.extBut D.l1z) ex fun h2 p2 s2 => wpAny_pure (wpAny_pure ?_)
    apply wpAny_bind
    apply wpAny_bind
    apply wpAny_holding
    show wpAny _ _ (nextOf (Value.ref i2) >>= _) _ _ _
    apply wpAny_bind
    refine nextOf_tuple_item (s := { s with heap := h2 }) ((j2.extBut s1.extBut D.i2z).extBut s2.extBut D.i12.symm) ((c2.extBut s1.extBut D.l2z).extBut s2.extBut D.l2i1) ey fun h3 p3 s3 => wpAny_pure (wpAny_pure (wpAny_pure ?_))
    show wpAny _ _ (newTuple [x, y] >>= _) _ _ _
    apply wpAny_bind
    refine wpAny_newTuple ?_
    have n : h3.objs.size = s.heap.objs.size := by rw [s3.1, s2.1, s1.1]
    have m3 : ∀ c o, c ≠ z → c ≠ i1 → c ≠ i2 → s.heap.get? c = some o → h3.get? c = some o := fun c o n1 n2 n3 e => s3.extBut _ _ n3 (s2.extBut _ _ n2 (m1 c o n1 e))
    have g3 : ZAt h3 z TI TO v f1 := s3.extBut _ _ D.i2z.symm (s2.extBut _ _ D.i1z.symm g1)
    have up : ∀ c o, h3.get? c = some o → (h3.push { cls := .type "tuple", data := .seq #[x, y] }).get? c = some o := fun c o e => Heap.get?_push_of_some _ e
    have new : IsPair (h3.push { cls := .type "tuple", data := .seq #[x, y] }) h3.objs.size x y := Heap.get?_push_size _ rfl
    have len : (h3.push { cls := .type "tuple", data := .seq #[x, y] }).objs.size = h3.objs.size + 1 := Heap.size_push ..
    refine wpAny_pure ⟨_, rfl, ?_⟩
    show Q (Value.ref h3.objs.size) _
    rw [n] at new len ⊢
    exact q _ v f1 hv (up _ _ g3) ⟨a, b, up _ _ (m3 _ _ D.TOz D.TOi1 D.TOi2 t2)⟩ ((p2.extBut s3.extBut D.i12).at fun o e => up _ o e) (p3.at fun o e => up _ o e) new len fun c o n1 n2 n3 n4 e => up _ _ (m3 c o n1 n3 n4 e)
  | true =>
    simp only [ite_true]
    apply wpAny_bind
    apply wpAny_rule
    apply wpAny_bind
    refine wpAny_field g1 rfl (x := Value.ref TO) rfl ?_
    apply wpAny_bind
    refine wpAny_setField_rec g1 (by simp) fun h2 g2 s2 => ?_
    replace g2 : ZAt h2 z TI TO .ellipsis f1 := g2
    apply wpAny_bind
    simp only [List.zipIdx_cons, List.zipIdx_nil, List.forIn_cons, List.forIn_nil]
    apply wpAny_bind
    apply wpAny_bind
    apply wpAny_onRaise
    show wpAny _ _ (nextOf (Value.ref i1) >>= _) _ _ _
    apply wpAny_bind
    refine nextOf_tuple_item (s := { s with heap := h2 }) ((j1.extBut s1.extBut D.i1z).extBut s2.extBut D.i1z) ((c1.extBut s1.extBut D.l1z).extBut s2.extBut D.l1z) ex fun h3 p3 s3 => wpAny_pure ?_
    have o3 : IsPair h3 TO a b := s3.extBut _ _ D.TOi1 (s2.extBut _ _ D.TOz (m1 _ _ D.TOz t2))
    apply wpAny_bind
    apply wpAny_seqItems o3 rfl
    apply wpAny_bind
    refine wpAny_updateSeq_pair o3 fun h4 o4 s4 => ?_
    replace o4 : IsPair h4 TO x b := o4
    apply wpAny_bind
    refine wpAny_letGo (wpAny_pure ?_)
    apply wpAny_bind
    apply wpAny_bind
    apply wpAny_onRaise
    show wpAny _ _ (nextOf (Value.ref i2) >>= _) _ _ _
    apply wpAny_bind
    refine nextOf_tuple_item (s := { s with heap := h4 }) ((((j2.extBut s1.extBut D.i2z).extBut s2.extBut D.i2z).extBut s3.extBut D.i12.symm).extBut s4.extBut D.TOi2.symm) ((((c2.extBut s1.extBut D.l2z).extBut s2.extBut D.l2z).extBut s3.extBut D.l2i1).extBut s4.extBut D.l2TO) ey fun h5 p5 s5 => wpAny_pure ?_
    have o5 : IsPair h5 TO x b := s5.extBut _ _ D.TOi2 o4
    apply wpAny_bind
    apply wpAny_seqItems o5 rfl
    apply wpAny_bind
    refine wpAny_updateSeq_pair o5 fun h6 o6 s6 => ?_
    replace o6 : IsPair h6 TO x y := o6
    apply wpAny_bind
    refine wpAny_letGo (wpAny_pure (wpAny_pure ?_))
    apply wpAny_bind
    apply wpAny_seqItems o6 rfl
    apply wpAny_bind
    refine wpAny_newTuple ?_
    have n : h6.objs.size = s.heap.objs.size := by rw [s6.1, s5.1, s4.1, s3.1, s2.1, s1.1]
    have g6 : ZAt h6 z TI TO .ellipsis f1 := s6.extBut _ _ D.TOz.symm (s5.extBut _ _ D.i2z.symm (s4.extBut _ _ D.TOz.symm (s3.extBut _ _ D.i1z.symm g2)))
    have m6 : ∀ c o, c ≠ z → c ≠ TO → c ≠ i1 → c ≠ i2 → s.heap.get? c = some o → h6.get? c = some o := fun c o n1 n2 n3 n4 e => s6.extBut _ _ n2 (s5.extBut _ _ n4 (s4.extBut _ _ n2 (s3.extBut _ _ n3 (s2.extBut _ _ n1 (m1 c o n1 e)))))
    have q1 : h6.IsTupleIter i1 l1 (k1 + 1) := ((p3.extBut s4.extBut D.TOi1.symm).extBut s5.extBut D.i12).extBut s6.extBut D.TOi1.symm
    have q2 : h6.IsTupleIter i2 l2 (k2 + 1) := p5.extBut s6.extBut D.TOi2.symm
    have zl : z < h6.objs.size := Heap.lt_size g6
    show wpAny _ _ (ownedTupleHandOut (Value.ref z) (Value.ref h6.objs.size) >>= _) _ _ _
    apply wpAny_bind
    unfold ownedTupleHandOut
    have g7 : ZAt (h6.push { cls := .type "tuple", data := .seq #[x, y] }) z TI TO .ellipsis f1 := Heap.get?_push_of_some _ g6
    apply wpAny_bind
    refine wpAny_setField_rec g7 (by simp) fun h8 g8 s8 => ?_
    replace g8 : ZAt h8 z TI TO (rawInt h6.objs.size) f1 := g8
    refine wpAny_setField_rec g8 (by simp) fun h9 g9 s9 => ?_
    replace g9 : ZAt h9 z TI TO (rawInt h6.objs.size) false := g9
    have up : ∀ c o, c ≠ z → h6.get? c = some o → h9.get? c = some o := fun c o n1 e => s9.extBut _ _ n1 (s8.extBut _ _ n1 (Heap.get?_push_of_some _ e))
    have new : IsPair h9 h6.objs.size x y := s9.extBut _ _ (Nat.ne_of_gt zl) (s8.extBut _ _ (Nat.ne_of_gt zl) (Heap.get?_push_size _ rfl))
    have len : h9.objs.size = h6.objs.size + 1 := by rw [s9.1, s8.1, Heap.size_push]
    refine wpAny_pure ⟨_, rfl, ?_⟩
    show Q (Value.ref h6.objs.size) _
    rw [n] at g9 new len ⊢
    exact q h9 _ false (.inr ⟨_, rfl⟩) g9 ⟨x, y, up _ _ D.TOz o6⟩ (q1.at fun o e => up _ o D.i1z e) (q2.at fun o e => up _ o D.i2z e) new len fun c o n1 n2 n3 n4 e => up c o n1 (m6 c o n1 n2 n3 n4 e)
/-- next(z), one of the two has come to its end -/
theorem zip_over {Q : Fin → Shared → Prop} (hh : A.handled = none) (D : ZipApart z TI TO i1 i2 l1 l2) (g : ZAt s.heap z TI TO v f) (hv : Old v) (t1 : IsPair s.heap TI (.ref i1) (.ref i2)) (t2 : ∃ a b, IsPair s.heap TO a b)
    (j1 : s.heap.IsTupleIter i1 l1 k1) (j2 : s.heap.IsTupleIter i2 l2 k2) (c1 : s.heap.IsTuple l1 xs) (c2 : s.heap.IsTuple l2 ys) (ee : xs[k1]? = none ∨ ys[k2]? = none)
    (q : ∀ h' e, (∀ c o, c ≠ z → c ≠ TO → c ≠ i1 → c ≠ i2 → s.heap.get? c = some o → h'.get? c = some o) → (∃ o, h'.get? e = some o ∧ o.cls = .type "StopIteration") → E (.ref e) { s with heap := h' }) :
    wpAny (model prog w) A (Builtin.«zip.__next__» ⟨[Value.ref z], []⟩) Q E s := by
  obtain ⟨a, b, t2⟩ := t2
  show wpAny _ _ (field (Value.ref z) 2 >>= _) _ _ _
  apply wpAny_bind
  refine wpAny_field g rfl (x := Value.bool false) rfl ?_
  show wpAny _ _ (field (Value.ref z) 3 >>= _) _ _ _
  apply wpAny_bind
  refine wpAny_field g rfl (x := Value.ref TI) rfl ?_
  apply wpAny_bind
  apply wpAny_seqItems t1 rfl
  show wpAny _ _ (ownedTupleIsFree (Value.ref z) >>= _) _ _ _
  apply wpAny_bind
  refine zip_free g hv fun free h1 f1 g1 s1 => ?_
  have m1 : ∀ c o, c ≠ z → s.heap.get? c = some o → h1.get? c = some o := fun c o n e => s1.extBut _ _ n e
  cases free with
  | false =>
    simp only [Bool.false_eq_true, ite_false]
    apply wpAny_bind
    rw [← Array.forIn_toList]
    simp only [List.forIn_cons, List.forIn_nil]
    apply wpAny_bind
    apply wpAny_bind
    apply wpAny_holding
    show wpAny _ _ (nextOf (Value.ref i1) >>= _) _ _ _
    apply wpAny_bind
    cases ex : xs[k1]? with
    | none => exact nextOf_tuple_end (s := { s with heap := h1 }) hh (j1.extBut s1.extBut D.i1z) (c1.extBut s1.extBut D.l1z) ex fun h2 e s2 stop => q h2 e (fun c o n1 _ n3 _ k => s2 _ _ n3 (m1 c o n1 k)) stop
    | some x =>
      have ey : ys[k2]? = none := ee.resolve_left fun k => by rw [ex] at k; cases k
      refine nextOf_tuple_item (s := { s with heap := h1 }) (j1.extBut s1.extBut D.i1z) (c1.extBut s1.extBut D.l1z) ex fun h2 p2 s2 => wpAny_pure (wpAny_pure ?_)
      apply wpAny_bind
      apply wpAny_bind
      apply wpAny_holding
      show wpAny _ _ (nextOf (Value.ref i2) >>= _) _ _ _
      apply wpAny_bind
      exact nextOf_tuple_end (s := { s with heap := h2 }) hh ((j2.extBut s1.extBut D.i2z).extBut s2.extBut D.i12.symm) ((c2.extBut s1.extBut D.l2z).extBut s2.extBut D.l2i1) ey fun h3 e s3 stop => q h3 e (fun c o n1 _ n3 n4 k => s3 _ _ n4 (s2.extBut _ _ n3 (m1 c o n1 k))) stop
  | true =>
    simp only [ite_true]
    apply wpAny_bind
    apply wpAny_rule
    apply wpAny_bind
    refine wpAny_field g1 rfl (x := Value.ref TO) rfl ?_
    apply wpAny_bind
    refine wpAny_setField_rec g1 (by simp) fun h2 g2 s2 => ?_
    replace g2 : ZAt h2 z TI TO .ellipsis f1 := g2
    apply wpAny_bind
    simp only [List.zipIdx_cons, List.zipIdx_nil, List.forIn_cons, List.forIn_nil]
    apply wpAny_bind
    apply wpAny_bind
    apply wpAny_onRaise
    show wpAny _ _ (nextOf (Value.ref i1) >>= _) _ _ _
    apply wpAny_bind
    have back : ∀ (h3 : Heap) (e : Addr), ZAt h3 z TI TO .ellipsis f1 → (∀ c o, c ≠ z → c ≠ TO → c ≠ i1 → c ≠ i2 → s.heap.get? c = some o → h3.get? c = some o) → (∃ o, h3.get? e = some o ∧ o.cls = .type "StopIteration") →
        wpAny (model prog w) A (setField (Value.ref z) 0 .none) (fun _ s' => E (.ref e) s') E { s with heap := h3 } := fun h3 e g3 m3 ⟨o, ho, hc⟩ => by
      have ne : e ≠ z := fun k => by
        rw [k, g3] at ho
        cases ho
        simp at hc
      exact wpAny_setField_rec (s := { s with heap := h3 }) g3 (by simp) fun h4 _ s4 => q h4 e (fun c o n1 n2 n3 n4 k => s4.extBut _ _ n1 (m3 c o n1 n2 n3 n4 k)) ⟨o, s4.extBut _ _ ne ho, hc⟩
    cases ex : xs[k1]? with
    | none => exact nextOf_tuple_end (s := { s with heap := h2 }) hh ((j1.extBut s1.extBut D.i1z).extBut s2.extBut D.i1z) ((c1.extBut s1.extBut D.l1z).extBut s2.extBut D.l1z) ex fun h3 e s3 stop => back h3 e (s3 _ _ D.i1z.symm g2) (fun c o n1 _ n3 _ k => s3 _ _ n3 (s2.extBut _ _ n1 (m1 c o n1 k))) stop
    | some x =>
      have ey : ys[k2]? = none := ee.resolve_left fun k => by rw [ex] at k; cases k
      refine nextOf_tuple_item (s := { s with heap := h2 }) ((j1.extBut s1.extBut D.i1z).extBut s2.extBut D.i1z) ((c1.extBut s1.extBut D.l1z).extBut s2.extBut D.l1z) ex fun h3 p3 s3 => wpAny_pure ?_
      have o3 : IsPair h3 TO a b := s3.extBut _ _ D.TOi1 (s2.extBut _ _ D.TOz (m1 _ _ D.TOz t2))
      apply wpAny_bind
      apply wpAny_seqItems o3 rfl
      apply wpAny_bind
      refine wpAny_updateSeq_pair o3 fun h4 o4 s4 => ?_
      apply wpAny_bind
      refine wpAny_letGo (wpAny_pure ?_)
      apply wpAny_bind
      apply wpAny_bind
      apply wpAny_onRaise
      show wpAny _ _ (nextOf (Value.ref i2) >>= _) _ _ _
      apply wpAny_bind
      exact nextOf_tuple_end (s := { s with heap := h4 }) hh ((((j2.extBut s1.extBut D.i2z).extBut s2.extBut D.i2z).extBut s3.extBut D.i12.symm).extBut s4.extBut D.TOi2.symm) ((((c2.extBut s1.extBut D.l2z).extBut s2.extBut D.l2z).extBut s3.extBut D.l2i1).extBut s4.extBut D.l2TO) ey fun h5 e s5 stop =>
        back h5 e (s5 _ _ D.i2z.symm (s4.extBut _ _ D.TOz.symm (s3.extBut _ _ D.i1z.symm g2))) (fun c o n1 n2 n3 n4 k => s5 _ _ n4 (s4.extBut _ _ n2 (s3.extBut _ _ n3 (s2.extBut _ _ n1 (m1 c o n1 k))))) stop
end
end Fx
/-! zip of a tuple and a list, its pairs taken apart -/
/-! for i, x in enumerate(t), t a tuple -/
namespace Rw
open PySem PySem.Spec PyProof.Rows L2
open Builtin
theorem enumNew {v : Value} {o : Obj} {G : Heap → Prop} (B : Begins v o G) :
    Meets (Builtin.«enumerate.__new__» ⟨[.type "enumerate", v], []⟩) (fun _ R s =>
      G s.heap ∧ R (.ok (.ret (.ref (s.heap.objs.size + 1))))
        { s with heap := (s.heap.push o).push ⟨.type "enumerate", none, .fields #[.none, .bool false, .ref s.heap.objs.size, rawInt 0, .none, .none], #[]⟩ }) :=
  .of_wp fun prog w A R s both => by
    obtain ⟨hp, g, d, tk, os⟩ := s
    obtain ⟨hg, both⟩ := both
    have isub := sub_enumerate
    have sz : (hp.push o).objs.size = hp.objs.size + 1 := Heap.size_push ..
    have it1 : ∀ {A' : Around} {E : Value → Shared → Prop} {Q : Value → Shared → Prop},
        Q (.ref hp.objs.size) ⟨hp.push o, g, d, tk, os⟩ → wpAny (model prog w) A' (pyIter v) Q E ⟨hp, g, d, tk, os⟩ :=
      fun q => B.iter prog w _ _ ⟨hp, g, d, tk, os⟩ _ hg q
    wp_walk using it1
    refine wpAny_stack_any fun st => wpAny_pure ?_
    split
    · rename_i c _ _ _ _ _
      cases (c == Value.type "enumerate") <;> (wp_walk using it1; exact ⟨_, rfl, by rw [sz]; exact both⟩)
    · wp_walk using it1
      exact ⟨_, rfl, by rw [sz]; exact both⟩
theorem enumCall {prog : Program} {w : World} {A : Around} {E : Value → Shared → Prop} {s : Shared}
    {v : Value} {o : Obj} {G : Heap → Prop} {Q : Value → Shared → Prop} (B : Begins v o G) (hg : G s.heap)
    (h : ∀ h', IsEnum h' (s.heap.objs.size + 1) s.heap.objs.size 0 .none → h'.get? s.heap.objs.size = some o →
      (∀ b ob, s.heap.get? b = some ob → h'.get? b = some ob) → Q (.ref (s.heap.objs.size + 1)) { s with heap := h' }) :
    wpAny (model prog w) A (call (.type "enumerate") [v]) Q E s := by
  have sz : (s.heap.push o).objs.size = s.heap.objs.size + 1 := Heap.size_push ..
  have at1 : IsEnum ((s.heap.push o).push ⟨.type "enumerate", none, .fields #[.none, .bool false, .ref s.heap.objs.size, rawInt 0, .none, .none], #[]⟩)
      (s.heap.objs.size + 1) s.heap.objs.size 0 .none := by
    have z := Heap.get?_push_size (s.heap.push o) (o := ⟨.type "enumerate", none, .fields #[.none, .bool false, .ref s.heap.objs.size, rawInt 0, .none, .none], #[]⟩) rfl
    rw [sz] at z
    exact z
  refine callType_new F.called_enumerate (by decide) (F.typeCall_enumerate_1 _) (F.newCall_enumerate_1 _) (fun obj => F.args_object_init_2 obj _)
    F.entry_enumerate_new (enumNew B) ⟨hg, ⟨_, at1, rfl⟩, h _ at1 ?_ ?_⟩
  · exact Heap.get?_push_of_some _ (Heap.get?_push_size _ B.free)
  · exact fun b ob x => Heap.get?_push_of_some _ (Heap.get?_push_of_some _ x)
/-- the tuple at a, each item in a new pair with its place -/
def ItE (K : PySem.W.Frag) (a : Addr) : It where
  go := fun i H => ∃ xs x, SqT K H a xs ∧ xs[i]? = some x
  yld := fun i H v H' => ∃ T x, v = .ref T ∧ H T = none ∧ H' = upd H T (.tup [.int (i : Nat), x]) ∧ ∀ xs, SqT K H a xs → xs[i]? = some x
  stop := fun i H => ∃ xs : List V, SqT K H a xs ∧ xs.length = i
theorem turnE {P : Program} {w : World} {K : PySem.W.Frag} {elts : List Expr} {kk : Nat} {tpos : Pos} (a e it : Addr) (hai : a ≠ it) (hea : e ≠ a) :
    Turn P w K (.Tuple elts kk tpos) (ItE K a) [e, it] e
      (fun i h => (∃ old, IsEnum h e it ((i : Nat) : Int) old) ∧ h.IsTupleIter it a i ∧ e ≠ it) where
  mem := List.mem_cons_self
  obj := by
    rintro i h ⟨⟨old, he⟩, ⟨o, ho, _, hd⟩, _⟩ b hb
    rcases List.mem_cons.mp hb with rfl | hb
    · exact ⟨_, he, fun v q => nomatch q⟩
    · obtain rfl := List.mem_singleton.mp hb
      exact ⟨o, ho, fun v q => by rw [hd] at q; cases q⟩
  keep := by
    rintro i h h' ⟨⟨old, he⟩, hi, hne⟩ k
    exact ⟨⟨old, k e List.mem_cons_self _ he⟩, hi.at fun o q => k it (List.mem_cons_of_mem _ List.mem_cons_self) o q, hne⟩
  item := by
    rintro X rfl rfl rfl hc i pins s σ H E I hf ⟨⟨old, he⟩, hit, hne⟩ ⟨xs, x, hq, hx⟩
    obtain ⟨its, rv, p, hz⟩ := I.tuple hq
    obtain ⟨u, hu, ru⟩ := rv.get hx
    have hel : e < s.heap.objs.size := Heap.lt_size he
    have hil : it < s.heap.objs.size := by
      obtain ⟨_, q, _⟩ := hit
      exact Heap.lt_size q
    have hlt : i < its.toArray.size := by
      have := (List.getElem?_eq_some_iff.mp hu).1
      simpa using this
    have D := Draws.tuple (prog := X.prog) (w := X.w) (A := X.A.in1) (I.ok.hd hc) it a hai its.toArray
    refine wpAny_pyNext_enum_itemD D he ⟨hit, p⟩ hlt hne (by simp [hne, hea]) fun y h' tk hy ho hit' hT hsz hk => ?_
    have yu : y = u := by
      have hy' : its[i]? = some y := by simpa using hy
      rw [hu] at hy'
      exact (Option.some.inj hy').symm
    subst yu
    refine ⟨_, rfl, wpAny_letOwnedTupleGo_enum (s := { s with heap := h', toks := tk + 1 }) ho fun h'' he' sb => ?_⟩
    have hT2 : h''.get? s.heap.objs.size = some { cls := .type "tuple", data := .seq #[.int i tk, y] } := (sb.2 _ (Nat.ne_of_gt hel)).trans hT
    have new : ObjOk X.prog X.w (upd H s.heap.objs.size (.tup [.int (i : Nat), x])) h'' s.heap.objs.size (.tup [.int (i : Nat), x]) :=
      ⟨(by decide : 2 ≤ sizeLine), [.int i tk, y], .cons ⟨_, rfl⟩ (.cons ru .nil), ⟨_, hT2, rfl, _, rfl⟩⟩
    have nin : ∀ b, b ∉ [e, it] → b ≠ e ∧ b ≠ it := fun b hb => ⟨fun z => hb (z ▸ List.mem_cons_self), fun z => hb (z ▸ List.mem_cons_of_mem _ List.mem_cons_self)⟩
    have I1 : Inv X pins σ (upd H s.heap.objs.size (.tup [.int (i : Nat), x])) { s with heap := h'', toks := tk + 1 } :=
      I.turnedNew (ch := [e, it]) (fun b ob hb q => (sb.2 b (nin b hb).1).trans (hk b ob (nin b hb).1 (nin b hb).2 q)) hf (Nat.le_refl _) new
    refine ⟨.ref s.heap.objs.size, _, I1, rfl, ⟨_, x, rfl, I.hok.fresh (Nat.le_refl _), rfl, fun ys hy2 => by rw [I.tuple_inj hy2 hq]; exact hx⟩, ⟨⟨y, ?_⟩, hit'.1.at fun o q => (sb.2 it (Ne.symm hne)).trans q, hne⟩, fun b hb => ?_⟩
    · have e1 : ((i + 1 : Nat) : Int) = (i : Int) + 1 := by omega
      rw [e1]
      exact he'
    · have hb' : b < s.heap.objs.size := by
        rcases List.mem_cons.mp hb with rfl | hb
        · exact hel
        · obtain rfl := List.mem_singleton.mp hb
          exact hil
      rw [upd_ne (Nat.ne_of_lt hb')]
      exact (hf b hb).1
  done := by
    rintro X rfl rfl rfl hc i pins s σ H E I hf ⟨⟨old, he⟩, hit, hne⟩ ⟨xs, hq, hx⟩
    obtain ⟨its, rv, p, hz⟩ := I.tuple hq
    have D := Draws.tuple (prog := X.prog) (w := X.w) (A := X.A.in1) (I.ok.hd hc) it a hai its.toArray
    obtain ⟨f0, f1, f2, f3, f4, f5⟩ := hf it (List.mem_cons_of_mem _ List.mem_cons_self)
    have hl := rv.length
    have e1 : i = its.toArray.size := by simp only [List.size_toArray]; omega
    refine wpAny_pyNext_enum_endD D he (e1 ▸ ⟨hit, p⟩) fun h' eb => ⟨rfl, I.turned (t' := s.toks) (fun b o hb q => eb b o hb q) f0 f1 f3 f4 f5⟩
  self := by
    rintro A i s Q E ⟨⟨_, he⟩, _⟩ h
    exact wpAny_pyIter_enum he h
def iEnumT (K : PySem.W.Frag) (ta : TA) : TI := fun σ H R => ta σ H fun vs H1 => ∃ a xs, vs = [.ref a] ∧ SqT K H1 a xs ∧ R (ItE K a) H1
theorem pi_enumT {X : Cx} {e : Expr} {ta : TA} {p pos tpos : Pos} {elts : List Expr} {kk : Nat} (hg : Gl X "enumerate") (hm : X.mg "enumerate" = none) (ha : PA X [e] ta)
    (hs : starEach [e] X.env = [(false, eval e X.env)] := by rfl) : PI X (.Tuple elts kk tpos) (.Call (.Name "enumerate" p) [e] [] pos) (iEnumT X.K ta) := by
  refine ⟨fun pins s σ H R I h => ?_⟩
  refine Call_ (ld_blt I hg hm boot_enumerate (PyProof.Rows.callWith_type1 (thn (ha.run pos pins s σ H _ I h) ?_) hs rfl))
  rintro us s1 ⟨vs, H1, I1, r1, a, xs, rfl, hq, q⟩
  obtain ⟨u, rfl, ru⟩ := vals1 r1
  cases ru
  obtain ⟨its, rv, p', hz⟩ := I1.tuple hq
  have hal : a < s1.heap.objs.size := by
    obtain ⟨_, q, _⟩ := p'
    exact Heap.lt_size q
  refine enumCall (begins_tuple a its.toArray) p' fun h' he hit hk => wpAny_pyIter_enum he ?_
  have I2 : Inv X pins σ H1 { s1 with heap := h' } := I1.kept (t' := s1.toks) hk
  refine ⟨s1.heap.objs.size + 1, [s1.heap.objs.size + 1, s1.heap.objs.size], _, _, H1, rfl, I2,
    turnE a (s1.heap.objs.size + 1) s1.heap.objs.size (Nat.ne_of_lt hal) (Nat.ne_of_gt (Nat.lt_succ_of_lt hal)),
    ⟨⟨.none, he⟩, ⟨_, hit, rfl, rfl⟩, Nat.succ_ne_self _⟩, fun b hb => ?_, q⟩
  have hle : s1.heap.objs.size ≤ b := by
    rcases List.mem_cons.mp hb with rfl | hb
    · exact Nat.le_succ _
    · exact Nat.le_of_eq (List.mem_singleton.mp hb).symm
  exact I1.fpOk hle (I1.hok.fresh hle)
end Rw
/-! what is walked, comprehensions -/
namespace Fx
open PySem PySem.Spec PyProof.Rows L2
section
variable {X : Cx} {tg e : Expr} {w1 w2 : TI}
theorem PI.or (h1 : PI X tg e w1) (h2 : PI X tg e w2) : PI X tg e (fun σ H R => w1 σ H R ∨ w2 σ H R) :=
  ⟨fun pins s σ H R I h => h.elim (h1.run pins s σ H R I) (h2.run pins s σ H R I)⟩
end
def iSeqT (K : PySem.W.Frag) (tl : TE) : TI := fun σ H R => iList K tl σ H R ∨ iTup K tl σ H R
def iEnumG (K : PySem.W.Frag) (ta : TA) : TI := fun σ H R => iEnum K ta σ H R ∨ Rw.iEnumT K ta σ H R
section
variable {c : Cfg} {W : WX} {B : Base} {ts : En} {vs : List (Option V)} {ρ : En} {σ : L2.St} {H : Hp} {te : TE} {fe : M S} {tA : TA} {fA : M (List D)}
/-- the first that waits, opened, still waiting -/
theorem Rep.top {x : D} {v : V} (r : Rep c B (some (.d x) :: ts) (some v :: vs) ρ σ H) : ∃ G, Opn c B (some (.d x) :: ts) (some v :: vs) ρ σ H G ∧ Rp c G v x := by
  obtain ⟨G, o1, o2, k, h1, h2⟩ := id r
  cases h1 with
  | d hv h1 =>
    refine ⟨G, ⟨k.sub, fun hv' => ⟨G, o1, o2, k, .d hv' (.d hv h1), h2⟩, fun {p o x} hp ho hx => ?_, fun {p o x} hp hx => ?_⟩, hv⟩
    · have gp := k.gnone hp
      have ow := own_new (o := o) k hp
      exact ⟨upd G p o, o1, o2, k.alloc hp ho, .d (hx _ (upd_sub gp) upd_same) (.d (hv.mono (upd_sub gp)) (h1.mono (upd_sub gp) fun q hq => ow q (List.mem_append_left _ hq))), h2.mono (upd_sub gp) fun q hq => ow q (List.mem_append_right _ hq)⟩
    · have ow := own_new (o := o) k hp
      exact ⟨G, p :: o1, o2, k.allocO hp, .o (hx _ upd_same) (fun _ e => nomatch e) (.d hv (h1.mono (fun _ _ e => e) fun q hq => ow q (List.mem_append_left _ hq))), h2.mono (fun _ _ e => e) fun q hq => ow q (List.mem_append_right _ hq)⟩
theorem Rep.top2 {x y : D} {v w : V} (r : Rep c B (some (.d y) :: some (.d x) :: ts) (some w :: some v :: vs) ρ σ H) : ∃ G, Opn c B (some (.d y) :: some (.d x) :: ts) (some w :: some v :: vs) ρ σ H G ∧ Rp c G v x ∧ Rp c G w y := by
  obtain ⟨G, o1, o2, k, h1, h2⟩ := id r
  cases h1 with
  | d hw h1 =>
    cases h1 with
    | d hv h1 =>
      refine ⟨G, ⟨k.sub, fun hv' => ⟨G, o1, o2, k, .d hv' (.d hw (.d hv h1)), h2⟩, fun {p o x} hp ho hx => ?_, fun {p o x} hp hx => ?_⟩, hv, hw⟩
      · have gp := k.gnone hp
        have ow := own_new (o := o) k hp
        exact ⟨upd G p o, o1, o2, k.alloc hp ho, .d (hx _ (upd_sub gp) upd_same) (.d (hw.mono (upd_sub gp)) (.d (hv.mono (upd_sub gp)) (h1.mono (upd_sub gp) fun q hq => ow q (List.mem_append_left _ hq)))), h2.mono (upd_sub gp) fun q hq => ow q (List.mem_append_right _ hq)⟩
      · have ow := own_new (o := o) k hp
        exact ⟨G, p :: o1, o2, k.allocO hp, .o (hx _ upd_same) (fun _ e => nomatch e) (.d hw (.d hv (h1.mono (fun _ _ e => e) fun q hq => ow q (List.mem_append_left _ hq)))), h2.mono (fun _ _ e => e) fun q hq => ow q (List.mem_append_right _ hq)⟩
/-- how a list, a tuple is read -/
def SqI (K : PySem.W.Frag) (l : Bool) (H : Hp) (a : Addr) (us : List V) : Prop := if l then SqL K H a us else SqT K H a us
def isLst : D → Bool
  | .lst _ => true
  | _ => false
theorem Rp.seq {G H : Hp} {v : V} {x : D} {ds : List D} (s : ∀ a o, G a = some o → H a = some o) (h : Rp c G v x) (e : itemsD x = some ds) : ∃ a us, v = .ref a ∧ SqI c.K (isLst x) H a us ∧ RpAll c G us ds := by
  cases x <;> first | cases e | skip
  · obtain ⟨a, us, rfl, ha, k⟩ := h.tupE
    exact ⟨a, us, rfl, SqT.up s ha, k⟩
  · obtain ⟨a, us, rfl, ha, k⟩ := h.lstE
    exact ⟨a, us, rfl, SqL.of (s _ _ ha), k⟩
/-- one whose items are ds, at a -/
def SrcAt (c : Cfg) (l : Bool) (n : Nat) (a : Addr) (H : Hp) : Prop := ∃ us, SqI c.K l H a us ∧ us.length = n
theorem src_of {x : D} {a : Addr} {ds : List D} (e : itemsD x = some ds) (r : Rep c B (some (.d x) :: ts) (some (.ref a) :: vs) ρ σ H) : SrcAt c (isLst x) ds.length a H := by
  obtain ⟨G, O, h⟩ := r.top
  obtain ⟨a', us, e1, h1, k⟩ := h.seq O.sub e
  cases e1
  exact ⟨us, h1, k.length⟩
/-- the turn's item, by any reading of the source -/
def TurnAt (c : Cfg) (l : Bool) (a : Addr) (k : Nat) (H : Hp) (x : V) : Prop := ∀ us, SqI c.K l H a us → us[k]? = some x
theorem turn_val {x : D} {a : Addr} {ds : List D} {k : Nat} {v : V} (e : itemsD x = some ds) (hk : k < ds.length) (r : Rep c B (some (.d x) :: ts) (some (.ref a) :: vs) ρ σ H) (t : TurnAt c (isLst x) a k H v) :
    ∃ d, ds[k]? = some d ∧ Rep c B (some (.d d) :: some (.d x) :: ts) (some v :: some (.ref a) :: vs) ρ σ H := by
  obtain ⟨G, O, h⟩ := r.top
  obtain ⟨a', us, e1, h1, kk⟩ := h.seq O.sub e
  cases e1
  obtain ⟨d, ed, hd⟩ := kk.getV (t us h1)
  exact ⟨d, ed, O.val hd⟩
theorem walk_seq {x : D} {a : Addr} {ds : List D} {J : It} (e : itemsD x = some ds) (hgo : ∀ i H, (∃ us y, SqI c.K (isLst x) H a us ∧ us[i]? = some y) → J.go i H) (hst : ∀ i H, (∃ us, SqI c.K (isLst x) H a us ∧ us.length = i) → J.stop i H)
    (hy : ∀ i H y H', J.yld i H y H' → H' = H ∧ TurnAt c (isLst x) a i H y) : IsWalk c [x] [.ref a] J ds := by
  refine ⟨ds.length, SrcAt c (isLst x) ds.length a, fun i H y H' => H' = H ∧ TurnAt c (isLst x) a i H y, ⟨?_, ?_, ?_⟩, rfl, fun B ts vs ρ σ H r => src_of e r, ?_⟩
  · rintro i H hi ⟨us, h1, h2⟩
    exact hgo i H ⟨us, us[i]'(by omega), h1, List.getElem?_eq_getElem (by omega)⟩
  · rintro H ⟨us, h1, h2⟩
    exact hst _ H ⟨us, h1, h2⟩
  · intro i H y H' _ _ h
    exact hy i H y H' h
  · rintro B ts vs ρ σ H k y H' hk r ⟨rfl, t⟩
    exact turn_val e hk r t
theorem di_seq (h : Den c W te fe) : DenI c W (iSeqT c.K te) (iSeq fe) := fun B ts vs ρ σ H R r q => by
  unfold iSeq at q
  rw [post_then] at q
  cases hk : dv fe ρ with
  | stuck => rw [hk] at q; exact q.elim
  | err e ρ' =>
    refine .inl (h.dv r ?_)
    rw [hk] at q ⊢
    exact q
  | ok x ρ' =>
    rw [hk] at q
    have q : Post (OkI c B ts vs σ R) (ErrP c W B ts vs σ) (match itemsD x with
      | some ds => .ok ds ρ'
      | none => .stuck) := q
    cases e : itemsD x with
    | none => rw [e] at q; exact q.elim
    | some ds =>
      rw [e] at q
      have q : OkI c B ts vs σ R ds ρ' := q
      by_cases hl : isLst x = true
      · refine .inl (h.dv r ?_)
        rw [hk]
        intro v H' r'
        obtain ⟨G, O, hv⟩ := r'.top
        obtain ⟨a, us, rfl, h1, k⟩ := hv.seq O.sub e
        rw [hl] at h1
        refine ⟨a, rfl, ⟨us, h1⟩, q _ [x] [.ref a] H' rfl r' (walk_seq e ?_ ?_ ?_)⟩
        · rintro i H ⟨us, y, h1, h2⟩
          rw [hl] at h1
          exact ⟨us, y, h1, h2⟩
        · rintro i H ⟨us, h1, h2⟩
          rw [hl] at h1
          exact ⟨us, h1, by omega⟩
        · rintro i H y H' ⟨rfl, h2⟩
          rw [hl]
          exact ⟨rfl, fun us h => h2 us h⟩
      · have hl : isLst x = false := by simpa using hl
        refine .inr (h.dv r ?_)
        rw [hk]
        intro v H' r'
        obtain ⟨G, O, hv⟩ := r'.top
        obtain ⟨a, us, rfl, h1, k⟩ := hv.seq O.sub e
        rw [hl] at h1
        refine ⟨a, rfl, ⟨us, h1⟩, q _ [x] [.ref a] H' rfl r' (walk_seq e ?_ ?_ ?_)⟩
        · rintro i H ⟨us, y, h1, h2⟩
          rw [hl] at h1
          exact ⟨us, y, h1, h2⟩
        · rintro i H ⟨us, h1, h2⟩
          rw [hl] at h1
          exact ⟨us, h1, by omega⟩
        · rintro i H y H' ⟨rfl, h2⟩
          rw [hl]
          exact ⟨rfl, fun us h => h2 us h⟩
/-! ### enumerate, zip, reversed -/
def enumD (n : Nat) : List D → List D
  | [] => []
  | d :: ds => .tup [.int n, d] :: enumD (n + 1) ds
theorem enumD_length : ∀ (ds : List D) (n : Nat), (enumD n ds).length = ds.length
  | [], _ => rfl
  | d :: ds, n => by simp [enumD, enumD_length ds]
theorem enumD_get : ∀ (ds : List D) (n k : Nat) (d : D), ds[k]? = some d → (enumD n ds)[k]? = some (.tup [.int ((n + k : Nat) : Int), d])
  | [], _, _, _, e => by simp at e
  | d :: ds, n, 0, d', e => by simp at e; subst e; simp [enumD]
  | d :: ds, n, k + 1, d', e => by
    simp only [enumD, List.getElem?_cons_succ]
    rw [enumD_get ds (n + 1) k d' (by simpa using e), show n + 1 + k = n + (k + 1) by omega]
def zipD : List D → List D → List D
  | d :: ds, e :: es => .tup [d, e] :: zipD ds es
  | _, _ => []
theorem zipD_length : ∀ (ds es : List D), (zipD ds es).length = min ds.length es.length
  | [], _ => by simp [zipD]
  | _ :: _, [] => by simp [zipD]
  | d :: ds, e :: es => by simp [zipD, zipD_length ds es]
theorem zipD_get : ∀ (ds es : List D) (k : Nat) (d e : D), ds[k]? = some d → es[k]? = some e → (zipD ds es)[k]? = some (.tup [d, e])
  | [], _, _, _, _, h, _ => by simp at h
  | _ :: _, [], _, _, _, _, h => by simp at h
  | d :: ds, e :: es, 0, d', e', h, h' => by simp at h h'; subst h; subst h'; simp [zipD]
  | d :: ds, e :: es, k + 1, d', e', h, h' => by
    simp only [zipD, List.getElem?_cons_succ]
    exact zipD_get ds es k d' e' (by simpa using h) (by simpa using h')
def iEnu (fA : M (List D)) : M (List D) := fun ρ => (fA ρ).then fun ds ρ' => match ds with
  | [x] => match itemsD x with
    | some es => .ok (enumD 0 es) ρ'
    | none => .stuck
  | _ => .stuck
theorem walk_enu {x : D} {a : Addr} {ds : List D} {J : It} (e : itemsD x = some ds) (hgo : ∀ i H, (∃ us y, SqI c.K (isLst x) H a us ∧ us[i]? = some y) → J.go i H) (hst : ∀ i H, (∃ us, SqI c.K (isLst x) H a us ∧ us.length = i) → J.stop i H)
    (hy : ∀ i H y H', J.yld i H y H' → ∃ T z, y = .ref T ∧ H T = none ∧ H' = upd H T (.tup [.int (i : Nat), z]) ∧ TurnAt c (isLst x) a i H z) : IsWalk c [x] [.ref a] J (enumD 0 ds) := by
  refine ⟨ds.length, SrcAt c (isLst x) ds.length a, fun i H y H' => ∃ T z, y = .ref T ∧ H T = none ∧ H' = upd H T (.tup [.int (i : Nat), z]) ∧ TurnAt c (isLst x) a i H z, ⟨?_, ?_, ?_⟩, (enumD_length ds 0).symm, fun B ts vs ρ σ H r => src_of e r, ?_⟩
  · rintro i H hi ⟨us, h1, h2⟩
    exact hgo i H ⟨us, us[i]'(by omega), h1, List.getElem?_eq_getElem (by omega)⟩
  · rintro H ⟨us, h1, h2⟩
    exact hst _ H ⟨us, h1, h2⟩
  · intro i H y H' _ _ h
    exact hy i H y H' h
  · rintro B ts vs ρ σ H k y H' hk r ⟨T, z, rfl, hT, rfl, t⟩
    obtain ⟨G, O, h⟩ := r.top
    obtain ⟨a', us, e1, h1, kk⟩ := h.seq O.sub e
    cases e1
    obtain ⟨d, ed, hd⟩ := kk.getV (t us h1)
    refine ⟨_, enumD_get ds 0 k d ed, ?_⟩
    rw [Nat.zero_add]
    exact O.new hT rfl fun G' m e' => .tup (.inl (.inl e')) (.cons (.int _) (.cons (hd.mono m) .nil)) fun z => nomatch z
theorem di_enu (h : DenA c W tA fA) : DenI c W (iEnumG c.K tA) (iEnu fA) := fun B ts vs ρ σ H R r q => by
  unfold iEnu at q
  rw [post_then] at q
  cases hk : fA ρ with
  | stuck => rw [hk] at q; exact q.elim
  | err e ρ' =>
    refine .inl (h B ts vs ρ σ H _ r ?_)
    rw [hk] at q ⊢
    exact q
  | ok ds ρ' =>
    rw [hk] at q
    match ds, q with
    | [x], q =>
      have q : Post (OkI c B ts vs σ R) (ErrP c W B ts vs σ) (match itemsD x with
        | some es => .ok (enumD 0 es) ρ'
        | none => .stuck) := q
      cases e : itemsD x with
      | none => rw [e] at q; exact q.elim
      | some es =>
        rw [e] at q
        have q : OkI c B ts vs σ R (enumD 0 es) ρ' := q
        by_cases hl : isLst x = true
        · refine .inl (h B ts vs ρ σ H _ r ?_)
          rw [hk]
          intro us H' hlen r'
          match us, hlen with
          | [v], _ =>
            obtain ⟨G, O, hv⟩ := Rep.top (ts := ts) (vs := vs) r'
            obtain ⟨a, us, rfl, h1, k⟩ := hv.seq O.sub e
            rw [hl] at h1
            refine ⟨a, us, rfl, h1, q _ [x] [.ref a] H' rfl r' (walk_enu e ?_ ?_ ?_)⟩
            · rintro i H ⟨us, y, h1, h2⟩
              rw [hl] at h1
              exact ⟨us, y, h1, h2⟩
            · rintro i H ⟨us, h1, h2⟩
              rw [hl] at h1
              exact ⟨us, h1, by omega⟩
            · rintro i H y H' ⟨T, z, h1, h2, h3, h4⟩
              rw [hl]
              exact ⟨T, z, h1, h2, h3, fun us h => h4 us h⟩
        · have hl : isLst x = false := by simpa using hl
          refine .inr (h B ts vs ρ σ H _ r ?_)
          rw [hk]
          intro us H' hlen r'
          match us, hlen with
          | [v], _ =>
            obtain ⟨G, O, hv⟩ := Rep.top (ts := ts) (vs := vs) r'
            obtain ⟨a, us, rfl, h1, k⟩ := hv.seq O.sub e
            rw [hl] at h1
            refine ⟨a, us, rfl, h1, q _ [x] [.ref a] H' rfl r' (walk_enu e ?_ ?_ ?_)⟩
            · rintro i H ⟨us, y, h1, h2⟩
              rw [hl] at h1
              exact ⟨us, y, h1, h2⟩
            · rintro i H ⟨us, h1, h2⟩
              rw [hl] at h1
              exact ⟨us, h1, h2⟩
            · rintro i H y H' ⟨T, z, h1, h2, h3, h4⟩
              rw [hl]
              exact ⟨T, z, h1, h2, h3, fun us h => h4 us h⟩
/-- no pair of a zip is one of tuples of numbers -/
def zipOk (xs ys : List D) : Bool := (zipD xs ys).all fun
  | .tup ds => !arcy ds
  | _ => true
theorem zipOk_get {xs ys ds : List D} (h : zipOk xs ys = true) {k : Nat} (e : (zipD xs ys)[k]? = some (.tup ds)) : arcy ds = false := by
  have := List.all_eq_true.mp h _ (List.mem_of_getElem? e)
  simpa using this
end
/-! ### comprehensions -/
def wipeE (ρ : En) : List Nat → En
  | [] => ρ
  | v :: vs => (wipeE ρ vs).set v none
theorem wipeE_at (ρ : En) : ∀ (vs : List Nat) (i : Nat), i ∈ vs → (wipeE ρ vs).set i none = wipeE ρ vs
  | v :: vs, i, h => by
    unfold wipeE
    by_cases hv : v = i
    · subst hv
      rw [List.set_set]
    · rw [List.set_comm _ _ hv, wipeE_at ρ vs i ((List.mem_cons.mp h).resolve_left fun e => hv e.symm)]
theorem wipeE_id {ρ : En} : ∀ {own : List Nat}, (∀ v ∈ own, ρ.set v none = ρ) → wipeE ρ own = ρ
  | [], _ => rfl
  | v :: own, h => by
    unfold wipeE
    rw [wipeE_id fun w hw => h w (List.mem_cons_of_mem _ hw), h v List.mem_cons_self]
theorem wipe_in (σ : L2.St) : ∀ (vs : List Nat) (i : Nat), i ∈ vs → (wipe σ vs)[i]? = if i < σ.length then some none else none
  | v :: vs, i, h => by
    unfold wipe
    by_cases hv : v = i
    · subst hv
      by_cases hl : v < σ.length
      · rw [if_pos hl, List.getElem?_set_self (by rw [wipe_length]; exact hl)]
      · rw [if_neg hl, List.getElem?_eq_none (by rw [List.length_set, wipe_length]; omega)]
    · rw [List.getElem?_set_ne hv, wipe_in σ vs i ((List.mem_cons.mp h).resolve_left fun e => hv e.symm)]
theorem wipe_off (σ : L2.St) : ∀ (vs : List Nat) (i : Nat), i ∉ vs → (wipe σ vs)[i]? = σ[i]?
  | [], i, _ => rfl
  | v :: vs, i, h => by
    unfold wipe
    rw [List.getElem?_set_ne fun e => h (by simp [e]), wipe_off σ vs i fun e => h (List.mem_cons_of_mem _ e)]
theorem Off.wipe {js own : List Nat} {σ σ' : L2.St} (h : ∀ j ∈ js, j ∈ own) (o : Off js (wipe σ own) σ') : wipe σ' own = wipe σ own := by
  have hl : σ'.length = σ.length := by rw [o.1, wipe_length]
  apply List.ext_getElem?
  intro i
  by_cases hi : i ∈ own
  · rw [wipe_in _ _ _ hi, wipe_in _ _ _ hi, hl]
  · rw [wipe_off _ _ _ hi, o.2 i fun z => hi (h i z)]
section
variable {c : Cfg} {B : Base} {ts : En} {vs : List (Option V)} {ρ : En} {σ : L2.St} {H : Hp}
theorem Rep.wipe (r : Rep c B ts vs ρ σ H) : ∀ own : List Nat, Rep c B ts vs (wipeE ρ own) (wipe σ own) H
  | [] => r
  | v :: own => (Rep.wipe r own).forget none
theorem Rep.unwipe : ∀ (own : List Nat), (∀ v ∈ own, ρ.set v none = ρ) → Rep c B ts vs ρ (L2.wipe σ own) H → Rep c B ts vs ρ σ H
  | [], _, r => r
  | v :: own, h, r => by
    refine Rep.unwipe own (fun w hw => h w (List.mem_cons_of_mem _ hw)) ?_
    have r1 := r.forget (i := v) ((L2.wipe σ own)[v]?.getD none)
    rw [h v List.mem_cons_self] at r1
    have e : (L2.wipe σ (v :: own)).set v ((L2.wipe σ own)[v]?.getD none) = L2.wipe σ own := by
      show ((L2.wipe σ own).set v none).set v _ = _
      rw [List.set_set]
      apply List.ext_getElem?
      intro i
      by_cases hi : v = i
      · subst hi
        by_cases hl : v < (L2.wipe σ own).length
        · rw [List.getElem?_set_self hl, List.getElem?_eq_getElem hl]
          rfl
        · rw [List.getElem?_eq_none (by rw [List.length_set]; omega), List.getElem?_eq_none (by omega)]
      · rw [List.getElem?_set_ne hi]
    rw [e] at r1
    exact r1
/-- back from a turn -/
theorem Rep.back {σ2 : L2.St} {own : List Nat} (e : L2.wipe σ2 own = L2.wipe σ own) (r : Rep c B ts vs ρ σ2 H) : Rep c B ts vs (wipeE ρ own) σ H := by
  have r1 := r.wipe own
  rw [e] at r1
  exact Rep.unwipe own (fun v hv => wipeE_at ρ own v hv) r1
theorem RpAll.tmpS {c : Cfg} {B : Base} {G H : Hp} {us : List V} {ds : List D} {own : Owns} (k : RpAll c G us ds) (h : Sl c B G H ts vs own) : Sl c B G H (tmp ds ++ ts) (tmv us ++ vs) own := k.rev.sl h
theorem Rep.insO {st : List D} {sv : List V} {p : Addr} (hl : sv.length = st.length) (r : Rep c B (tmp st ++ ts) (tmv sv ++ vs) ρ σ H) (hp : H p = none) :
    Rep c B (tmp st ++ (some (.o none (.lst [])) :: ts)) (tmv sv ++ (some (.ref p) :: vs)) ρ σ (upd H p (.lst [])) := by
  obtain ⟨G, o1, o2, k, h1, h2⟩ := r
  obtain ⟨a1, a2⟩ := h1.tmp hl
  have ow := own_new (o := .lst []) k hp
  exact ⟨G, p :: o1, o2, k.allocO hp, a1.tmpS (.o ⟨[], upd_same, .nil⟩ (fun _ e => nomatch e) (a2.mono (fun _ _ e => e) fun q hq => ow q (List.mem_append_left _ hq))), h2.mono (fun _ _ e => e) fun q hq => ow q (List.mem_append_right _ hq)⟩
theorem Rep.appT {st acc : List D} {sv : List V} {p : Addr} {y : D} {v : V} (hl : sv.length = st.length) (r : Rep c B (some (.d y) :: (tmp st ++ (some (.o none (.lst acc)) :: ts))) (some v :: (tmv sv ++ (some (.ref p) :: vs))) ρ σ H) :
    ∃ us, H p = some (.lst us) ∧ us.length = acc.length ∧ Rep c B (tmp st ++ (some (.o none (.lst (acc ++ [y]))) :: ts)) (tmv sv ++ (some (.ref p) :: vs)) ρ σ (upd H p (.lst (us ++ [v]))) := by
  obtain ⟨G, o1, o2, k, h1, h2⟩ := r
  cases h1 with
  | d hv h1 =>
    obtain ⟨a1, a2⟩ := h1.tmp hl
    cases a2 with
    | @o _ _ _ _ _ own hc hb a2 =>
      obtain ⟨us, e, ku⟩ := hc
      have nd := k.nd
      rw [List.cons_append, List.nodup_cons] at nd
      have ne : ∀ q ∈ own ++ o2, upd H p (.lst (us ++ [v])) q = H q := fun q hq => upd_ne fun z => nd.1 (z ▸ hq)
      refine ⟨us, e, ku.length, G, p :: own, o2, k.write (List.mem_append_left _ List.mem_cons_self) e (.lst _), a1.tmpS (.o ⟨_, upd_same, ku.snoc hv⟩ hb (a2.mono (fun _ _ e => e) fun q hq => ne q (List.mem_append_left _ hq))), h2.mono (fun _ _ e => e) fun q hq => ne q (List.mem_append_right _ hq)⟩
theorem Rep.accT {st acc : List D} {sv : List V} {p : Addr} (hl : sv.length = st.length) (r : Rep c B (tmp st ++ (some (.o none (.lst acc)) :: ts)) (tmv sv ++ (some (.ref p) :: vs)) ρ σ H) : Rep c B (some (.o none (.lst acc)) :: ts) (some (.ref p) :: vs) ρ σ H := r.dropN hl
end
/-- an exception may not leave a comprehension -/
def Out.calm {α : Type} : Out α → Out α
  | .err _ _ => .stuck
  | o => o
def W0 : WX := fun _ _ _ _ => False
def mComp (gm : D → M Unit) (ft : M Bool) (fe : M S) (own : List Nat) : List D → List D → En → Out (List D)
  | [], acc, ρ => .ok acc ρ
  | x :: xs, acc, ρ => (gm x ρ).calm.then fun _ ρ1 => (ft ρ1).calm.then fun b ρ2 => if b = true then (dv fe ρ2).calm.then fun y ρ3 => if small (acc.length + 1) then mComp gm ft fe own xs (acc ++ [y]) (wipeE ρ3 own) else .stuck
    else mComp gm ft fe own xs acc (wipeE ρ2 own)
def mLc (fI : M (List D)) (gm : D → M Unit) (ft : M Bool) (fe : M S) (own : List Nat) : M S := fun ρ => (fI ρ).then fun items ρ1 => (mComp gm ft fe own items [] (wipeE ρ1 own)).then fun ds ρ2 => .ok (.o none (.lst ds)) ρ2
theorem post_calm {α : Type} {K : α → En → Prop} {E E' : Err → En → Prop} {m : Out α} (h : Post K E m.calm) : Post K E' m := by
  cases m with
  | ok a ρ => exact h
  | err e ρ => exact h.elim
  | stuck => exact h
section
variable {c : Cfg} {W : WX} {wi : TI} {fI : M (List D)} {te : TE} {fe : M S} {tt : TT} {ft : M Bool} {g : TG} {gm : D → M Unit} {js own : List Nat}
theorem den_lc (h : DenI c W wi fI) (k : DenG c W0 g gm js) (kt : DenT c W0 tt ft) (ke : Den c W0 te fe) (hj : ∀ j ∈ js, j ∈ own) : Den c W (tLc wi g tt te own) (mLc fI gm ft fe own) := fun B ts vs ρ σ H Q r q => by
  unfold mLc at q
  rw [post_then] at q
  refine h B ts vs ρ σ H _ r (q.imp1 fun items ρ1 q J st sv H1 hl r1 w D hD => ?_)
  obtain ⟨n, Gw, Y, wk, rfl, hG, hY⟩ := w
  rw [post_then] at q
  refine lc_it wk (fun i H => ∃ ρ acc, Rep c B (tmp st ++ (some (.o none (.lst acc)) :: ts)) (tmv sv ++ (some (.ref D) :: vs)) ρ σ H ∧ (∀ v ∈ own, ρ.set v none = ρ) ∧
    Post (fun ds ρ2 => OkP c B ts vs σ Q (.o none (.lst ds)) ρ2) (ErrP c W B ts vs σ) (mComp gm ft fe own (items.drop i) acc ρ)) ⟨wipeE ρ1 own, [], ?_, fun v hv => wipeE_at ρ1 own v hv, q⟩ (fun i H _ ⟨ρ, acc, r, _⟩ => hG _ _ _ _ _ _ r) ?_ ?_
  · exact (Rep.insO hl r1 hD).back rfl
  · rintro i x H1 H2 hi ⟨ρ, acc, r, hw, q⟩ y
    obtain ⟨d, ed, r2⟩ := hY _ _ _ _ _ _ _ _ _ hi r y
    have hd : items.drop i = d :: items.drop (i + 1) := by
      rw [List.drop_eq_getElem_cons hi]
      rw [List.getElem?_eq_getElem hi] at ed
      cases ed
      rfl
    rw [hd] at q
    have q : Post _ _ ((gm d ρ).calm.then fun _ ρ1 => (ft ρ1).calm.then fun b ρ2 => _) := q
    rw [post_then] at q
    have r3 : Rep c B (some (.d d) :: (tmp st ++ (some (.o none (.lst acc)) :: ts))) (some x :: (tmv sv ++ (some (.ref D) :: vs))) ρ (L2.wipe σ own) H2 := by
      have := r2.wipe own
      have e := wipeE_id hw
      rw [e] at this
      exact this
    refine k B _ _ ρ _ H2 d x _ r3 (post_calm (q.imp1 fun _ ρ2 q σ2 H3 o r4 => ?_))
    have eo := Off.wipe hj o
    refine ⟨eo, ?_⟩
    rw [post_then] at q
    refine kt B _ _ ρ2 σ2 H3 _ r4 (post_calm (q.imp1 fun b ρ3 q H4 r5 => ?_))
    cases b with
    | false => exact ⟨wipeE ρ3 own, acc, r5.back eo, fun v hv => wipeE_at ρ3 own v hv, q⟩
    | true =>
      have q : Post _ _ ((dv fe ρ3).calm.then fun y ρ4 => _) := q
      rw [post_then] at q
      refine ke.dv r5 (post_calm (q.imp1 fun y ρ4 q v H5 r6 => ?_))
      split at q
      · rename_i hz
        obtain ⟨us, e1, e2, r7⟩ := Rep.appT hl r6
        refine ⟨us, e1, ?_, wipeE ρ4 own, acc ++ [y], r7.back eo, fun v hv => wipeE_at ρ4 own v hv, q⟩
        have := small_line hz
        omega
      · exact q.elim
  · rintro H1 ⟨ρ, acc, r, _, q⟩
    rw [List.drop_length] at q
    exact q _ H1 (r.accT hl)
end
end Fx
/-! defs, their calls, fields, what is made -/
namespace Fx
open PySem PySem.Spec PyProof.Rows L2
open C8 (Cal Mak pe_c pe_mk)
/-! ### states within states -/
def erK : List D → List D
  | [.ins n ds, _] => [.ins n ds, .tup []]
  | ks => ks
theorem erK_key {kvs : List (Key × V)} : erK (kvs.map fun p => keyD p.1) = kvs.map fun p => keyD p.1 := by
  match kvs with
  | [] => rfl
  | (.inl i, _) :: _ => rfl
  | (.inr i, _) :: _ => rfl
theorem QCell.er {c : Cfg} {B B' : Base} {G H : Hp} {a : Addr} {ks : List D} {dss : List (List D)} {os : Owns} (h : QCell c B G H a ks dss os) : QCell c B' G H a (erK ks) dss os := by
  rcases h with ⟨kvs, bs, rfl, h1, rfl, h3, h4⟩ | ⟨n, ds, p, dk, dv, dx, fs, b, o, kv, us, vs, rfl, rfl, rfl, h1, h2, h3, h4, h5, h6, h7, h8, h9⟩ | ⟨ks', o, kv, bs, rfl, rfl, h1, h2, h3, h4⟩
  · exact .inl ⟨kvs, bs, rfl, h1, erK_key, h3, h4⟩
  · exact .inr (.inl ⟨n, ds, none, dk, dv, dx, fs, b, o, kv, us, vs, rfl, rfl, rfl, h1, h2, h3, h4, h5, h6, h7, h8, fun j e => nomatch e⟩)
  · exact .inr (.inr ⟨ks', o, kv, bs, rfl, rfl, h1, h2, h3, h4⟩)
theorem QCell.un {c : Cfg} {B B' : Base} {G H G' H' : Hp} {a : Addr} {ks : List D} {dss : List (List D)} {os os' : Owns} (h0 : QCell c B G H a ks dss os) (h : QCell c B' G' H' a (erK ks) dss os') : QCell c B G' H' a ks dss os' := by
  rcases h0 with ⟨kvs, bs, rfl, h1, rfl, h3, h4⟩ | ⟨n, ds, p, dk, dv, dx, fs, b, o, kv, us, vs, rfl, rfl, rfl, h1, h2, h3, h4, h5, h6, h7, h8, h9⟩ | ⟨ks', o, kv, bs, rfl, rfl, h1, h2, h3, h4⟩
  · rw [erK_key] at h
    rcases h with h | ⟨n, ds, p, dk, dv, dx, fs, b, o, kv, us, vs, e, _⟩ | ⟨ks', o, kv, bs', e, _⟩
    · exact .inl h
    · exfalso
      match kvs, e with
      | (.inl i, _) :: _, e => cases e
      | (.inr i, _) :: _, e => cases e
    · exfalso
      match kvs, e with
      | (.inl i, _) :: _, e => cases e
      | (.inr i, _) :: _, e => cases e
  · rcases h with ⟨kvs, bs, rfl, g1, e, g3, g4⟩ | ⟨n', ds', p', dk', dv', dx', fs', b', o', kv', us', vs', e1, e2, rfl, g1, g2, g3, g4, g5, g6, g7, g8, g9⟩ | ⟨ks', o, kv, bs, e, _⟩
    · exfalso
      match kvs, e with
      | (.inl i, _) :: _, e => cases e
      | (.inr i, _) :: _, e => cases e
    · have e1 : [D.ins n ds, D.tup []] = [D.ins n' ds', plD p'] := e1
      rw [List.cons.injEq, D.ins.injEq] at e1
      obtain ⟨⟨rfl, rfl⟩, _⟩ := e1
      cases e2
      exact .inr (.inl ⟨n, ds, p, dk, dv, dx', fs', b', o', kv', us', vs', rfl, rfl, rfl, g1, g2, g3, g4, g5, g6, g7, g8, h9⟩)
    · cases (show [D.ins n ds, D.tup []] = [D.tup ks'] from e)
  · rcases h with ⟨kvs, bs, rfl, g1, e, g3, g4⟩ | ⟨n', ds', p', dk', dv', dx', fs', b', o', kv', us', vs', e1, _⟩ | g
    · exfalso
      match kvs, e with
      | (.inl i, _) :: _, e => cases e
      | (.inr i, _) :: _, e => cases e
    · cases (show [D.tup ks'] = [D.ins n' ds', plD p'] from e1)
    · exact .inr (.inr g)
def er : S → S
  | .d x => .d x
  | .o _ x => .o none x
  | .q ks dss => .q (erK ks) dss
def erE (es : En) : En := es.map (Option.map er)
def bare (s : S) : Bool := match s with
  | .d _ => true
  | .o none _ => true
  | .o (some _) _ => false
  | .q _ _ => false
section
variable {c : Cfg} {B B' : Base} {G G' H H' : Hp} {ts es es' : En} {vs ws : List (Option V)} {ρ : En} {σ : L2.St} {own own' : Owns}
theorem Sl.er : ∀ {es : En} {vs : List (Option V)} {own : Owns}, Sl c B G H es vs own → Sl c B' G H (erE es) vs own
  | _, _, _, .nil => .nil
  | _, _, _, .skip k => .skip (Sl.er k)
  | _, _, _, .d h k => .d h (Sl.er k)
  | _, _, _, .o h _ k => .o h (fun _ e => nomatch e) (Sl.er k)
  | _, _, _, .q h k => .q h.er (Sl.er k)
theorem Sl.unflag : ∀ {es : En} {vs : List (Option V)} {own own' : Owns}, Sl c B G H es vs own → Sl c B' G' H' (erE es) vs own' → Sl c B G' H' es vs own'
  | [], _, _, _, .nil, h => by
    cases h
    exact .nil
  | none :: es, _, _, _, .skip k, h => by
    have h : Sl c B' G' H' (none :: erE es) _ _ := h
    cases h with
    | skip h => exact .skip (Sl.unflag k h)
  | some (.d x) :: es, _, _, _, .d _ k, h => by
    have h : Sl c B' G' H' (some (.d x) :: erE es) _ _ := h
    cases h with
    | d h1 h => exact .d h1 (Sl.unflag k h)
  | some (.o b x) :: es, _, _, _, .o _ hb k, h => by
    have h : Sl c B' G' H' (some (.o none x) :: erE es) _ _ := h
    cases h with
    | o h1 _ h2 => exact .o h1 hb (Sl.unflag k h2)
  | some (.q ks dss) :: es, _, _, _, .q h0 k, h => by
    have h : Sl c B' G' H' (some (.q (erK ks) dss) :: erE es) _ _ := h
    cases h with
    | q h1 h2 => exact .q (h0.un h1) (Sl.unflag k h2)
theorem Sl.app : ∀ {es : En} {vs : List (Option V)} {o1 o2 : Owns}, Sl c B G H es vs o1 → Sl c B G H es' ws o2 → Sl c B G H (es ++ es') (vs ++ ws) (o1 ++ o2)
  | _, _, _, _, .nil, h => h
  | _, _, _, _, .skip k, h => .skip (Sl.app k h)
  | _, _, _, _, .d a k, h => .d a (Sl.app k h)
  | _, _, _, _, .o a b k, h => .o a b (Sl.app k h)
  | _, _, _, _, .q a k, h => by
    rw [List.append_assoc]
    exact .q a (Sl.app k h)
theorem Sl.split : ∀ {es : En} {vs : List (Option V)} {own : Owns}, es.length = vs.length → Sl c B G H (es ++ es') (vs ++ ws) own → ∃ o1 o2, own = o1 ++ o2 ∧ Sl c B G H es vs o1 ∧ Sl c B G H es' ws o2
  | [], [], own, _, h => ⟨[], own, rfl, .nil, h⟩
  | [], _ :: _, _, e, _ => by simp at e
  | _ :: _, [], _, e, _ => by simp at e
  | none :: es, v :: vs, _, e, h => by
    have h : Sl c B G H (none :: (es ++ es')) (v :: (vs ++ ws)) _ := h
    cases h with
    | skip h =>
      obtain ⟨o1, o2, rfl, h1, h2⟩ := Sl.split (by simpa using e) h
      exact ⟨o1, o2, rfl, .skip h1, h2⟩
  | some (.d x) :: es, v :: vs, _, e, h => by
    have h : Sl c B G H (some (.d x) :: (es ++ es')) (v :: (vs ++ ws)) _ := h
    cases h with
    | d a h =>
      obtain ⟨o1, o2, rfl, h1, h2⟩ := Sl.split (by simpa using e) h
      exact ⟨o1, o2, rfl, .d a h1, h2⟩
  | some (.o b x) :: es, v :: vs, _, e, h => by
    have h : Sl c B G H (some (.o b x) :: (es ++ es')) (v :: (vs ++ ws)) _ := h
    cases h with
    | o a hb h3 =>
      obtain ⟨o1, o2, rfl, h1, h2⟩ := Sl.split (by simpa using e) h3
      exact ⟨_ :: o1, o2, rfl, .o a hb h1, h2⟩
  | some (.q ks dss) :: es, v :: vs, _, e, h => by
    have h : Sl c B G H (some (.q ks dss) :: (es ++ es')) (v :: (vs ++ ws)) _ := h
    cases h with
    | q a h3 =>
      obtain ⟨o1, o2, rfl, h1, h2⟩ := Sl.split (by simpa using e) h3
      exact ⟨_ ++ o1, o2, by rw [List.append_assoc], .q a h1, h2⟩
theorem RpAll.slot {us : List V} {ds : List D} (k : RpAll c G us ds) : Sl c B G H (ds.map fun x => some (S.d x)) (us.map some) [] := by
  have := k.sl (B := B) (H := H) (ts := []) (vs := []) (own := []) .nil
  rwa [List.append_nil, List.append_nil] at this
theorem OkB.anyB (k : OkB c B G H own) (hp : B'.pin = B.pin := by rfl) : OkB c B' G H own := ⟨k.sub, k.notbl, k.nd, k.out, k.tabs, fun a o e => k.pint a o (by rw [← hp]; exact e), fun a o e => k.pin a o (by rw [← hp]; exact e)⟩
/-- into a def: what waits are its arguments, all else waits -/
theorem Rep.enter {ds : List D} {us : List V} (hl : us.length = ds.length) (r : Rep c B (tmp ds ++ ts) (tmv us ++ vs) ρ σ H) (hp : B'.pin = B.pin := by rfl) : Rep c B' (erE ts ++ erE ρ) (vs ++ σ) (ds.map fun x => some (S.d x)) (us.map some) H := by
  obtain ⟨G, o1, o2, k, h1, h2⟩ := r
  obtain ⟨a1, a2⟩ := h1.tmp hl
  exact ⟨G, o1 ++ o2, [], by rw [List.append_nil]; exact k.anyB (hp := hp), (a2.er).app h2.er, a1.slot⟩
/-- back from it -/
theorem Rep.leave {s : S} {v : V} {ρ' : En} {σ' : L2.St} {H0 : Hp} (hs : bare s = true) (r0 : Rep c B ts vs ρ σ H0) (r : Rep c B' (some s :: (erE ts ++ erE ρ)) (some v :: (vs ++ σ)) ρ' σ' H) (hp : B'.pin = B.pin := by rfl) : Rep c B (some s :: ts) (some v :: vs) ρ σ H := by
  obtain ⟨G0, p1, p2, k0, g1, g2⟩ := r0
  obtain ⟨G, o1, o2, k, h1, h2⟩ := r
  obtain ⟨w, os, o1', ew, e1, rfl, h1'⟩ := h1.unone
  cases ew
  obtain ⟨q1, q2, rfl, f1, f2⟩ := h1'.split (by rw [show (erE ts).length = ts.length by simp [erE]]; exact g1.length)
  have e1' : En1 c B G H s v os := by
    cases e1 with
    | d h => exact .d h
    | @o a b x hc hb =>
      cases b with
      | none => exact .o hc fun _ e => nomatch e
      | some k => cases hs
    | q h => cases hs
  refine ⟨G, os ++ q1, q2, (k.anyB (hp := hp.symm)).subO (fun p hp => ?_) ?_, Sl.one e1' (g1.unflag f1), g2.unflag f2⟩
  · simp only [List.mem_append] at hp ⊢
    rcases hp with (hp | hp) | hp
    · exact .inl (.inl hp)
    · exact .inl (.inr (.inl hp))
    · exact .inl (.inr (.inr hp))
  · refine k.nd.sublist ?_
    rw [List.append_assoc os]
    exact List.sublist_append_left _ _
end
/-! ### defs -/
abbrev Fn := List S → Out S
/-- a def of np parameters and nN names, by its body -/
def runF (np nN : Nat) (body : M Fl) : Fn := fun args => if args.length = np then match body (args.map some ++ List.replicate (nN - np) none) with
    | .ok (.rt s) ρ => .ok s ρ
    | .ok .nx ρ => .ok (.d .non) ρ
    | .err e ρ => .err e ρ
    | _ => .stuck
  else .stuck
/-- what a def promises that nothing leaves by an exception -/
def spF (c : Cfg) (F : Fn) : Sp := fun vs H Q _ => ∃ B ts ws args, Rep c B ts ws (args.map some) (vs.map some) H ∧ Post (fun s ρ' => ∀ v σ' H', Rep c B (some s :: ts) (some v :: ws) ρ' σ' H' → Q v H') (fun _ _ => False) (F args)
theorem Rep.slots {c : Cfg} {B : Base} {ts : En} {vs : List (Option V)} {ρ : En} {σ : L2.St} {H : Hp} (n : Nat) (r : Rep c B ts vs ρ σ H) : Rep c B ts vs (ρ ++ List.replicate n none) (σ ++ List.replicate n none) H := by
  obtain ⟨G, o1, o2, k, h1, h2⟩ := r
  have : ∀ n : Nat, Sl c B G H (List.replicate n none) (List.replicate n none) [] := by
    intro n
    induction n with
    | zero => exact .nil
    | succ n ih => exact .skip ih
  refine ⟨G, o1, o2, k, h1, ?_⟩
  have := h2.app (this n)
  rwa [List.append_nil] at this
section
variable {P : Program} {w : World} {K : PySem.W.Frag} {mg : Str → Option Value} {base : Heap}
theorem fn_den {c : Cfg} {x qual : Str} {st : Stmt} {f : Addr} {fd : FuncData} {N ps : List Str} {k : Nat} {body : M Fl} (F : Fun K x qual st f fd) (Sc : FnScope N ps (defScope st))
    (hbody : ∀ (cdv : Value) (A : Around) (outer : List Env) (s : Shared) (H : Hp) (E : XK), Room k (A.deeper (envOfC qual (defScope st) s.heap.objs.size f cdv)) →
      ∃ t, PSs (cxOf L2.CX0 P w K mg base N qual (defScope st) f cdv A outer s H E).nox (defBody st) t ∧ DenS c W0 t body) : FnOk P w K mg base L2.CX0 (k + 1) f fd ps (spF c (runF ps.length N.length body)) := by
  have len : ∀ vs H Q E, spF c (runF ps.length N.length body) vs H Q E → vs.length = ps.length := by
    rintro vs H Q E ⟨B, ts, ws, args, r, p⟩
    obtain ⟨G, o1, o2, k, h1, h2⟩ := r
    have e := h2.length
    rw [List.length_map, List.length_map] at e
    unfold runF at p
    split at p
    · rename_i ha
      omega
    · exact p.elim
  refine F.ok Sc len fun cdv A outer s H vs Q E hr h => ?_
  have hl := len vs H Q E h
  obtain ⟨B, ts, ws, args, r, p⟩ := h
  obtain ⟨t, h1, h2⟩ := hbody cdv A outer s H E hr
  refine ⟨t, h1, ?_⟩
  unfold runF at p
  split at p
  · rename_i ha
    have r2 := r.slots (N.length - ps.length)
    have e1 : vs.map some ++ List.replicate (N.length - ps.length) none = L2.start N vs := by
      unfold L2.start
      rw [hl]
    rw [e1] at r2
    refine h2 B ts ws _ _ H _ r2 ?_
    cases hb : body (args.map some ++ List.replicate (N.length - ps.length) none) with
    | stuck => rw [hb] at p; exact p.elim
    | err e ρ => rw [hb] at p; exact p.elim
    | ok f ρ =>
      rw [hb] at p
      cases f with
      | rt s => exact fun v σ' H' r' => p v σ' H' r'
      | nx => exact fun σ' H' r' => p .non σ' H' (Rep.repl (ds := []) (us := []) r' rfl fun G _ => .non)
      | bk => exact p.elim
      | ct => exact p.elim
  · exact p.elim
end
/-! ### calls -/
def mCall (F : Fn) (fA : M (List D)) : M S := fun ρ => (fA ρ).then fun ds ρ1 => match F (ds.map .d) with
  | .ok s _ => if bare s then .ok s ρ1 else .stuck
  | _ => .stuck
section
variable {c : Cfg} {W : WX} {tA : TA} {fA : M (List D)} {F : Fn} {E : XK}
theorem den_call (h : DenA c W tA fA) : Den c W (tCall (spF c F) [] E tA) (mCall F fA) := fun B ts vs ρ σ H Q r q => by
  unfold mCall at q
  rw [post_then] at q
  refine h B ts vs ρ σ H _ r (q.imp1 fun ds ρ1 q us H1 hl r1 => ?_)
  show spF c F (us ++ []) H1 Q E
  rw [List.append_nil]
  refine ⟨⟨fun _ => none, B.pin⟩, erE ts ++ erE ρ1, vs ++ σ, ds.map .d, by rw [List.map_map]; exact r1.enter hl, ?_⟩
  have r2 := r1.dropN hl
  cases hf : F (ds.map .d) with
  | stuck => rw [hf] at q; exact q.elim
  | err e ρ' => rw [hf] at q; exact q.elim
  | ok s ρ' =>
    rw [hf] at q
    have q : Post (OkP c B ts vs σ Q) (ErrP c W B ts vs σ) (if bare s then .ok s ρ1 else .stuck) := q
    split at q
    · rename_i hs
      exact fun v σ' H' r' => q v H' (Rep.leave hs r2 r')
    · exact q.elim
end
/-! ### an argument that may be changed -/
/-- the arguments but the one at slot i, which stands at place j -/
def OkC (c : Cfg) (B : Base) (ts : En) (vs : List (Option V)) (σ : L2.St) (i j : Nat) (Q : List V → Hp → Prop) (ds : List D) (ρ : En) : Prop :=
  ∀ us H' a, us.length = ds.length → Rep c B (tmp ds ++ ts) (tmv us ++ vs) ρ σ H' → σ[i]? = some (some (.ref a)) → j ≤ ds.length → Q (us.take j ++ .ref a :: us.drop j) H'
def DenC (c : Cfg) (W : WX) (tA : TA) (i j : Nat) (f : M (List D)) : Prop := ∀ B ts vs ρ σ H Q, Rep c B ts vs ρ σ H → Post (OkC c B ts vs σ i j Q) (ErrP c W B ts vs σ) (f ρ) → tA σ H Q
def isOwn (ρ : En) (i : Nat) : Bool := match ρ[i]? with
  | some (some (.o _ _)) => true
  | _ => false
def aOwn (i : Nat) (fr : M (List D)) : M (List D) := fun ρ => if isOwn ρ i then fr ρ else .stuck
section
variable {c : Cfg} {B B' : Base} {W : WX} {ta : TE} {fa : M S} {tr tA : TA} {fr fA : M (List D)} {F : Fn} {E : XK} {i j : Nat} {ts : En} {vs : List (Option V)} {ρ : En} {σ : L2.St} {H : Hp}
theorem dc_own (h : DenA c W tr fr) : DenC c W (tCons (tVar i) tr) i 0 (aOwn i fr) := fun B ts vs ρ σ H Q r q => by
  unfold aOwn at q
  split at q
  · rename_i ho
    unfold isOwn at ho
    split at ho
    · rename_i b x e
      obtain ⟨a, e1, _⟩ := r.varO e
      refine ⟨.ref a, e1, h B ts vs ρ σ H _ r (q.imp1 fun ds ρ1 q us H1 hl r1 => ?_)⟩
      exact q us H1 a hl r1 e1 (Nat.zero_le _)
    · cases ho
  · exact q.elim
def mCallO (F : Fn) (i j : Nat) (fA : M (List D)) : M S := fun ρ => (fA ρ).then fun ds ρ1 => match ρ1[i]? with
  | some (some (.o b x)) => if j ≤ ds.length then match F ((ds.take j).map .d ++ .o (some j) x :: (ds.drop j).map .d) with
      | .ok s ρ' => match ρ'[j]? with
        | some (some (.o (some j') y)) => if j' = j ∧ bare s = true then .ok s (ρ1.set i (some (.o b y))) else .stuck
        | _ => .stuck
      | _ => .stuck
    else .stuck
  | _ => .stuck
/-- into a def with a cell -/
theorem Sl.takeO : ∀ {es : En} {vs : List (Option V)} {own : Owns} {i : Nat} {b : Option Nat} {x : D} {G : Hp}, Sl c B G H es vs own → es[i]? = some (some (.o b x)) → ∃ a own', vs[i]? = some (some (.ref a)) ∧ Cell c G H a x ∧ (∀ k, b = some k → B.at_ k = some a) ∧ Sl c B G H (es.set i none) vs own' ∧ (∀ p ∈ own, p = a ∨ p ∈ own') ∧ (∀ p ∈ own', p ∈ own) ∧ a ∈ own ∧ (own.Nodup → own'.Nodup ∧ a ∉ own')
  | _, _, _, _, _, _, _, .nil, e => by simp at e
  | _, _, _, 0, _, _, _, .skip k, e => by simp at e
  | _, _, _, 0, _, _, _, .d h k, e => by simp at e
  | _, _, a :: own, 0, _, _, _, .o h hb k, e => by
    simp at e
    obtain ⟨rfl, rfl⟩ := e
    exact ⟨a, own, rfl, h, hb, .skip k, fun p hp => List.mem_cons.mp hp, fun p hp => List.mem_cons_of_mem _ hp, List.mem_cons_self, fun nd => ⟨(List.nodup_cons.mp nd).2, (List.nodup_cons.mp nd).1⟩⟩
  | _, _, _, i + 1, _, _, _, .skip k, e => by
    obtain ⟨a, own', h1, h2, h3, h4, h5⟩ := Sl.takeO (i := i) k (by simpa using e)
    exact ⟨a, own', h1, h2, h3, .skip h4, h5⟩
  | _, _, _, i + 1, _, _, _, .d h k, e => by
    obtain ⟨a, own', h1, h2, h3, h4, h5⟩ := Sl.takeO (i := i) k (by simpa using e)
    exact ⟨a, own', h1, h2, h3, .d h h4, h5⟩
  | _, _, b :: own, i + 1, _, _, _, .o h hb k, e => by
    obtain ⟨a, own', h1, h2, h3, h4, h5, h6, h7, h8⟩ := Sl.takeO (i := i) k (by simpa using e)
    refine ⟨a, b :: own', h1, h2, h3, .o h hb h4, fun p hp => ?_, fun p hp => ?_, List.mem_cons_of_mem _ h7, fun nd => ?_⟩
    · rcases List.mem_cons.mp hp with rfl | hp
      · exact .inr List.mem_cons_self
      · exact (h5 p hp).imp id (List.mem_cons_of_mem _)
    · rcases List.mem_cons.mp hp with rfl | hp
      · exact List.mem_cons_self
      · exact List.mem_cons_of_mem _ (h6 p hp)
    · rw [List.nodup_cons] at nd
      obtain ⟨n1, n2⟩ := h8 nd.2
      refine ⟨List.nodup_cons.mpr ⟨fun hm => nd.1 (h6 _ hm), n1⟩, fun hm => ?_⟩
      rcases List.mem_cons.mp hm with rfl | hm
      · exact nd.1 h7
      · exact n2 hm
  | _, _, _, 0, _, _, _, .q h k, e => by simp at e
  | _, _, _, i + 1, _, _, _, @Sl.q _ _ _ _ _ _ _ _ _ qs own h k, e => by
    obtain ⟨a, own', h1, h2, h3, h4, h5, h6, h7, h8⟩ := Sl.takeO (i := i) k (by simpa using e)
    refine ⟨a, qs ++ own', h1, h2, h3, .q h h4, fun p hp => ?_, fun p hp => ?_, List.mem_append_right _ h7, fun nd => ?_⟩
    · rcases List.mem_append.mp hp with hp | hp
      · exact .inr (List.mem_append_left _ hp)
      · exact (h5 p hp).imp id (List.mem_append_right _)
    · rcases List.mem_append.mp hp with hp | hp
      · exact List.mem_append_left _ hp
      · exact List.mem_append_right _ (h6 p hp)
    · have n0 := List.nodup_append.mp nd
      obtain ⟨n1, n2⟩ := h8 n0.2.1
      refine ⟨nodup_sub nd h6 n1, fun hm => ?_⟩
      rcases List.mem_append.mp hm with hm | hm
      · exact n0.2.2 _ hm _ h7 rfl
      · exact n2 hm
theorem Sl.cons_inv {G : Hp} {s : Option S} {es : En} {v : Option V} {vs : List (Option V)} {own : Owns} (h : Sl c B G H (s :: es) (v :: vs) own) : (s = none ∧ Sl c B G H es vs own) ∨ (∃ w x, s = some (.d x) ∧ v = some w ∧ Rp c G w x ∧ Sl c B G H es vs own) ∨
    (∃ a b x o', s = some (.o b x) ∧ v = some (.ref a) ∧ own = a :: o' ∧ Cell c G H a x ∧ (∀ k, b = some k → B.at_ k = some a) ∧ Sl c B G H es vs o') ∨
    ∃ a ks dss os o', s = some (.q ks dss) ∧ v = some (.ref a) ∧ own = os ++ o' ∧ QCell c B G H a ks dss os ∧ Sl c B G H es vs o' := by
  cases h with
  | skip k => exact .inl ⟨rfl, k⟩
  | d h k => exact .inr (.inl ⟨_, _, rfl, rfl, h, k⟩)
  | o h hb k => exact .inr (.inr (.inl ⟨_, _, _, _, rfl, rfl, rfl, h, hb, k⟩))
  | q h k => exact .inr (.inr (.inr ⟨_, _, _, _, _, rfl, rfl, rfl, h, k⟩))
theorem Sl.putO {G : Hp} : ∀ {es : En} {vs : List (Option V)} {own : Owns} {i : Nat} {b : Option Nat} {x : D} {a : Addr}, Sl c B G H (es.set i none) vs own → i < es.length → vs[i]? = some (some (.ref a)) → Cell c G H a x → (∀ k, b = some k → B.at_ k = some a) → ∃ own', Sl c B G H (es.set i (some (.o b x))) vs own' ∧ (∀ p ∈ own', p = a ∨ p ∈ own) ∧ (own.Nodup → a ∉ own → own'.Nodup)
  | [], _, _, _, _, _, _, _, hi, _, _, _ => by simp at hi
  | s :: es, v :: vs, own, 0, b, x, a, h, _, ev, hc, hb => by
    have h : Sl c B G H (none :: es) (v :: vs) own := h
    simp at ev
    subst ev
    cases h with
    | skip h => exact ⟨a :: own, .o hc hb h, fun p hp => List.mem_cons.mp hp, fun nd na => List.nodup_cons.mpr ⟨na, nd⟩⟩
  | s :: es, [], own, 0, b, x, a, h, _, ev, hc, hb => by simp at ev
  | s :: es, [], own, i + 1, b, x, a, h, _, ev, hc, hb => by simp at ev
  | s :: es, v :: vs, own, i + 1, b, x, a, h, hi, ev, hc, hb => by
    have hj : i < es.length := by simpa using hi
    have ew : vs[i]? = some (some (.ref a)) := by simpa using ev
    rcases Sl.cons_inv (show Sl c B G H (s :: es.set i none) (v :: vs) own from h) with ⟨rfl, k⟩ | ⟨w, y, rfl, rfl, hh, k⟩ | ⟨a', b', y, o', rfl, rfl, rfl, hh, hb', k⟩ | ⟨a', ks, dss, os, o', rfl, rfl, rfl, hh, k⟩
    · obtain ⟨own', h1, h2, h3⟩ := Sl.putO k hj ew hc hb
      exact ⟨own', .skip h1, h2, h3⟩
    · obtain ⟨own', h1, h2, h3⟩ := Sl.putO k hj ew hc hb
      exact ⟨own', .d hh h1, h2, h3⟩
    · obtain ⟨own', h1, h2, h3⟩ := Sl.putO k hj ew hc hb
      refine ⟨a' :: own', .o hh hb' h1, fun p hp => ?_, fun nd na => ?_⟩
      · rcases List.mem_cons.mp hp with rfl | hp
        · exact .inr List.mem_cons_self
        · exact (h2 p hp).imp id (List.mem_cons_of_mem _)
      · rw [List.nodup_cons] at nd
        rw [List.mem_cons, not_or] at na
        refine List.nodup_cons.mpr ⟨fun hm => ?_, h3 nd.2 na.2⟩
        rcases h2 a' hm with e | hm
        · exact na.1 e.symm
        · exact nd.1 hm
    · obtain ⟨own', h1, h2, h3⟩ := Sl.putO k hj ew hc hb
      refine ⟨os ++ own', .q hh h1, fun p hp => ?_, fun nd na => ?_⟩
      · rcases List.mem_append.mp hp with hp | hp
        · exact .inr (List.mem_append_left _ hp)
        · exact (h2 p hp).imp id (List.mem_append_right _)
      · rw [List.nodup_append] at nd ⊢
        rw [List.mem_append, not_or] at na
        refine ⟨nd.1, h3 nd.2.1 na.2, fun x hx y hy e => ?_⟩
        rcases h2 y hy with z | z
        · exact na.1 (z ▸ e ▸ hx)
        · exact nd.2.2 x hx y z e
theorem Rep.enterO {ds : List D} {us : List V} {b : Option Nat} {x : D} {a : Addr} (hl : us.length = ds.length) (hj : j ≤ ds.length) (r : Rep c B (tmp ds ++ ts) (tmv us ++ vs) ρ σ H) (e : ρ[i]? = some (some (.o b x))) (ev : σ[i]? = some (some (.ref a))) :
    Rep c ⟨fun k => if k = j then some a else none, B.pin⟩ (erE ts ++ erE (ρ.set i none)) (vs ++ σ) (((ds.take j).map S.d ++ S.o (some j) x :: (ds.drop j).map S.d).map some) ((us.take j ++ V.ref a :: us.drop j).map some) H := by
  obtain ⟨G, o1, o2, k, h1, h2⟩ := r
  obtain ⟨a1, a2⟩ := h1.tmp hl
  obtain ⟨a', own', e1, hc, _, h3, m1, m2, m3, m4⟩ := h2.takeO e
  rw [ev] at e1
  cases e1
  have nd := k.nd
  rw [List.nodup_append] at nd
  obtain ⟨n1, n2, n3⟩ := nd
  obtain ⟨n4, n5⟩ := m4 n2
  refine ⟨G, o1 ++ own', [a], (k.anyB).subO (fun p hp => ?_) ?_, (a2.er).app h3.er, ?_⟩
  · rcases List.mem_append.mp hp with hp | hp
    · rcases List.mem_append.mp hp with hp | hp
      · exact List.mem_append_left _ hp
      · exact List.mem_append_right _ (m2 p hp)
    · simp at hp
      subst hp
      exact List.mem_append_right _ m3
  · rw [List.nodup_append, List.nodup_append]
    refine ⟨⟨n1, n4, fun x hx y hy => n3 x hx y (m2 y hy)⟩, by simp, fun x hx y hy => ?_⟩
    simp at hy
    subst hy
    rcases List.mem_append.mp hx with hx | hx
    · exact n3 x hx _ m3
    · exact fun z => n5 (z ▸ hx)
  · rw [List.map_append, List.map_cons, List.map_append, List.map_cons, List.map_map, List.map_map]
    have s1 : Sl c ⟨fun k => if k = j then some a else none, B.pin⟩ G H ((ds.take j).map fun x => some (S.d x)) ((us.take j).map some) [] := (a1.take j).slot
    have s2 : Sl c ⟨fun k => if k = j then some a else none, B.pin⟩ G H ((ds.drop j).map fun x => some (S.d x)) ((us.drop j).map some) [] := (a1.drop j).slot
    exact s1.app (.o hc (fun k hk => by cases hk; simp) s2)
theorem Rep.leaveO {s : S} {v : V} {ρ' : En} {σ' : L2.St} {H0 : Hp} {b : Option Nat} {x y : D} {a : Addr} (hs : bare s = true) (r0 : Rep c B ts vs ρ σ H0) (e : ρ[i]? = some (some (.o b x))) (ev : σ[i]? = some (some (.ref a)))
    (r : Rep c ⟨fun k => if k = j then some a else none, B.pin⟩ (some s :: (erE ts ++ erE (ρ.set i none))) (some v :: (vs ++ σ)) ρ' σ' H) (e' : ρ'[j]? = some (some (.o (some j) y))) : Rep c B (some s :: ts) (some v :: vs) (ρ.set i (some (.o b y))) σ H := by
  obtain ⟨G0, p1, p2, k0, g1, g2⟩ := r0
  obtain ⟨a0, own0, e0, _, hb0, g3, _⟩ := g2.takeO e
  rw [ev] at e0
  cases e0
  obtain ⟨G, o1, o2, k, h1, h2⟩ := r
  obtain ⟨w, os, o1', ew, e1, rfl, h1'⟩ := h1.unone
  cases ew
  obtain ⟨q1, q2, rfl, f1, f2⟩ := h1'.split (by rw [show (erE ts).length = ts.length by simp [erE]]; exact g1.length)
  have e1' : En1 c B G H s v os := by
    cases e1 with
    | d h => exact .d h
    | @o a b x hc hb =>
      cases b with
      | none => exact .o hc fun _ e => nomatch e
      | some k => cases hs
    | q h => cases hs
  obtain ⟨a2, e2, hc2, m2, hb2⟩ := h2.getO e'
  have ea : a2 = a := by
    have := hb2 j rfl
    simp at this
    exact this.symm
  subst ea
  have hi : i < ρ.length := (List.getElem?_eq_some_iff.mp e).1
  have nd := k.nd
  rw [List.nodup_append, List.nodup_append, List.nodup_append] at nd
  obtain ⟨⟨n1, ⟨n2, n3, n4⟩, n5⟩, n6, n7⟩ := nd
  have na : a2 ∉ q2 := fun hm => n7 a2 (List.mem_append_right _ (List.mem_append_right _ hm)) a2 m2 rfl
  obtain ⟨own', f3, m3, m4⟩ := Sl.putO (g3.unflag f2) hi ev hc2 hb0
  refine ⟨G, os ++ q1, own', (k.anyB).subO (fun p hp => ?_) ?_, Sl.one e1' (g1.unflag f1), f3⟩
  · simp only [List.mem_append] at hp ⊢
    rcases hp with (hp | hp) | hp
    · exact .inl (.inl hp)
    · exact .inl (.inr (.inl hp))
    · rcases m3 p hp with rfl | hp
      · exact .inr m2
      · exact .inl (.inr (.inr hp))
  · rw [List.nodup_append, List.nodup_append]
    refine ⟨⟨n1, n2, fun x hx y hy => n5 x hx y (List.mem_append_left _ hy)⟩, m4 n3 na, fun x hx y hy => ?_⟩
    rcases m3 y hy with rfl | hy
    · rcases List.mem_append.mp hx with hx | hx
      · exact n7 x (List.mem_append_left _ hx) _ m2
      · exact n7 x (List.mem_append_right _ (List.mem_append_left _ hx)) _ m2
    · rcases List.mem_append.mp hx with hx | hx
      · exact n5 x hx y (List.mem_append_right _ hy)
      · exact n4 x hx y hy
theorem den_callO (h : DenC c W tA i j fA) : Den c W (tCall (spF c F) [] E tA) (mCallO F i j fA) := fun B ts vs ρ σ H Q r q => by
  unfold mCallO at q
  rw [post_then] at q
  refine h B ts vs ρ σ H _ r (q.imp1 fun ds ρ1 q us H1 a hl r1 ev hj => ?_)
  show spF c F (us.take j ++ V.ref a :: us.drop j ++ []) H1 Q E
  rw [List.append_nil]
  split at q
  · rename_i b x e
    rw [if_pos hj] at q
    refine ⟨_, _, _, _, r1.enterO hl hj e ev, ?_⟩
    have r2 := r1.dropN hl
    cases hf : F ((ds.take j).map .d ++ .o (some j) x :: (ds.drop j).map .d) with
    | stuck => rw [hf] at q; exact q.elim
    | err e ρ' => rw [hf] at q; exact q.elim
    | ok s ρ' =>
      rw [hf] at q
      have q2 : Post (OkP c B ts vs σ Q) (ErrP c W B ts vs σ) (match ρ'[j]? with
        | some (some (.o (some j') y)) => if j' = j ∧ bare s = true then .ok s (ρ1.set i (some (.o b y))) else .stuck
        | _ => .stuck) := q
      clear q
      split at q2
      · rename_i j' y e'
        split at q2
        · rename_i hh
          obtain ⟨rfl, hs⟩ := hh
          exact fun v σ' H' r' => q2 v H' (Rep.leaveO hs r2 e ev r' e')
        · exact q2.elim
      · exact q2.elim
  · exact q.elim
end
/-! ### fields -/
def gFld (n : String) (i : Nat) : D → Option S
  | .ins m ds => if m = n then (ds[i]?).bind ok1 else none
  | _ => none
def mFldE (n : String) (i : Nat) (fe : M S) : M S := mUn (gFld n i) fe
section
variable {c : Cfg} {W : WX} {te : TE} {fe : M S} {n : String} {f : Str} {i k : Nat}
/-- self.f = e, the next of its fields -/
def mSetF (n : String) (i k : Nat) (fe : M S) : M Fl := fun ρ => (dv fe ρ).then fun x ρ1 => match ρ1[k]? with
  | some (some (.o b (.ins m ds))) => if m = n ∧ ds.length = i then .ok .nx (ρ1.set k (some (.o b (.ins m (ds ++ [x]))))) else .stuck
  | _ => .stuck
end
section
variable {c : Cfg} {W : WX} {tA : TA} {fA : M (List D)} {F : Fn} {n : String} {nf : Nat} {E : XK}
theorem Rep.foreign {B : Base} {ts : En} {vs : List (Option V)} {ρ : En} {σ : L2.St} {H : Hp} {p : Addr} {o : HO} (hp : H p = none) (r : Rep c B ts vs ρ σ H) : Rep c B ts vs ρ σ (upd H p o) := by
  obtain ⟨G, o1, o2, k, h1, h2⟩ := r
  have ow := own_new (o := o) k hp
  refine ⟨G, o1, o2, ⟨fun a u e => ?_, k.notbl, k.nd, fun q hq => ?_, tabs_new k.tabs hp, k.pint, fun a u e => ⟨by rw [upd_ne (ne_of_none (k.pin a u e).1 hp)]; exact (k.pin a u e).1, (k.pin a u e).2⟩⟩, h1.mono (fun _ _ e => e) fun q hq => ow q (List.mem_append_left _ hq), h2.mono (fun _ _ e => e) fun q hq => ow q (List.mem_append_right _ hq)⟩
  · rw [upd_ne (ne_of_none (k.sub a u e) hp)]
    exact k.sub a u e
  · rw [ow q hq]
    exact k.out q hq
end
end Fx
/-! slices, chains, truth, isinstance, cells of names -/
namespace Fx
open PySem PySem.Spec PyProof.Rows L2
/-! ### slices -/
def cutD (xs : List D) (lo hi : Option Int) : List D := (xs.drop (HT.sIx xs.length 0 lo)).take (HT.sIx xs.length xs.length hi - HT.sIx xs.length 0 lo)
theorem RpAll.cut {c : Cfg} {G : Hp} {us : List V} {xs : List D} (k : RpAll c G us xs) (lo hi : Option Int) : RpAll c G (cutV us lo hi) (cutD xs lo hi) := by
  unfold cutV cutD
  rw [k.length]
  exact (k.drop _).take _
def rSlG (K : PySem.W.Frag) : V → Option Int → Option Int → Hp → VK → Prop := fun x lo hi H Q => rSlN K x lo hi H Q ∨ rSlL K x lo hi H Q ∨ C8.rSlX x lo hi H Q
theorem sl_G {X : Cx} : SlR X (rSlG X.K) := SlR.or sl_tupN (SlR.or sl_list C8.sl_txt)
def gSl (x : D) (lo hi : Option Int) : Option S := match x with
  | .tup xs => ok1 (.tup (cutD xs lo hi))
  | .lst xs => some (.o none (.lst (cutD xs lo hi)))
  | .str z => if small z.length then ok1 (.str (Txt.slice z lo hi)) else none
  | _ => none
def oNone : M (Option Int) := fun ρ => .ok none ρ
def oSome (f : M S) : M (Option Int) := fun ρ => (dv f ρ).then fun x ρ' => match x with
  | .int i => .ok (some i) ρ'
  | _ => .stuck
def DenO (c : Cfg) (W : WX) (to : TO) (f : M (Option Int)) : Prop := ∀ B ts vs ρ σ H Q, Rep c B ts vs ρ σ H → Post (fun o ρ' => ∀ H', Rep c B ts vs ρ' σ H' → Q o H') (ErrP c W B ts vs σ) (f ρ) → to σ H Q
def mSl (fe : M S) (fl fh : M (Option Int)) : M S := fun ρ => (dv fe ρ).then fun x ρ1 => (fl ρ1).then fun lo ρ2 => (fh ρ2).then fun hi ρ3 => match gSl x lo hi with
  | some s => .ok s ρ3
  | none => .stuck
section
variable {c : Cfg} {W : WX} {te ta tb tc : TE} {fe fa fb fc : M S} {tl th : TO} {fl fh : M (Option Int)}
theorem do_none : DenO c W tNoPart oNone := fun B ts vs ρ σ H Q r q => q H r
theorem do_some (h : Den c W te fe) : DenO c W (tPart te) (oSome fe) := fun B ts vs ρ σ H Q r q => by
  unfold oSome at q
  rw [post_then] at q
  refine h.dv r (q.imp1 fun x ρ1 q v H1 r1 => ?_)
  cases x <;> first | exact q.elim | skip
  obtain ⟨G, O, hv⟩ := r1.one
  cases hv
  exact ⟨_, rfl, q H1 r1.drop⟩
theorem cutD_all {xs : List D} {lo hi : Option Int} (h : HT.sIx xs.length 0 lo = 0 ∧ HT.sIx xs.length xs.length hi = xs.length) : cutD xs lo hi = xs := by
  unfold cutD
  rw [h.1, h.2]
  simp
theorem den_sl (h : Den c W te fe) (hl : DenO c W tl fl) (hh : DenO c W th fh) : Den c W (tSl (rSlG c.K) te tl th) (mSl fe fl fh) := fun B ts vs ρ σ H Q r q => by
  unfold mSl at q
  rw [post_then] at q
  refine h.dv r (q.imp1 fun x ρ1 q1 v H1 r1 => ?_)
  rw [post_then] at q1
  refine hl B _ _ ρ1 σ H1 _ r1 (q1.imp (fun lo ρ2 q2 H2 r2 => ?_) fun _ _ h => h.drop)
  rw [post_then] at q2
  refine hh B _ _ ρ2 σ H2 _ r2 (q2.imp (fun hi ρ3 q3 H3 r3 => ?_) fun _ _ h => h.drop)
  obtain ⟨G, O, hv⟩ := r3.one
  cases x with
  | tup xs =>
    obtain ⟨a, us, rfl, ha, k, n⟩ := hv.tupN
    refine .inl ⟨a, us, rfl, SqT.up O.sub ha, fun hw => ?_, fun hw p o hp ho => ?_⟩
    · rw [k.length] at hw
      have e : cutD xs lo hi = xs := cutD_all hw
      have q4 : OkP c B ts vs σ Q (.d (.tup (cutD xs lo hi))) ρ3 := q3
      rw [e] at q4
      exact q4 _ _ (O.val (.tup ha k n))
    · exact q3 _ _ (O.new hp rfl fun G' m e => .tup (.inl (.inr ⟨o, e⟩)) ((k.cut lo hi).mono m) fun _ => ⟨o, e, ho⟩)
  | lst xs =>
    obtain ⟨a, us, rfl, ha, k⟩ := hv.lstE
    exact .inr (.inl ⟨a, us, rfl, SqL.of (O.sub _ _ ha), fun p hp => q3 _ _ (O.newO hp fun H' e => ⟨_, e, k.cut lo hi⟩)⟩)
  | str z =>
    have q4 : Post (OkP c B ts vs σ Q) (ErrP c W B ts vs σ) (match (if small z.length then ok1 (.str (Txt.slice z lo hi)) else none) with
      | some s => .ok s ρ3
      | none => .stuck) := q3
    by_cases hz : small z.length = true
    · rw [if_pos hz] at q4
      cases hv
      exact .inr (.inr ⟨z, rfl, small_line hz, q4 _ _ (O.val (.str _))⟩)
    · rw [if_neg hz] at q4
      exact q4.elim
  | _ => exact q3.elim
/-! ### a op b op c -/
def mChain (g g' : D → D → Option S) (fa fb fc : M S) : M S := fun ρ => (dv fa ρ).then fun x ρ1 => (dv fb ρ1).then fun y ρ2 => match g x y with
  | some (.d (.bl true)) => (dv fc ρ2).then fun z ρ3 => match g' y z with
      | some s => .ok s ρ3
      | none => .stuck
  | some (.d (.bl false)) => .ok (.d (.bl false)) ρ2
  | _ => .stuck
theorem den_chain {r r' : R2} {g g' : D → D → Option S} (ho : OpDen c r g) (ho' : OpDen c r' g') (hmono : ∀ x y H Q Q', (∀ v H', Q v H' → Q' v H') → r x y H Q → r x y H Q') (ha : Den c W ta fa) (hb : Den c W tb fb) (hc : Den c W tc fc) : Den c W (tChain r r' ta tb tc) (mChain g g' fa fb fc) := fun B ts vs ρ σ H Q rp q => by
  unfold mChain at q
  rw [post_then] at q
  refine ha.dv rp (q.imp1 fun x ρ1 q1 v H1 r1 => ?_)
  rw [post_then] at q1
  refine hb.dv r1 (q1.imp (fun y ρ2 q2 u H2 r2 => ?_) fun _ _ h => h.drop)
  have fin : ∀ b, g x y = some (.d (.bl b)) → (if b = true then ∀ H3, Rep c B (some (.d y) :: ts) (some u :: vs) ρ2 σ H3 → tc σ H3 (fun w' H4 => r' u w' H4 Q) else ∀ H3, Rep c B ts vs ρ2 σ H3 → Q (.bl false) H3) → r v u H2 fun z H3 => ∃ k, z = .bl k ∧ (if k = true then tc σ H3 (fun w' H4 => r' u w' H4 Q) else Q (.bl false) H3) := by
    intro b hg hk
    -- keep y waiting
    have r3 : Rep c B (some (.d y) :: some (.d x) :: some (.d y) :: ts) (some u :: some v :: some u :: vs) ρ2 σ H2 := by
      obtain ⟨G, o1, o2, k, h1, h2⟩ := r2
      cases h1 with
      | d a h1 =>
        cases h1 with
        | d b h1 => exact ⟨G, o1, o2, k, .d a (.d b (.d a h1)), h2⟩
    refine ho B _ _ ρ2 σ H2 _ x y v u _ r3 hg fun w H3 r4 => ?_
    obtain ⟨G, O, hw⟩ := r4.one
    cases hw
    refine ⟨b, rfl, ?_⟩
    cases b with
    | true => exact hk H3 r4.drop
    | false => exact hk H3 r4.drop.drop
  split at q2
  · rename_i hg
    refine fin true hg fun H3 r3 => ?_
    rw [post_then] at q2
    refine hc.dv r3 (q2.imp (fun z ρ3 q3 w H4 r4 => ?_) fun _ _ h => h.drop)
    split at q3
    · rename_i s hs
      exact ho' B ts vs ρ3 σ H4 Q y z u w s r4 hs q3
    · exact q3.elim
  · rename_i hg
    exact fin false hg fun H3 r3 => OkP.bl q2 r3
  · exact q2.elim
end
/-! ### truth -/
def truD : D → Option Bool
  | .non => some false
  | .bl b => some b
  | .int i => some (i != 0)
  | .str z => if small z.length then some ((z.length : Int) != 0) else none
  | .tup ds => some (!ds.isEmpty)
  | .lst ds => some (!ds.isEmpty)
  | _ => none
def mTruth (fe : M S) : M Bool := fun ρ => (dv fe ρ).then fun x ρ1 => match truD x with
  | some b => .ok b ρ1
  | none => .stuck
/-- .. of a name's cell -/
def mTruthO (i : Nat) : M Bool := fun ρ => match ρ[i]? with
  | some (some (.o _ (.lst ds))) => .ok (!ds.isEmpty) ρ
  | some (some (.d x)) => match truD x with
    | some b => .ok b ρ
    | none => .stuck
  | _ => .stuck
section
variable {c : Cfg} {W : WX} {te : TE} {fe : M S} {i : Nat}
theorem isEmpty_len {α β : Type} {xs : List α} {ys : List β} (h : xs.length = ys.length) : xs.isEmpty = ys.isEmpty := by
  cases xs <;> cases ys <;> first | rfl | simp at h
theorem Rp.tru {G H : Hp} {v : V} {x : D} {b : Bool} (s : ∀ a o, G a = some o → H a = some o) (h : Rp c G v x) (e : truD x = some b) : TruV c.K v H b := by
  cases x with
  | non => cases e; cases h; rfl
  | bl b => cases e; cases h; rfl
  | int i => cases e; cases h; rfl
  | str z =>
    have e : (if small z.length then some ((z.length : Int) != 0) else none) = some b := e
    split at e
    · rename_i hz
      cases e
      cases h
      exact ⟨small_line hz, rfl⟩
    · cases e
  | tup ds =>
    cases e
    obtain ⟨a, us, rfl, ha, k⟩ := h.tupE
    exact .inr (.inl ⟨us, SqT.up s ha, by rw [isEmpty_len k.length]⟩)
  | lst ds =>
    cases e
    obtain ⟨a, us, rfl, ha, k⟩ := h.lstE
    exact .inl ⟨us, SqL.of (s _ _ ha), by rw [isEmpty_len k.length]⟩
  | _ => cases e
def tTru (K : PySem.W.Frag) (te : TE) : TT := fun σ H Q => te σ H fun x H1 => ∃ k, TruV K x H1 k ∧ Q k H1
theorem dt_truth (h : Den c W te fe) : DenT c W (tTru c.K te) (mTruth fe) := fun B ts vs ρ σ H Q r q => by
  unfold mTruth at q
  rw [post_then] at q
  refine h.dv r (q.imp1 fun x ρ1 q v H1 r1 => ?_)
  split at q
  · rename_i b e
    obtain ⟨G, O, hv⟩ := r1.one
    exact ⟨b, hv.tru O.sub e, q H1 r1.drop⟩
  · exact q.elim
theorem dt_truthO : DenT c W (tTru c.K (tVar i)) (mTruthO i) := fun B ts vs ρ σ H Q r q => by
  unfold mTruthO at q
  split at q
  · rename_i b ds e
    obtain ⟨a, ev, G, sub, us, ha, k⟩ := r.varO e
    exact ⟨.ref a, ev, _, .inl ⟨us, SqL.of ha, rfl⟩, by rw [isEmpty_len k.length]; exact q H r⟩
  · rename_i x e
    split at q
    · rename_i b eb
      obtain ⟨v, ev, r1⟩ := r.var e
      obtain ⟨G, O, hv⟩ := r1.one
      exact ⟨v, ev, b, hv.tru O.sub eb, q H r⟩
    · exact q.elim
  · exact q.elim
end
/-! ### isinstance -/
def tyD : D → Option String
  | .non => some "NoneType"
  | .bl _ => some "bool"
  | .int _ => some "int"
  | .str _ => some "str"
  | .tup _ => some "tuple"
  | .lst _ => some "list"
  | _ => none
theorem Rp.tyX {c : Cfg} {G H : Hp} {v : V} {x : D} {n : String} (s : ∀ a o, G a = some o → H a = some o) (h : Rp c G v x) (e : tyD x = some n) : TyX c.K H v (.type n) := by
  cases h with
  | non => cases e; exact .base .non
  | bl b => cases e; exact .base (.bl b)
  | int i => cases e; exact .base (.int i)
  | str z => cases e; exact .base (.str z)
  | tup ha _ =>
    cases e
    rcases SqT.up s ha with (ha | ⟨o, ha⟩) | ⟨o, its, m, hk, hc, _⟩
    · exact .base (.tup ha)
    · exact .fTuple ha
    · exact .kTuple hk hc
  | lst ha _ => cases e; exact .base (.lst (s _ _ ha))
  | _ => cases e
def isTy (n : String) (x : D) : Option Bool := match n, x with
  | "int", .int _ => some true
  | "int", .bl _ => some true
  | "int", .non => some false
  | "int", .str _ => some false
  | "int", .tup _ => some false
  | "int", .lst _ => some false
  | "bool", .bl _ => some true
  | "bool", .int _ => some false
  | "bool", .non => some false
  | "bool", .str _ => some false
  | "bool", .tup _ => some false
  | "bool", .lst _ => some false
  | "str", .str _ => some true
  | "str", .int _ => some false
  | "str", .bl _ => some false
  | "str", .non => some false
  | "str", .tup _ => some false
  | "str", .lst _ => some false
  | "tuple", .tup _ => some true
  | "tuple", .int _ => some false
  | "tuple", .bl _ => some false
  | "tuple", .non => some false
  | "tuple", .str _ => some false
  | "tuple", .lst _ => some false
  | "list", .lst _ => some true
  | "list", .int _ => some false
  | "list", .bl _ => some false
  | "list", .non => some false
  | "list", .str _ => some false
  | "list", .tup _ => some false
  | _, _ => none
theorem isTy_kit {n : String} {x : D} {b : Bool} (h : isTy n x = some b) : ∃ m, tyD x = some m ∧ kitB m n = some b := by
  unfold isTy at h
  split at h <;> first | cases h | skip
  all_goals exact ⟨_, rfl, by decide +kernel⟩
def gIsi : List D → Option S
  | [x, .ty n] => (isTy n x).bind fun b => ok1 (.bl b)
  | _ => none
theorem cd_isi {c : Cfg} : CbDen c (rIsi c.K) gIsi := by
  intro B ts vs ρ σ H Q ds us s hl r e q
  match ds, hl, r, e with
  | [x, .ty n], hl, r, e =>
    obtain ⟨v, w, rfl, G, O, h1, h2⟩ := r.two' hl
    have e : (isTy n x).bind (fun b => ok1 (.bl b)) = some s := e
    cases e1 : isTy n x with
    | none => rw [e1] at e; cases e
    | some b =>
      rw [e1] at e
      cases e
      cases h2
      obtain ⟨m, t1, t2⟩ := isTy_kit e1
      exact ⟨v, .ty n, .type m, .type n, b, rfl, .ty n, h1.tyX O.sub t1, kit_ty t2, q _ _ (O.val (.bl _))⟩
/-! ### cells of names: what is read of them, how they are changed -/
/-- what stands at a name, wherever -/
def peek (ρ : En) (i : Nat) : Option D := match ρ[i]? with
  | some (some (.d x)) => some x
  | some (some (.o _ x)) => some x
  | _ => none
section
variable {c : Cfg} {W : WX} {B : Base} {ts : En} {vs : List (Option V)} {ρ : En} {σ : L2.St} {H : Hp} {te : TE} {fe : M S} {i : Nat}
theorem Rep.peekL {ds : List D} (e : peek ρ i = some (.lst ds)) (r : Rep c B ts vs ρ σ H) : ∃ a us G o1 o2, σ[i]? = some (some (.ref a)) ∧ H a = some (.lst us) ∧ RpAll c G us ds ∧ OkB c B G H (o1 ++ o2) ∧ Sl c B G H ts vs o1 ∧ Sl c B G H ρ σ o2 := by
  unfold peek at e
  obtain ⟨G, o1, o2, k, h1, h2⟩ := r
  split at e
  · rename_i x e1
    cases e
    obtain ⟨v, ev, hv⟩ := h2.getD e1
    obtain ⟨a, us, rfl, ha, ka⟩ := hv.lstE
    exact ⟨a, us, G, o1, o2, ev, k.sub _ _ ha, ka, k, h1, h2⟩
  · rename_i b x e1
    cases e
    obtain ⟨a, ev, ⟨us, ha, ka⟩, _, _⟩ := h2.getO e1
    exact ⟨a, us, G, o1, o2, ev, ha, ka, k, h1, h2⟩
  · cases e
/-- x[e], x a name that holds a list -/
def peekL (ρ : En) (i : Nat) : Bool := match peek ρ i with
  | some (.lst _) => true
  | _ => false
def mIxO (i : Nat) (fe : M S) : M S := fun ρ => if peekL ρ i then (dv fe ρ).then fun y ρ1 => match peek ρ1 i, y with
    | some (.lst ds), .int k => match atI ds k with
      | some x => .ok (.d x) ρ1
      | none => .stuck
    | _, _ => .stuck
  else .stuck
theorem den_ixO (h : Den c W te fe) : Den c W (tOp (rIx c.K) (tVar i) te) (mIxO i fe) := fun B ts vs ρ σ H Q r q => by
  unfold mIxO at q
  split at q
  · rename_i hp
    unfold peekL at hp
    split at hp
    · rename_i ds0 e0
      obtain ⟨a0, us0, _, _, _, ev, _⟩ := r.peekL e0
      rw [post_then] at q
      refine ⟨.ref a0, ev, h.dv r (q.imp1 fun y ρ1 q1 v H1 r1 => ?_)⟩
      split at q1
      · rename_i ds k e1
        obtain ⟨G, O, hv⟩ := r1.one
        cases hv
        obtain ⟨a, us, G, o1, o2, ev1, ha, ka, kk, h1, h2⟩ := r1.peekL e1
        rw [ev] at ev1
        cases ev1
        split at q1
        · rename_i x ex
          obtain ⟨w, ew, hw⟩ := ka.atI ex
          refine .inl ⟨a0, us, k, w, rfl, rfl, SqL.of ha, ew, q1 _ _ ?_⟩
          cases h1 with
          | d _ h1 => exact ⟨G, o1, o2, kk, .d hw h1, h2⟩
        · exact q1.elim
      · exact q1.elim
    · cases hp
  · exact q.elim
/-- a name that holds a list -/
def ownL (ρ : En) (i : Nat) : Bool := match ρ[i]? with
  | some (some (.o _ (.lst _))) => true
  | _ => false
theorem ownL_at (h : ownL ρ i = true) (r : Rep c B ts vs ρ σ H) : ∃ a us, σ[i]? = some (some (.ref a)) ∧ H a = some (.lst us) := by
  unfold ownL at h
  split at h
  · rename_i b ds e
    obtain ⟨a, ev, G, sub, us, ha, k⟩ := r.varO e
    exact ⟨a, us, ev, ha⟩
  · cases h
def mMeth1 (i : Nat) (g : List D → D → Option (D × List D)) (fe : M S) : M S := fun ρ => if ownL ρ i then (dv fe ρ).then fun y ρ1 => match ρ1[i]? with
    | some (some (.o b (.lst ds))) => match g ds y with
      | some (z, es) => .ok (.d z) (ρ1.set i (some (.o b (.lst es))))
      | none => .stuck
    | _ => .stuck
  else .stuck
/-- how a method changes a list -/
def MthDen (c : Cfg) (r : V → List V → Hp → VK → Prop) (g : List D → D → Option (D × List D)) : Prop := ∀ (G H : Hp) (Q : VK) (a : Addr) (us : List V) (ds : List D) (y z : D) (v : V) (es : List D), (∀ b o, G b = some o → H b = some o) → H a = some (.lst us) → RpAll c G us ds → Rp c G v y → g ds y = some (z, es) →
  (∀ w us', Rp c G w z → RpAll c G us' es → Q w (upd H a (.lst us'))) → r (.ref a) [v] H Q
theorem den_meth1 {r : V → List V → Hp → VK → Prop} {g : List D → D → Option (D × List D)} (hm : MthDen c r g) (h : Den c W te fe) : Den c W (tBM c.K "list" r (tVar i) (tCons te tNil)) (mMeth1 i g fe) := fun B ts vs ρ σ H Q rp q => by
  unfold mMeth1 at q
  split at q
  · rename_i ho
    obtain ⟨a, us, ev, ha⟩ := ownL_at ho rp
    rw [post_then] at q
    refine ⟨.ref a, ev, .inl ⟨rfl, us, SqL.of ha⟩, h.dv rp (q.imp1 fun y ρ1 q1 v H1 r1 => ?_)⟩
    split at q1
    · rename_i b ds e1
      split at q1
      · rename_i z es eg
        obtain ⟨G, o1, o2, k, h1, h2⟩ := id r1
        obtain ⟨a', ev', ⟨us', ha', ka⟩, hmem, hb⟩ := h2.getO e1
        rw [ev] at ev'
        cases ev'
        cases h1 with
        | d hv h1 =>
          refine hm G H1 Q a us' ds y z v es k.sub ha' ka hv eg fun w us2 hw hk => q1 w _ ?_
          have nd := k.nd
          rw [List.nodup_append] at nd
          exact ⟨G, o1, o2, k.write (List.mem_append_right _ hmem) ha' (.lst _), .d hw (h1.mono (fun _ _ e => e) fun q hq => upd_ne fun z => nd.2.2 q hq a hmem z), h2.write nd.2.1 e1 ev (fun q hq => upd_ne hq) ⟨us2, upd_same, hk⟩⟩
      · exact q1.elim
    · exact q1.elim
  · exact q.elim
def mMeth0 (i : Nat) (g : List D → Option (D × List D)) : M S := fun ρ => match ρ[i]? with
  | some (some (.o b (.lst ds))) => match g ds with
    | some (z, es) => .ok (.d z) (ρ.set i (some (.o b (.lst es))))
    | none => .stuck
  | _ => .stuck
def Mth0Den (c : Cfg) (r : V → List V → Hp → VK → Prop) (g : List D → Option (D × List D)) : Prop := ∀ (G H : Hp) (Q : VK) (a : Addr) (us : List V) (ds : List D) (z : D) (es : List D), H a = some (.lst us) → RpAll c G us ds → g ds = some (z, es) →
  (∀ w us', Rp c G w z → RpAll c G us' es → Q w (upd H a (.lst us'))) → r (.ref a) [] H Q
theorem den_meth0 {r : V → List V → Hp → VK → Prop} {g : List D → Option (D × List D)} (hm : Mth0Den c r g) : Den c W (tBM0 c.K "list" r (tVar i)) (mMeth0 i g) := fun B ts vs ρ σ H Q rp q => by
  unfold mMeth0 at q
  split at q
  · rename_i b ds e1
    split at q
    · rename_i z es eg
      obtain ⟨G, o1, o2, k, h1, h2⟩ := id rp
      obtain ⟨a, ev, ⟨us, ha, ka⟩, hmem, hb⟩ := h2.getO e1
      refine ⟨.ref a, ev, .inl ⟨rfl, us, SqL.of ha⟩, hm G H Q a us ds z es ha ka eg fun w us2 hw hk => q w _ ?_⟩
      have nd := k.nd
      rw [List.nodup_append] at nd
      exact ⟨G, o1, o2, k.write (List.mem_append_right _ hmem) ha (.lst _), .d hw (h1.mono (fun _ _ e => e) fun q hq => upd_ne fun z => nd.2.2 q hq a hmem z), h2.write nd.2.1 e1 ev (fun q hq => upd_ne hq) ⟨us2, upd_same, hk⟩⟩
    · exact q.elim
  · exact q.elim
def gApp (ds : List D) (y : D) : Option (D × List D) := if small (ds.length + 1) then some (.non, ds ++ [y]) else none
theorem md_app : MthDen c rAppend gApp := by
  intro G H Q a us ds y z v es sub ha ka hv e q
  unfold gApp at e
  split at e
  · rename_i hz
    cases e
    refine ⟨a, us, v, rfl, rfl, ha, ?_, q _ _ .non (ka.snoc hv)⟩
    have := small_line hz
    rw [ka.length]
    omega
  · cases e
def gExt (ds : List D) (y : D) : Option (D × List D) := match y with
  | .lst es => if small (ds.length + es.length) then some (.non, ds ++ es) else none
  | _ => none
theorem md_ext : MthDen c rExtend gExt := by
  intro G H Q a us ds y z v es sub ha ka hv e q
  cases y <;> first | cases e | skip
  rename_i ys
  have e : (if small (ds.length + ys.length) then some (D.non, ds ++ ys) else none) = some (z, es) := e
  split at e
  · rename_i hz
    cases e
    obtain ⟨b, ws, rfl, hb, kb⟩ := hv.lstE
    exact ⟨a, b, us, ws, rfl, rfl, ha, sub _ _ hb, by rw [ka.length, kb.length]; exact small_line hz, q _ _ .non (ka.app kb)⟩
  · cases e
def gPop (ds : List D) : Option (D × List D) := match ds[ds.length - 1]? with
  | some y => some (y, ds.dropLast)
  | none => none
theorem RpAll.dropLast {G : Hp} {us : List V} {ds : List D} (k : RpAll c G us ds) : RpAll c G us.dropLast ds.dropLast := by
  rw [List.dropLast_eq_take, List.dropLast_eq_take, k.length]
  exact k.take _
theorem md_pop : Mth0Den c rPop gPop := by
  intro G H Q a us ds z es ha ka e q
  unfold gPop at e
  split at e
  · rename_i y ey
    cases e
    obtain ⟨w, ew, hw⟩ := ka.get ey
    exact ⟨a, us, w, rfl, rfl, ha, by rw [ka.length]; exact ew, q _ _ hw ka.dropLast⟩
  · cases e
def gPopAt (ds : List D) (y : D) : Option (D × List D) := match y with
  | .int i => if 0 ≤ i ∧ i < ds.length then match ds[i.toNat]? with
      | some x => if small ds.length then some (x, ds.eraseIdx i.toNat) else none
      | none => none
    else none
  | _ => none
theorem RpAll.eraseIdx {G : Hp} : ∀ {us : List V} {ds : List D} (i : Nat), RpAll c G us ds → RpAll c G (us.eraseIdx i) (ds.eraseIdx i)
  | _, _, _, .nil => .nil
  | _, _, 0, .cons _ k => k
  | _, _, i + 1, .cons h k => .cons h (RpAll.eraseIdx i k)
theorem md_popAt : MthDen c rPopAt gPopAt := by
  intro G H Q a us ds y z v es sub ha ka hv e q
  cases y <;> first | cases e | skip
  rename_i i
  have e : (if 0 ≤ i ∧ i < ds.length then match ds[i.toNat]? with
      | some x => if small ds.length then some (x, ds.eraseIdx i.toNat) else none
      | none => none
    else none) = some (z, es) := e
  split at e
  · rename_i hi
    split at e
    · rename_i x ex
      split at e
      · rename_i hz
        cases e
        cases hv
        obtain ⟨w, ew, hw⟩ := ka.get ex
        have hz := of_decide_eq_true hz
        refine ⟨a, us, i, i.toNat, w, rfl, rfl, ha, by omega, by omega, ?_, ew, q _ _ hw (ka.eraseIdx _)⟩
        rw [ka.length]
        unfold seqIndex?
        first
          | (rw [if_neg (by omega)]; simp; omega)
          | (simp; omega)
      · cases e
    · cases e
  · cases e
/-- x[e] = v, x a name -/
def gmItem (i : Nat) (fe : M S) : D → M Unit := fun x ρ => if ownL ρ i then (dv fe ρ).then fun y ρ1 => match ρ1[i]?, y with
    | some (some (.o b (.lst ds))), .int k => match ixN ds.length k with
      | some j => .ok () (ρ1.set i (some (.o b (.lst (ds.set j x)))))
      | none => .stuck
    | _, _ => .stuck
  else .stuck
theorem dg_item (h : Den c W te fe) : DenG c W (gSub (tVar i) te rSetL) (gmItem i fe) [] := fun B ts vs ρ σ H x v Q r q => by
  unfold gmItem at q
  split at q
  · rename_i ho
    obtain ⟨a, us, ev, ha⟩ := ownL_at ho r
    rw [post_then] at q
    refine ⟨.ref a, ev, h.dv r (q.imp (fun y ρ1 q1 w H1 r1 => ?_) fun _ _ h => h.drop.toP)⟩
    split at q1
    · rename_i b ds k e1
      split at q1
      · rename_i j ej
        obtain ⟨G, o1, o2, kk, h1, h2⟩ := id r1
        obtain ⟨a', ev', ⟨us', ha', ka⟩, hmem, hb⟩ := h2.getO e1
        rw [ev] at ev'
        cases ev'
        cases h1 with
        | d hw h1 =>
          cases hw
          cases h1 with
          | d hv h1 =>
            refine ⟨a, us', k, j, rfl, rfl, ha', by rw [ka.length]; exact ej, q1 σ _ ⟨rfl, fun _ _ => rfl⟩ ?_⟩
            have nd := kk.nd
            rw [List.nodup_append] at nd
            exact ⟨G, o1, o2, kk.write (List.mem_append_right _ hmem) ha' (.lst _), h1.mono (fun _ _ e => e) fun q hq => upd_ne fun z => nd.2.2 q hq a hmem z, h2.write nd.2.1 e1 ev (fun q hq => upd_ne hq) ⟨_, upd_same, ka.set j hv⟩⟩
      · exact q1.elim
    · exact q1.elim
  · exact q.elim
end
end Fx
/-! syntax and what it makes of a state -/
namespace Fx
open PySem PySem.Spec PyProof.Rows L2
open C8 (Cal Mak pe_c pe_mk)
structure QE (X : Cx) (c : Cfg) (W : WX) (e : Expr) (t : TE) (f : M S) : Prop where
  pe : PE X e t
  dn : Den c W t f
structure QT (X : Cx) (c : Cfg) (W : WX) (e : Expr) (t : TT) (f : M Bool) : Prop where
  pe : PT X e t
  dn : DenT c W t f
structure QW (X : Cx) (c : Cfg) (W : WX) (e : Expr) (t : TT) (f : M Bool) : Prop where
  pe : PW X e t
  dn : DenT c W t f
structure QA (X : Cx) (c : Cfg) (W : WX) (es : List Expr) (t : TA) (f : M (List D)) : Prop where
  pe : PA X es t
  dn : DenA c W t f
structure QC (X : Cx) (c : Cfg) (W : WX) (es : List Expr) (i j : Nat) (t : TA) (f : M (List D)) : Prop where
  pe : PA X es t
  dn : DenC c W t i j f
structure QI (X : Cx) (c : Cfg) (W : WX) (tg e : Expr) (t : TI) (f : M (List D)) : Prop where
  pe : PI X tg e t
  dn : DenI c W t f
structure QG (X : Cx) (c : Cfg) (W : WX) (e : Expr) (t : TG) (F : D → M Unit) (js : List Nat) : Prop where
  pe : PG X e t
  dn : DenG c W t F js
structure QGs (X : Cx) (c : Cfg) (W : WX) (es : List Expr) (t : TGs) (F : List D → M Unit) (js : List Nat) : Prop where
  pe : PGs X es t
  dn : DenGs c W t F js
structure QO (X : Cx) (c : Cfg) (W : WX) (e : Option Expr) (t : TO) (f : M (Option Int)) : Prop where
  pe : PO X e t
  dn : DenO c W t f
structure QS (X : Cx) (c : Cfg) (W : WX) (s : Stmt) (t : TS) (F : M Fl) : Prop where
  pe : PS X s t
  dn : DenS c W t F
structure QSs (X : Cx) (c : Cfg) (W : WX) (s : List Stmt) (t : TS) (F : M Fl) : Prop where
  pe : PSs X s t
  dn : DenS c W t F
section
variable {X : Cx} {c : Cfg} {W : WX} {a b e d : Expr} {es : List Expr} {fa fb fe fd : M S} {fA : M (List D)} {ft fu : M Bool} {pos p p2 : Pos} {k : Nat} {ta tb te td : TE} {tA : TA} {tt tu : TT}
/-! ### expressions -/
theorem qv (i : Nat) {x : Str} (hN : X.N[i]? = some x := by rfl) (hv : Vis X.env.scope x := by first | exact Or.inl rfl | exact Or.inr (Or.inl rfl) | exact Or.inr (Or.inr rfl)) (hd : (x == ("__debug__" : Str)) = false := by decide)
    (hcd : (x == ("__classdict__" : Str)) = false := by decide) : QE X c W (.Name x pos) (tVar i) (mVar i) := ⟨pe_var hN hv hd hcd, den_var⟩
theorem qint {i j} : QE X c W (.Constant (.int i) j pos) (tC (.int i)) (mC (.int i)) := ⟨pe_int, den_c fun _ => .int _⟩
theorem qbl {i j} : QE X c W (.Constant (.bool i) j pos) (tC (.bl i)) (mC (.bl i)) := ⟨pe_bl, den_c fun _ => .bl _⟩
theorem qnon {j} : QE X c W (.Constant .none j pos) (tC .non) (mC .non) := ⟨pe_non, den_c fun _ => .non⟩
theorem qty {x : Str} {n : String} (hm : X.mg x = none) (hg : Gl X x := by rfl) (hv : bootBuiltins x = some (.type n) := by decide +kernel) (hn : x ≠ "__name__" := by decide) (hd : (x == ("__debug__" : Str)) = false := by decide) : QE X c W (.Name x pos) (tC (.ty n)) (mC (.ty n)) := ⟨pe_bltn (v := .ty n) hg hm hv rfl hn hd, den_c fun _ => .ty _⟩
theorem qk {x : Str} {i : Int} (h : ∃ t, X.mg x = some (Value.int i t)) (hg : Gl X x := by rfl) (hd : (x == ("__debug__" : Str)) = false := by decide) : QE X c W (.Name x pos) (tC (.int i)) (mC (.int i)) := by
  obtain ⟨t, h⟩ := h
  exact ⟨pe_glob (v := .int i) hg h ⟨t, rfl⟩ hd, den_c fun _ => .int _⟩
theorem q_add (ha : QE X c W a ta fa) (hb : QE X c W b tb fb) (hK : X.K = c.K := by rfl) : QE X c W (.BinOp a .Add b pos) (tOp (rAddG c.K) ta tb) (mOp gAdd fa fb) := by
  obtain ⟨h1, h2⟩ := ha; obtain ⟨k1, k2⟩ := hb
  exact ⟨hK ▸ pe_op op_addG h1 k1, den_op od_add h2 k2⟩
theorem q_sub (ha : QE X c W a ta fa) (hb : QE X c W b tb fb) : QE X c W (.BinOp a .Sub b pos) (tOp (rI0 fun i j => .int (i - j)) ta tb) (mOp gMinus fa fb) := by
  obtain ⟨h1, h2⟩ := ha; obtain ⟨k1, k2⟩ := hb
  exact ⟨pe_op op_sub h1 k1, den_op od_sub h2 k2⟩
theorem q_mul (ha : QE X c W a ta fa) (hb : QE X c W b tb fb) : QE X c W (.BinOp a .Mult b pos) (tOp rMulG ta tb) (mOp gMul fa fb) := by
  obtain ⟨h1, h2⟩ := ha; obtain ⟨k1, k2⟩ := hb
  exact ⟨pe_op op_mulG h1 k1, den_op od_mul h2 k2⟩
theorem q_mod (ha : QE X c W a ta fa) (hb : QE X c W b tb fb) : QE X c W (.BinOp a .Mod b pos) (tOp (rI (fun _ j => 0 < j) fun i j => .int (i % j)) ta tb) (mOp gMod fa fb) := by
  obtain ⟨h1, h2⟩ := ha; obtain ⟨k1, k2⟩ := hb
  exact ⟨pe_op op_mod h1 k1, den_op od_mod h2 k2⟩
theorem q_fdiv (ha : QE X c W a ta fa) (hb : QE X c W b tb fb) : QE X c W (.BinOp a .FloorDiv b pos) (tOp (rI CDiv fun i j => .int (i / j)) ta tb) (mOp gDiv fa fb) := by
  obtain ⟨h1, h2⟩ := ha; obtain ⟨k1, k2⟩ := hb
  exact ⟨pe_op op_fdiv h1 k1, den_op od_div h2 k2⟩
theorem q_pow (ha : QE X c W a ta fa) (hb : QE X c W b tb fb) : QE X c W (.BinOp a .Pow b pos) (tOp (rI CPow fun i j => .int (i ^ j.toNat)) ta tb) (mOp gPow fa fb) := by
  obtain ⟨h1, h2⟩ := ha; obtain ⟨k1, k2⟩ := hb
  exact ⟨pe_op op_pow h1 k1, den_op od_pow h2 k2⟩
theorem q_neg (ha : QE X c W a ta fa) : QE X c W (.UnaryOp .USub a pos) (tUn (rU fun i => .int (-i)) ta) (mUn gNeg fa) := by
  obtain ⟨h1, h2⟩ := ha
  exact ⟨pe_un un_neg h1, den_un ud_neg h2⟩
/-- an operator of comparison -/
structure QR (X : Cx) (c : Cfg) (op : CmpOp) (r : R2) (g : D → D → Option S) : Prop where
  pe : OpR X (compareOp op) r
  dn : OpDen c r g
  mono : ∀ x y H (Q Q' : VK), (∀ v H', Q v H' → Q' v H') → r x y H Q → r x y H Q'
theorem r_lt : QR X c .Lt (rI0 fun i j => .bl (decide (i < j))) gLt := ⟨op_lt, od_BB, fun x y H Q Q' h ⟨i, j, e1, e2, q⟩ => ⟨i, j, e1, e2, h _ _ q⟩⟩
theorem r_le : QR X c .LtE (rI0 fun i j => .bl (decide (i ≤ j))) gLe := ⟨op_le, od_BB, fun x y H Q Q' h ⟨i, j, e1, e2, q⟩ => ⟨i, j, e1, e2, h _ _ q⟩⟩
theorem r_gt : QR X c .Gt (rI0 fun i j => .bl (decide (j < i))) gGt := ⟨op_gt, od_BB, fun x y H Q Q' h ⟨i, j, e1, e2, q⟩ => ⟨i, j, e1, e2, h _ _ q⟩⟩
theorem r_ge : QR X c .GtE (rI0 fun i j => .bl (decide (j ≤ i))) gGe := ⟨op_ge, od_BB, fun x y H Q Q' h ⟨i, j, e1, e2, q⟩ => ⟨i, j, e1, e2, h _ _ q⟩⟩
theorem un66 {A : Around} (hr : Room k A) : A.units + 66 < cLine := by
  have := hr.un
  omega
theorem r_eq (hr : Room k X.A) (hK : X.K = c.K := by rfl) : QR X c .Eq (rEqP c.K false) gEq := ⟨hK ▸ op_eqP (un66 hr), od_eq, fun x y H Q Q' h ⟨d, e, a1, a2, a3, a4, a5, q⟩ => ⟨d, e, a1, a2, a3, a4, a5, h _ _ q⟩⟩
theorem r_ne (hr : Room k X.A) (hK : X.K = c.K := by rfl) : QR X c .NotEq (rEqP c.K true) gNe := ⟨hK ▸ op_neP (un66 hr), od_ne, fun x y H Q Q' h ⟨d, e, a1, a2, a3, a4, a5, q⟩ => ⟨d, e, a1, a2, a3, a4, a5, h _ _ q⟩⟩
theorem r_in (hr : Room k X.A) (hK : X.K = c.K := by rfl) : QR X c .In (rInP c.K false) gIn := ⟨hK ▸ op_inP (un66 hr), od_in, fun x y H Q Q' h ⟨d, e, a1, a2, a3, a4, a5, q⟩ => ⟨d, e, a1, a2, a3, a4, a5, h _ _ q⟩⟩
theorem r_nin (hr : Room k X.A) (hK : X.K = c.K := by rfl) : QR X c .NotIn (rInP c.K true) gNotIn := ⟨hK ▸ op_ninP (un66 hr), od_in, fun x y H Q Q' h ⟨d, e, a1, a2, a3, a4, a5, q⟩ => ⟨d, e, a1, a2, a3, a4, a5, h _ _ q⟩⟩
theorem r_is : QR X c .Is (fun x y H Q => y = .non ∧ Q (.bl (decide (x = .non))) H) gIsN := ⟨op_isN, od_isN, fun x y H Q Q' h ⟨a1, q⟩ => ⟨a1, h _ _ q⟩⟩
theorem r_nis : QR X c .IsNot (fun x y H Q => y = .non ∧ Q (.bl (!decide (x = .non))) H) gNotN := ⟨op_notN, od_notN, fun x y H Q Q' h ⟨a1, q⟩ => ⟨a1, h _ _ q⟩⟩
theorem q_cmp {op : CmpOp} {g : D → D → Option S} {r : R2} (ho : QR X c op r g) (ha : QE X c W a ta fa) (hb : QE X c W b tb fb) (hm : behindInMarks op b = false := by first | exact nomark _ | with_unfolding_all rfl) : QE X c W (.Compare a [op] [b] pos) (tOp r ta tb) (mOp g fa fb) := by
  obtain ⟨h1, h2⟩ := ha; obtain ⟨k1, k2⟩ := hb; obtain ⟨r1, r2, _⟩ := ho
  exact ⟨pe_cmpR r1 h1 k1 hm, den_op r2 h2 k2⟩
theorem t_cmp {op : CmpOp} {g : D → D → Option S} {r : R2} (ho : QR X c op r g) (ha : QE X c W a ta fa) (hb : QE X c W b tb fb) (hm : behindInMarks op b = false := by first | exact nomark _ | with_unfolding_all rfl) : QT X c W (.Compare a [op] [b] pos) (tTest (tOp r ta tb)) (mTest (mOp g fa fb)) := by
  obtain ⟨h1, h2⟩ := ha; obtain ⟨k1, k2⟩ := hb; obtain ⟨r1, r2, _⟩ := ho
  exact ⟨pt_cmpR r1 h1 k1 hm, dt_test (den_op r2 h2 k2)⟩
theorem q_chain {op op' : CmpOp} {g g' : D → D → Option S} {r r' : R2} (ho : QR X c op r g) (ho' : QR X c op' r' g') (ha : QE X c W a ta fa) (hb : QE X c W b tb fb) (he : QE X c W e te fe) (hm : lastMarks [op, op'] [b, e] = false := by with_unfolding_all rfl) : QE X c W (.Compare a [op, op'] [b, e] pos) (tChain r r' ta tb te) (mChain g g' fa fb fe) := by
  obtain ⟨h1, h2⟩ := ha; obtain ⟨k1, k2⟩ := hb; obtain ⟨l1, l2⟩ := he; obtain ⟨r1, r2, m⟩ := ho; obtain ⟨s1, s2, _⟩ := ho'
  exact ⟨pe_chain r1 s1 h1 k1 l1 hm, den_chain r2 s2 m h2 k2 l2⟩
theorem t_val (he : QE X c W e te fe) (h : ∀ whole, isTrue e X.env whole = (do let v ← whole; standAt e.pos; holding [v] (truthy v)) := by intro _; rfl) : QT X c W e (tB te) (mTest fe) := by
  obtain ⟨h1, h2⟩ := he
  exact ⟨pt_val h1 h, dt_B h2⟩
theorem t_tru (he : QE X c W e te fe) (h : ∀ whole, isTrue e X.env whole = (do let v ← whole; standAt e.pos; holding [v] (truthy v)) := by intro _; rfl) (hK : X.K = c.K := by rfl) : QT X c W e (tTru c.K te) (mTruth fe) := by
  obtain ⟨h1, h2⟩ := he
  have h3 : PT X e (tTru X.K te) := pt_truth h1 h
  exact ⟨hK ▸ h3, dt_truth h2⟩
theorem t_truO (i : Nat) {x : Str} (hN : X.N[i]? = some x := by rfl) (hv : Vis X.env.scope x := by first | exact Or.inl rfl | exact Or.inr (Or.inl rfl) | exact Or.inr (Or.inr rfl)) (hd : (x == ("__debug__" : Str)) = false := by decide)
    (hcd : (x == ("__classdict__" : Str)) = false := by decide) (h : ∀ whole, isTrue (.Name x pos) X.env whole = (do let v ← whole; standAt (Expr.Name x pos).pos; holding [v] (truthy v)) := by intro _; rfl) (hK : X.K = c.K := by rfl) : QT X c W (.Name x pos) (tTru c.K (tVar i)) (mTruthO i) := by
  have h3 : PT X (.Name x pos) (tTru X.K (tVar i)) := pt_truth (pe_var hN hv hd hcd) h
  exact ⟨hK ▸ h3, dt_truthO⟩
theorem t_not (h : QT X c W a tt ft) : QT X c W (.UnaryOp .Not a pos) (tNot tt) (mNot ft) := by
  obtain ⟨h1, h2⟩ := h
  exact ⟨pt_not h1, dt_not h2⟩
theorem w_and1 (h : QT X c W a tt ft) : QW X c W (.BoolOp .And [a] pos) tt ft := by
  obtain ⟨h1, h2⟩ := h
  exact ⟨pw_and1 h1, h2⟩
theorem w_or1 (h : QT X c W a tt ft) : QW X c W (.BoolOp .Or [a] pos) tt ft := by
  obtain ⟨h1, h2⟩ := h
  exact ⟨pw_or1 h1, h2⟩
theorem w_and (h : QT X c W a tt ft) (k : QW X c W (.BoolOp .And (b :: es) pos) tu fu) : QW X c W (.BoolOp .And (a :: b :: es) pos) (tAnd tt tu) (mAnd ft fu) := by
  obtain ⟨h1, h2⟩ := h; obtain ⟨k1, k2⟩ := k
  exact ⟨pw_and h1 k1, dt_and h2 k2⟩
theorem w_or (h : QT X c W a tt ft) (k : QW X c W (.BoolOp .Or (b :: es) pos) tu fu) : QW X c W (.BoolOp .Or (a :: b :: es) pos) (tOr tt tu) (mOr ft fu) := by
  obtain ⟨h1, h2⟩ := h; obtain ⟨k1, k2⟩ := k
  exact ⟨pw_or h1 k1, dt_or h2 k2⟩
theorem QW.t (h : QW X c W a tt ft) : QT X c W a tt ft := by
  obtain ⟨h1, h2⟩ := h
  exact ⟨h1.pt, h2⟩
theorem q_one {op} (h : QE X c W a ta fa) : QE X c W (.BoolOp op [a] pos) ta fa := by
  obtain ⟨h1, h2⟩ := h
  exact ⟨pe_one h1, h2⟩
theorem q_and (h : QE X c W a ta fa) (k : QE X c W (.BoolOp .And (b :: es) pos) tb fb) : QE X c W (.BoolOp .And (a :: b :: es) pos) (tAndV ta tb) (mAndV fa fb) := by
  obtain ⟨h1, h2⟩ := h; obtain ⟨k1, k2⟩ := k
  exact ⟨pe_and h1 k1, den_andV h2 k2⟩
theorem q_not (h : QE X c W a ta fa) : QE X c W (.UnaryOp .Not a pos) (tNotV ta) (mNotV fa) := by
  obtain ⟨h1, h2⟩ := h
  exact ⟨pe_not h1, den_notV h2⟩
theorem q_if (h : QT X c W d tt ft) (ha : QE X c W a ta fa) (hb : QE X c W b tb fb) : QE X c W (.IfExp d a b pos) (tIf tt ta tb) (mIf ft fa fb) := by
  obtain ⟨h1, h2⟩ := h; obtain ⟨k1, k2⟩ := ha; obtain ⟨l1, l2⟩ := hb
  exact ⟨pe_ifExp h1 k1 l1, den_if h2 k2 l2⟩
theorem a_nil : QA X c W [] tNil aNil := ⟨pa_nil, den_nil⟩
theorem a_cons (h : QE X c W e te fe) (k : QA X c W es tA fA) (hs : starEach (e :: es) X.env = (false, eval e X.env) :: starEach es X.env := by rfl) : QA X c W (e :: es) (tCons te tA) (aCons fe fA) := by
  obtain ⟨h1, h2⟩ := h; obtain ⟨k1, k2⟩ := k
  exact ⟨pa_cons h1 k1 hs, den_cons h2 k2⟩
theorem c_own (i : Nat) {x : Str} (k : QA X c W es tA fA) (hN : X.N[i]? = some x := by rfl) (hv : Vis X.env.scope x := by first | exact Or.inl rfl | exact Or.inr (Or.inl rfl) | exact Or.inr (Or.inr rfl)) (hd : (x == ("__debug__" : Str)) = false := by decide)
    (hcd : (x == ("__classdict__" : Str)) = false := by decide) (hs : starEach (.Name x pos :: es) X.env = (false, eval (.Name x pos) X.env) :: starEach es X.env := by rfl) : QC X c W (.Name x pos :: es) i 0 (tCons (tVar i) tA) (aOwn i fA) := by
  obtain ⟨k1, k2⟩ := k
  exact ⟨pa_cons (pe_var hN hv hd hcd) k1 hs, dc_own k2⟩
theorem q_tup {x1} (h : QA X c W es tA fA) : QE X c W (.Tuple es x1 pos) (tTupN tA) (mTup fA) := by
  obtain ⟨h1, h2⟩ := h
  exact ⟨pe_tupN h1, den_tup h2⟩
theorem q_lst (h : QA X c W es tA fA) : QE X c W (.List es pos) (tLst tA) (mLst fA) := by
  obtain ⟨h1, h2⟩ := h
  exact ⟨pe_lst h1, den_lst h2⟩
theorem q_ix (ha : QE X c W a ta fa) (hb : QE X c W b tb fb) (hs : PlainIx b := by exact fun _ _ => rfl) (hK : X.K = c.K := by rfl) : QE X c W (.Subscript a b pos) (tOp (rIx c.K) ta tb) (mOp gIx fa fb) := by
  obtain ⟨h1, h2⟩ := ha; obtain ⟨k1, k2⟩ := hb
  exact ⟨hK ▸ pe_ix ix_seq h1 k1 hs, den_op od_ix h2 k2⟩
theorem q_ixO (i : Nat) {x : Str} (hb : QE X c W b tb fb) (hN : X.N[i]? = some x := by rfl) (hv : Vis X.env.scope x := by first | exact Or.inl rfl | exact Or.inr (Or.inl rfl) | exact Or.inr (Or.inr rfl)) (hd : (x == ("__debug__" : Str)) = false := by decide)
    (hcd : (x == ("__classdict__" : Str)) = false := by decide) (hs : PlainIx b := by exact fun _ _ => rfl) (hK : X.K = c.K := by rfl) : QE X c W (.Subscript (.Name x p) b pos) (tOp (rIx c.K) (tVar i) tb) (mIxO i fb) := by
  obtain ⟨k1, k2⟩ := hb
  exact ⟨hK ▸ pe_ix ix_seq (pe_var hN hv hd hcd) k1 hs, den_ixO k2⟩
theorem o_none : QO X c W none tNoPart oNone := ⟨po_none, do_none⟩
theorem o_some (h : QE X c W e te fe) : QO X c W (some e) (tPart te) (oSome fe) := by
  obtain ⟨h1, h2⟩ := h
  exact ⟨po_some h1, do_some h2⟩
theorem q_sl {lo hi : Option Expr} {fl fh : M (Option Int)} {tl th : TO} (h : QE X c W e te fe) (hl : QO X c W lo tl fl) (hh : QO X c W hi th fh) (hK : X.K = c.K := by rfl) : QE X c W (.Subscript e (.Slice lo hi none p2) pos) (tSl (rSlG c.K) te tl th) (mSl fe fl fh) := by
  obtain ⟨h1, h2⟩ := h; obtain ⟨k1, k2⟩ := hl; obtain ⟨l1, l2⟩ := hh
  exact ⟨hK ▸ pe_slice sl_G h1 k1 l1, den_sl h2 k2 l2⟩
/-! ### calls -/
theorem q_call {x : Str} {F : Fn} {j : Nat} (C : Cal X.prog X.w c.K X.mg X.base k x (spF c F) []) (hr : Room j X.A) (hk : k ≤ j) (ha : QA X c W (e :: es) tA fA) (hg : Gl X x := by rfl) (hK : X.K = c.K := by rfl)
    (hdb : (x == ("__debug__" : Str)) = false := by decide) (he : starEach (e :: es) X.env = (false, eval e X.env) :: starEach es X.env := by rfl) (hpl : (backTo pos (starEach es X.env)).any (·.1) = false := by rfl) : QE X c W (.Call (.Name x p) (e :: es) [] pos) (tCall (spF c F) [] C8.E0 tA) (mCall F fA) := by
  obtain ⟨h1, h2⟩ := ha
  exact ⟨pe_c (hK ▸ C) hr hk hg h1 hdb he hpl, den_call h2⟩
theorem q_callO {x : Str} {F : Fn} {j i l : Nat} (C : Cal X.prog X.w c.K X.mg X.base k x (spF c F) []) (hr : Room j X.A) (hk : k ≤ j) (ha : QC X c W (e :: es) i l tA fA) (hg : Gl X x := by rfl) (hK : X.K = c.K := by rfl)
    (hdb : (x == ("__debug__" : Str)) = false := by decide) (he : starEach (e :: es) X.env = (false, eval e X.env) :: starEach es X.env := by rfl) (hpl : (backTo pos (starEach es X.env)).any (·.1) = false := by rfl) : QE X c W (.Call (.Name x p) (e :: es) [] pos) (tCall (spF c F) [] C8.E0 tA) (mCallO F i l fA) := by
  obtain ⟨h1, h2⟩ := ha
  exact ⟨pe_c (hK ▸ C) hr hk hg h1 hdb he hpl, den_callO h2⟩
/-- a built-in by its name -/
structure QB (X : Cx) (c : Cfg) (x : Str) (r : List V → Hp → VK → Prop) (g : List D → Option S) : Prop where
  ex : (∃ id, CallR X (.builtin id) r ∧ bootBuiltins x = some (.builtin id)) ∨ (∃ T, CallR X (.type T) r ∧ bootBuiltins x = some (.type T))
  dn : CbDen c r g
theorem q_blt {x : Str} {g : List D → Option S} {r : List V → Hp → VK → Prop} (B : QB X c x r g) (hm : X.mg x = none) (ha : QA X c W (e :: es) tA fA) (hg : Gl X x := by rfl) (hn : x ≠ "__name__" := by decide)
    (hdb : (x == ("__debug__" : Str)) = false := by decide) (he : starEach (e :: es) X.env = (false, eval e X.env) :: starEach es X.env := by rfl) (hpl : (backTo pos (starEach es X.env)).any (·.1) = false := by rfl) : QE X c W (.Call (.Name x p) (e :: es) [] pos) (tCB r tA) (mCB g fA) := by
  obtain ⟨h1, h2⟩ := ha
  rcases B.ex with ⟨id, r1, r2⟩ | ⟨T, r1, r2⟩
  · exact ⟨pe_callB r1 hg hm r2 h1 hn hdb he hpl, den_cb B.dn h2⟩
  · exact ⟨pe_callTy r1 hg hm r2 h1 hn hdb he hpl, den_cb B.dn h2⟩
theorem b_len (hK : X.K = c.K := by rfl) : QB X c "len" (rLenG c.K) gLen := ⟨.inl ⟨_, hK ▸ cr_lenG, PySem.boot_len⟩, cd_len⟩
theorem b_tuple (hK : X.K = c.K := by rfl) : QB X c "tuple" (rTupN c.K) gTuple := ⟨.inr ⟨_, hK ▸ call_tupN, by decide +kernel⟩, cd_tuple⟩
theorem b_list (hK : X.K = c.K := by rfl) : QB X c "list" (fun xs H Q => ∃ p ys, xs = [.ref p] ∧ (SqL c.K H p ys ∨ SqT c.K H p ys) ∧ ∀ l, H l = none → Q (.ref l) (upd H l (.lst ys))) gList := ⟨.inr ⟨_, hK ▸ call_list_of, by decide +kernel⟩, cd_list⟩
theorem b_all (hc : X.calm = true := by rfl) (hK : X.K = c.K := by rfl) : QB X c "all" (rAll c.K) gAll := ⟨.inl ⟨_, hK ▸ cr_all hc, by decide +kernel⟩, cd_all⟩
theorem b_any (hc : X.calm = true := by rfl) (hK : X.K = c.K := by rfl) : QB X c "any" (rAny c.K) gAny := ⟨.inl ⟨_, hK ▸ cr_any hc, by decide +kernel⟩, cd_any⟩
theorem b_isi (hK : X.K = c.K := by rfl) : QB X c "isinstance" (rIsi c.K) gIsi := ⟨.inl ⟨_, hK ▸ call_isi, by decide +kernel⟩, cd_isi⟩
end
end Fx
/-! statements and what they make of a state -/
namespace Fx
open PySem PySem.Spec PyProof.Rows L2
open C8 (Cal Mak pe_c pe_mk)
section
variable {X : Cx} {c : Cfg} {W : WX} {a b e d tg it : Expr} {es : List Expr} {fa fb fe fd : M S} {fA fI : M (List D)} {ft fu : M Bool} {pos p p2 apos cpos : Pos} {k : Nat} {st : Stmt} {ss rs : List Stmt} {F G : M Fl} {g : D → M Unit} {gs : List D → M Unit} {js js' : List Nat} {ta tb te td : TE} {tA : TA} {tt tu : TT} {tgt : TG} {tgs : TGs} {wi : TI} {t u : TS}
/-! ### targets -/
theorem g_name (i : Nat) {x : Str} (hN : X.N.Nodup) (hi : X.N[i]? = some x := by rfl) (hx : Loc X.env.scope x := by first | exact Or.inl rfl | exact Or.inr rfl) (hf : X.fn x = true ∨ X.env.scope.names.lookup x = some .local := by first | exact Or.inl rfl | exact Or.inr rfl) : QG X c W (.Name x pos) (gName i) (gmName i) [i] := ⟨pg_name hN hi hx hf, dg_name⟩
theorem gs_nil : QGs X c W [] gNil gmNil [] := ⟨pgs_nil, dgs_nil⟩
theorem gs_cons (h : QG X c W e tgt g js) (k : QGs X c W es tgs gs js') (hs : (assignEach (e :: es) X.env).map (·.2) = assign e X.env :: (assignEach es X.env).map (·.2) := by rfl) : QGs X c W (e :: es) (gCons tgt tgs) (gmCons g gs) (js ++ js') := by
  obtain ⟨h1, h2⟩ := h; obtain ⟨k1, k2⟩ := k
  exact ⟨pgs_cons h1 k1 hs, dgs_cons h2 k2⟩
theorem g_tup (n : Nat) {kk : Nat} (h : QGs X c W es tgs gs js) (hc : X.calm = true := by rfl) (hn : (assignEach es X.env).length = n := by rfl) (hst : (assignEach es X.env).findIdx? (·.1) = none := by rfl) (hK : X.K = c.K := by rfl) : QG X c W (.Tuple es kk pos) (gTup c.K n tgs) (gmTup n gs) js := by
  obtain ⟨h1, h2⟩ := h
  exact ⟨hK ▸ pg_tup hc h1 hn hst, dg_tup h2⟩
theorem g_item (i : Nat) {x : Str} (h : QE X c W e te fe) (hN : X.N[i]? = some x := by rfl) (hv : Vis X.env.scope x := by first | exact Or.inl rfl | exact Or.inr (Or.inl rfl) | exact Or.inr (Or.inr rfl)) (hd : (x == ("__debug__" : Str)) = false := by decide)
    (hcd : (x == ("__classdict__" : Str)) = false := by decide)
    (ha : ∀ v, assign (.Subscript (.Name x p) e pos) X.env v = (do
      let ov ← holding [v] (eval (.Name x p) X.env)
      let iv ← holding [v, ov] (eval e X.env)
      standAt pos
      holding [v, ov, iv] (setItem ov iv v)
      release [v, ov, iv] []) := by intro _; rfl) : QG X c W (.Subscript (.Name x p) e pos) (gSub (tVar i) te rSetL) (gmItem i fe) [] := by
  obtain ⟨h1, h2⟩ := h
  exact ⟨pg_sub (pe_var hN hv hd hcd) h1 set_list ha, dg_item h2⟩
/-! ### blocks -/
theorem ss_nil : QSs X c W [] tNext mNx := ⟨pss_nil, ds_nx⟩
theorem ss_cons (h : QS X c W st t F) (k : QSs X c W ss u G) : QSs X c W (st :: ss) (tSeq t u) (mSeq F G) := by
  obtain ⟨h1, h2⟩ := h; obtain ⟨k1, k2⟩ := k
  exact ⟨pss_cons h1 k1, ds_seq h2 k2⟩
theorem ss_one (h : QS X c W st t F) : QSs X c W [st] t F := by
  obtain ⟨h1, h2⟩ := h
  exact ⟨pss_one h1, h2⟩
theorem ss_never : QSs X c W ss tNever mSt := ⟨pss_never, ds_never⟩
theorem s_ret (h : QE X c W e te fe) : QS X c W (.Return (some e) pos) (tRet te) (mRet fe) := by
  obtain ⟨h1, h2⟩ := h
  exact ⟨ps_ret h1, ds_ret h2⟩
theorem ds_retO {i : Nat} : DenS c W (tRet (tVar i)) (mRetO i) := fun B ts vs ρ σ H D r q => by
  unfold mRetO at q
  split at q
  · rename_i x e
    obtain ⟨G, o1, o2, kk, h1, h2⟩ := id r
    obtain ⟨a, own', ev, hc, hb, h3, m1, m2, m3, m4⟩ := h2.takeO e
    have nd := kk.nd
    rw [List.nodup_append] at nd
    obtain ⟨n4, n5⟩ := m4 nd.2.1
    refine ⟨.ref a, ev, q _ σ H ⟨G, a :: o1, own', kk.subO (fun p hp => ?_) ?_, .o hc (fun _ e => nomatch e) h1, h3⟩⟩
    · rcases List.mem_append.mp hp with hp | hp
      · rcases List.mem_cons.mp hp with rfl | hp
        · exact List.mem_append_right _ m3
        · exact List.mem_append_left _ hp
      · exact List.mem_append_right _ (m2 p hp)
    · rw [List.cons_append, List.nodup_cons, List.nodup_append]
      refine ⟨fun hm => ?_, nd.1, n4, fun x hx y hy => nd.2.2 x hx y (m2 y hy)⟩
      rcases List.mem_append.mp hm with hm | hm
      · exact nd.2.2 a hm a m3 rfl
      · exact n5 hm
  · rename_i x e
    obtain ⟨v, e1, r1⟩ := r.var e
    exact ⟨v, e1, q v σ H r1⟩
  · exact q.elim
theorem s_retO (i : Nat) {x : Str} (hN : X.N[i]? = some x := by rfl) (hv : Vis X.env.scope x := by first | exact Or.inl rfl | exact Or.inr (Or.inl rfl) | exact Or.inr (Or.inr rfl)) (hd : (x == ("__debug__" : Str)) = false := by decide)
    (hcd : (x == ("__classdict__" : Str)) = false := by decide) : QS X c W (.Return (some (.Name x p)) pos) (tRet (tVar i)) (mRetO i) := ⟨ps_ret (pe_var hN hv hd hcd), ds_retO⟩
theorem s_if (h : QT X c W d tt ft) (k : QSs X c W ss t F) (l : QSs X c W rs u G) : QS X c W (.If d ss rs pos) (tIfS tt t u) (mIfS ft F G) := by
  obtain ⟨h1, h2⟩ := h; obtain ⟨k1, k2⟩ := k; obtain ⟨l1, l2⟩ := l
  exact ⟨ps_if h1 k1 l1, ds_if h2 k2 l2⟩
theorem s_expr (h : QE X c W e te fe) (hs : swapsWith e none pos.line X.env = pure false := by rfl) : QS X c W (.Expr e pos) (tDrop te) (mDrop fe) := by
  obtain ⟨h1, h2⟩ := h
  exact ⟨ps_expr h1 hs, ds_drop h2⟩
theorem s_set (i : Nat) {x : Str} (hN : X.N.Nodup) (h : QE X c W e te fe) (hi : X.N[i]? = some x := by rfl) (hx : Loc X.env.scope x := by first | exact Or.inl rfl | exact Or.inr rfl) (hs : swapsWith e (some (.Name x p)) pos.line X.env = pure false := by rfl) (hf : X.fn x = true ∨ X.env.scope.names.lookup x = some .local := by first | exact Or.inl rfl | exact Or.inr rfl) :
    QS X c W (.Assign [.Name x p] e pos) (tAsg te (gName i)) (mAsg fe (gmName i)) := by
  obtain ⟨h1, h2⟩ := h
  exact ⟨ps_set hN hi hx h1 hs hf, ds_asg h2 dg_name⟩
theorem s_setO (i : Nat) {x : Str} (hN : X.N.Nodup) (h : QE X c W e te fe) (hi : X.N[i]? = some x := by rfl) (hx : Loc X.env.scope x := by first | exact Or.inl rfl | exact Or.inr rfl) (hs : swapsWith e (some (.Name x p)) pos.line X.env = pure false := by rfl) (hf : X.fn x = true ∨ X.env.scope.names.lookup x = some .local := by first | exact Or.inl rfl | exact Or.inr rfl) :
    QS X c W (.Assign [.Name x p] e pos) (tAsg te (gName i)) (mAsgO i fe) := by
  obtain ⟨h1, h2⟩ := h
  exact ⟨ps_set hN hi hx h1 hs hf, ds_asgO h2⟩
theorem s_asg (h : QE X c W e te fe) (k : QG X c W tg tgt g js) (hs : swapsWithSole [tg] e pos.line X.env = pure false := by rfl) (hw : swappedStores [tg] e X.env = pure none := by rfl)
    (h1 : (assignEach [tg] X.env).map (·.2) = [assign tg X.env] := by rfl) : QS X c W (.Assign [tg] e pos) (tAsg te tgt) (mAsg fe g) := by
  obtain ⟨h2, h3⟩ := h; obtain ⟨k1, k2⟩ := k
  exact ⟨ps_asg h2 k1 hs hw h1, ds_asg h3 k2⟩
/-! ### loops -/
theorem s_for (hp : PassesOwn (model X.prog X.w) X.A X.env X.xe) (h : QI X c W tg it wi fI) (k : QG X c W tg tgt g js) (l : QSs X c W ss t F) (hc : X.calm = true := by rfl) (hs : ∀ x, foldedSetIterable it X.env x = pure x := by intro _; rfl) : QS X c W (.For tg it ss [] pos) (tFor wi tgt t) (mFor fI g F) := by
  obtain ⟨h1, h2⟩ := h; obtain ⟨k1, k2⟩ := k; obtain ⟨l1, l2⟩ := l
  exact ⟨ps_for hp hc h1 k1 l1 hs, ds_for h2 k2 l2⟩
theorem s_while (n : Nat) (hp : PassesOwn (model X.prog X.w) X.A X.env X.xe) (h : QT X c W d tt ft) (l : QSs X c W ss t F) : QS X c W (.While d ss [] pos) (tWhile tt t) (mWhile ft F n) := by
  obtain ⟨h1, h2⟩ := h; obtain ⟨l1, l2⟩ := l
  exact ⟨ps_while hp h1 l1, ds_while h2 l2⟩
/-! ### what is walked -/
theorem i_seq (h : QE X c W e te fe) (hK : X.K = c.K := by rfl) : QI X c W tg e (iSeqT c.K te) (iSeq fe) := by
  obtain ⟨h1, h2⟩ := h
  have h3 : PI X tg e (iSeqT X.K te) := PI.or (pi_list h1) (pi_tup h1)
  exact ⟨hK ▸ h3, di_seq h2⟩
theorem i_range1 (hm : X.mg "range" = none) (h : QA X c W [a] tA fA) (hg : Gl X "range" := by rfl) (hs : starEach [a] X.env = [(false, eval a X.env)] := by rfl) : QI X c W tg (.Call (.Name "range" p) [a] [] pos) (iRng1 tA) (iRange1 fA) := by
  obtain ⟨h1, h2⟩ := h
  exact ⟨pi_range1 hg hm h1 hs, di_range1 h2⟩
theorem i_range2 (hm : X.mg "range" = none) (h : QA X c W [a, b] tA fA) (hg : Gl X "range" := by rfl) (hs : starEach [a, b] X.env = [(false, eval a X.env), (false, eval b X.env)] := by rfl) (hs2 : starEach [b] X.env = [(false, eval b X.env)] := by rfl) : QI X c W tg (.Call (.Name "range" p) [a, b] [] pos) (iRng2 tA) (iRange2 fA) := by
  obtain ⟨h1, h2⟩ := h
  exact ⟨pi_range2 hg hm h1 hs hs2, di_range2 h2⟩
end
section
variable {X : Cx} {c : Cfg} {W : WX} {a b : Expr} {fA : M (List D)} {tA : TA} {es : List Expr} {kk : Nat} {tpos pos p : Pos}
theorem i_enum (hm : X.mg "enumerate" = none) (h : QA X c W [a] tA fA) (hg : Gl X "enumerate" := by rfl) (hK : X.K = c.K := by rfl) (hs : starEach [a] X.env = [(false, eval a X.env)] := by rfl) : QI X c W (.Tuple es kk tpos) (.Call (.Name "enumerate" p) [a] [] pos) (iEnumG c.K tA) (iEnu fA) := by
  obtain ⟨h1, h2⟩ := h
  have h3 : PI X (.Tuple es kk tpos) (.Call (.Name "enumerate" p) [a] [] pos) (iEnumG X.K tA) := PI.or (pi_enum hg hm h1 hs) (Rw.pi_enumT hg hm h1 hs)
  exact ⟨hK ▸ h3, di_enu h2⟩
end
/-! ### comprehensions -/
/-- a test of a comprehension, none or one -/
structure QTs (X : Cx) (c : Cfg) (W : WX) (es : List Expr) (t : TT) (f : M Bool) : Prop where
  pe : PTs X es t
  dn : DenT c W t f
/-- the place of a comprehension's own names -/
abbrev Blk (X : Cx) (scope : Scope) (s : Shared) (H : Hp) (C : Addr) (cl : List (Str × Addr)) (fp : List Addr) : Cx := X.blk s H scope (compEnvC scope cl C X.env) fp
section
variable {X : Cx} {c : Cfg} {W : WX} {tg it elt tg1 it1 : Expr} {ifs ifs1 : List Expr} {fI fI1 : M (List D)} {g g1 : D → M Unit} {js js1 : List Nat} {ft ft1 : M Bool} {fe : M S} {scope : Scope} {own : List (Str × Nat)} {vs1 : List Nat} {pos spos py : Pos} {wi wi1 : TI} {tgt tgt1 : TG} {tt tt1 : TT} {te : TE}
theorem ts_nil : QTs X c W [] tYes mYes := ⟨pts_nil, dt_yes⟩
theorem ts_one {e : Expr} (h : QT X c W e tt ft) : QTs X c W [e] tt ft := by
  obtain ⟨h1, h2⟩ := h
  exact ⟨pts_one h1, h2⟩
theorem anyPlace (c : Cfg) (P : Shared → Hp → Addr → List (Str × Addr) → List Addr → Prop) (h : ∀ s H C cl fp, P s H C cl fp) : ∃ s H C cl fp, P s H C cl fp := ⟨({} : Shared), fun _ => none, 0, [], [], h _ _ _ _ _⟩
theorem q_lc (hN : X.N.Nodup) (hI : QI X c W tg it wi fI) (hB : BlkOk X.N X.env.scope scope own) (hG : ∀ s H C cl fp, QG (Blk X scope s H C cl fp) c W0 tg tgt g js) (hT : ∀ s H C cl fp, QTs (Blk X scope s H C cl fp) c W0 ifs tt ft)
    (hE : ∀ s H C cl fp, QE (Blk X scope s H C cl fp) c W0 elt te fe) (hj : ∀ j ∈ js, j ∈ own.map (·.2) := by decide) (hc : X.calm = true := by rfl) (hs : ∀ x, foldedSetIterable it X.env x = pure x := by intro _; rfl) :
    QE X c W (.ListComp elt [{ target := tg, iter := it, ifs := ifs, is_async := 0 }] scope pos) (tLc wi tgt tt te (own.map (·.2))) (mLc fI g ft fe (own.map (·.2))) := by
  obtain ⟨h1, h2⟩ := hI
  obtain ⟨s, H, C, cl, fp, g2, t2, e2⟩ := anyPlace c _ fun s H C cl fp => And.intro (hG s H C cl fp).dn (And.intro (hT s H C cl fp).dn (hE s H C cl fp).dn)
  exact ⟨pe_lc hc hN h1 hB (fun s H C cl fp => (hG s H C cl fp).pe) (fun s H C cl fp => (hT s H C cl fp).pe) (fun s H C cl fp => (hE s H C cl fp).pe) hs, den_lc h2 g2 t2 e2 hj⟩
theorem s_setLc (i : Nat) {y : Str} (hN : X.N.Nodup) (hI : QI X c W tg it wi fI) (hB : BlkOk X.N X.env.scope scope own) (hG : ∀ s H C cl fp, QG (Blk X scope s H C cl fp) c W0 tg tgt g js) (hT : ∀ s H C cl fp, QTs (Blk X scope s H C cl fp) c W0 ifs tt ft)
    (hE : ∀ s H C cl fp, QE (Blk X scope s H C cl fp) c W0 elt te fe) (hj : ∀ j ∈ js, j ∈ own.map (·.2) := by decide) (hc : X.calm = true := by rfl) (hi : X.N[i]? = some y := by rfl) (hy : X.env.scope.names.lookup y = some .local := by rfl)
    (hw : swapsWith (.ListComp elt [{ target := tg, iter := it, ifs := ifs, is_async := 0 }] scope pos) (some (.Name y py)) spos.line X.env = pure true := by rfl) (hs : ∀ x, foldedSetIterable it X.env x = pure x := by intro _; rfl) :
    QS X c W (.Assign [.Name y py] (.ListComp elt [{ target := tg, iter := it, ifs := ifs, is_async := 0 }] scope pos) spos) (tAsg (tLc wi tgt tt te (own.map (·.2))) (gName i)) (mAsg (mLc fI g ft fe (own.map (·.2))) (gmName i)) := by
  obtain ⟨h1, h2⟩ := hI
  obtain ⟨s, H, C, cl, fp, g2, t2, e2⟩ := anyPlace c _ fun s H C cl fp => And.intro (hG s H C cl fp).dn (And.intro (hT s H C cl fp).dn (hE s H C cl fp).dn)
  exact ⟨ps_setLc hc hN hi hy hw h1 hB (fun s H C cl fp => (hG s H C cl fp).pe) (fun s H C cl fp => (hT s H C cl fp).pe) (fun s H C cl fp => (hE s H C cl fp).pe) hs, ds_asg (den_lc h2 g2 t2 e2 hj) dg_name⟩
end
end Fx
/-! lambdas: made, handed on, called -/
namespace Fx
open PySem PySem.Spec PyProof.Rows L2
open C8 (Cal Mak pe_c pe_mk)
open LamX (Tabs TabS TabB ExtN CodeO codeO_ne)
def runL (np nN : Nat) (fe : M S) : Fn := fun args => if args.length = np then fe (args.map some ++ List.replicate (nN - np) none) else .stuck
theorem spF_len {c : Cfg} {F : Fn} {n : Nat} (hF : ∀ args, args.length ≠ n → F args = .stuck) {vs : List V} {H : Hp} {Q : VK} {E : XK} (h : spF c F vs H Q E) : vs.length = n := by
  obtain ⟨B, ts, ws, args, r, p⟩ := h
  obtain ⟨G, o1, o2, k, h1, h2⟩ := r
  have e := h2.length
  rw [List.length_map, List.length_map] at e
  by_cases ha : args.length = n
  · omega
  · rw [hF _ ha] at p
    exact p.elim
section
variable {P : Program} {w : World} {mg : Str → Option Value} {base : Heap}
/-- a def that makes a lambda -/
structure FunC (K : PySem.W.Frag) (x qual : Str) (st : Stmt) (f : Addr) (fd : FuncData) (c : Addr) : Prop where
  ex : ∃ (oc : Value) (od : Option Addr) (kV doc pm : Value) (an : Option Addr) (ct : Value) (osl : Array (Option Value)),
    fd = PySem.W.fnOf x qual (defArgs st) (defBody st) (defScope st) .none kV doc pm an (.ref c) ct ∧ K.lookup f = some ⟨oc, od, .func fd, osl⟩ ∧ PySem.W.codeIn K (.ref c) qual = true
  kp : PySem.W.keepIn K (.ref f) = true
theorem fnC_den {c : Cfg} {cc : Addr} {x qual : Str} {st : Stmt} {f : Addr} {fd : FuncData} {N ps : List Str} {k : Nat} {body : M Fl} (F : FunC c.K x qual st f fd cc) (Sc : FnScope N ps (defScope st))
    (hbody : ∀ (A : Around) (outer : List Env) (s : Shared) (H : Hp) (E : XK), Room k (A.deeper (envOfC qual (defScope st) s.heap.objs.size f (.ref cc))) →
      ∃ t, PSs (cxOf L2.CX0 P w c.K mg base N qual (defScope st) f (.ref cc) A outer s H E).nox (defBody st) t ∧ DenS c W0 t body) : FnOk P w c.K mg base L2.CX0 (k + 1) f fd ps (spF c (runF ps.length N.length body)) := by
  have len : ∀ vs H Q E, spF c (runF ps.length N.length body) vs H Q E → vs.length = ps.length := fun vs H Q E h => spF_len (fun args ha => if_neg ha) h
  obtain ⟨oc, od, kV, doc, pm, an, ct, osl, rfl, lk, hcd⟩ := F.ex
  refine fn_of lk hcd Sc len fun A outer s H vs Q E hr h => ?_
  have hl := len vs H Q E h
  obtain ⟨B, ts, ws, args, r, p⟩ := h
  obtain ⟨t, h1, h2⟩ := hbody A outer s H E hr
  refine ⟨t, h1.nox, ?_⟩
  unfold runF at p
  split at p
  · rename_i ha
    have r2 := r.slots (N.length - ps.length)
    have e1 : vs.map some ++ List.replicate (N.length - ps.length) none = L2.start N vs := by
      unfold L2.start
      rw [hl]
    rw [e1] at r2
    refine h2 B ts ws _ _ H _ r2 ?_
    cases hb : body (args.map some ++ List.replicate (N.length - ps.length) none) with
    | stuck => rw [hb] at p; exact p.elim
    | err e ρ => rw [hb] at p; exact p.elim
    | ok f ρ =>
      rw [hb] at p
      cases f with
      | rt s => exact fun v σ' H' r' => p v σ' H' r'
      | nx => exact fun σ' H' r' => p .non σ' H' (Rep.repl (ds := []) (us := []) r' rfl fun G _ => .non)
      | bk => exact p.elim
      | ct => exact p.elim
  · exact p.elim
end
section
variable {c : Cfg} {W : WX} {B : Base} {G H : Hp} {ts : En} {vs : List (Option V)} {ρ : En} {σ : L2.St}
theorem Cell.at_ {a : Addr} {x : D} (hc : Cell c G H a x) : ∃ u, H a = some u ∧ isCell u := by
  cases x with
  | lst ds =>
    obtain ⟨vs, h, k⟩ := hc
    exact ⟨_, h, .lst _⟩
  | ins n ds =>
    obtain ⟨dx, fs, h, hn, k⟩ := hc
    exact ⟨_, h, .ins _ _ _⟩
  | dct ks ds =>
    obtain ⟨o, kv, us, h, d, k1, k2⟩ := hc
    have : ∃ es ep, o.data = .dict es ep := by cases d <;> assumption
    obtain ⟨es, ep, e⟩ := this
    exact ⟨_, h, .xd _ _ es ep e⟩
  | xo b o => exact ⟨_, hc.2.1, hc.2.2⟩
  | tup ds =>
    obtain ⟨vs, o, h, d, k⟩ := hc
    exact ⟨_, h, .frz _ _⟩
  | _ => exact hc.elim
theorem LsAll.at_ : ∀ {bs : List Addr} {dss : List (List D)}, LsAll c G H bs dss → ∀ p ∈ bs, ∃ u, H p = some u ∧ isCell u
  | _, _, .nil, p, hp => by simp at hp
  | _, _, .cons h _ l, p, hp => by
    rcases List.mem_cons.mp hp with rfl | hp
    · exact ⟨_, h, .lst _⟩
    · exact LsAll.at_ l p hp
theorem QCell.at_ {a : Addr} {ks : List D} {dss : List (List D)} {os : Owns} (h : QCell c B G H a ks dss os) : ∀ p ∈ os, ∃ u, H p = some u ∧ isCell u := fun p hp => by
  rcases h with ⟨kvs, bs, rfl, h1, _, _, h4⟩ | ⟨n, ds, p, dk, dv, dx, fs, b, o, kv, us, vs, rfl, rfl, rfl, h1, h2, h3, h4, h5, h6, h7, h8, h9⟩ | ⟨ks', o, kv, bs, rfl, rfl, h1, h2, h3, h4⟩
  · rcases List.mem_cons.mp hp with rfl | hp
    · exact ⟨_, h1, .dK _⟩
    · exact h4.at_ p hp
  · simp only [List.mem_cons, List.not_mem_nil, or_false] at hp
    rcases hp with rfl | rfl
    · exact ⟨_, h1, .ins _ _ _⟩
    · have : ∃ es ep, o.data = .dict es ep := by
        cases h6 <;> assumption
      obtain ⟨es, ep, e⟩ := this
      exact ⟨_, h5, .xd _ _ es ep e⟩
  · rcases List.mem_cons.mp hp with rfl | hp
    · have : ∃ es ep, o.data = .dict es ep := by
        cases h2 <;> assumption
      obtain ⟨es, ep, e⟩ := this
      exact ⟨_, h1, .xd _ _ es ep e⟩
    · exact h4.at_ p hp
theorem Sl.cellAt : ∀ {es : En} {vs : List (Option V)} {own : Owns}, Sl c B G H es vs own → ∀ p ∈ own, ∃ u, H p = some u ∧ isCell u
  | _, _, _, .nil, p, hp => by simp at hp
  | _, _, _, .skip k, p, hp => k.cellAt p hp
  | _, _, _, .d _ k, p, hp => k.cellAt p hp
  | _, _, _, .o h _ k, p, hp => by
    rcases List.mem_cons.mp hp with rfl | hp
    · exact h.at_
    · exact k.cellAt p hp
  | _, _, _, .q h k, p, hp => by
    rcases List.mem_append.mp hp with hp | hp
    · exact h.at_ p hp
    · exact k.cellAt p hp
end
end Fx
/-! more words: int, sorted, sums, borrowed operands, methods, several names at once -/
namespace Fx
open PySem PySem.Spec PyProof.Rows L2
open C8 (Cal Mak pe_c pe_mk)
/-! ### ints of a list -/
def intsD : List D → Option (List Int)
  | [] => some []
  | .int i :: ds => (intsD ds).map (i :: ·)
  | _ => none
theorem RpAll.ints {c : Cfg} {G : Hp} : ∀ {us : List V} {ds : List D} {ns : List Int}, intsD ds = some ns → RpAll c G us ds → us = ns.map V.int
  | _, [], _, e, h => by cases e; cases h; rfl
  | _, d :: ds, ns, e, h => by
    cases d <;> first | cases e | skip
    rename_i i
    cases h with
    | cons h1 h2 =>
      cases h1
      have e : (intsD ds).map (i :: ·) = some ns := e
      cases e2 : intsD ds with
      | none => rw [e2] at e; cases e
      | some ms =>
        rw [e2] at e
        cases e
        rw [RpAll.ints e2 h2]
        rfl
theorem RpAll.ofInts {c : Cfg} {G : Hp} : ∀ ns : List Int, RpAll c G (ns.map V.int) (ns.map D.int)
  | [] => .nil
  | i :: ns => .cons (.int i) (RpAll.ofInts ns)
def ins (i : Int) : List Int → List Int
  | [] => [i]
  | j :: js => if i ≤ j then i :: j :: js else j :: ins i js
def isort : List Int → List Int
  | [] => []
  | i :: is => ins i (isort is)
theorem ins_perm (i : Int) : ∀ js : List Int, (ins i js).Perm (i :: js)
  | [] => .refl _
  | j :: js => by
    unfold ins
    split
    · exact .refl _
    · exact ((ins_perm i js).cons j).trans (.swap i j js)
theorem isort_perm : ∀ is : List Int, (isort is).Perm is
  | [] => .refl _
  | i :: is => (ins_perm i _).trans ((isort_perm is).cons i)
theorem ins_pw (i : Int) : ∀ {js : List Int}, js.Pairwise (· ≤ ·) → (ins i js).Pairwise (· ≤ ·)
  | [], _ => by simp [ins]
  | j :: js, h => by
    unfold ins
    split
    · rename_i hij
      refine List.pairwise_cons.mpr ⟨fun k hk => ?_, h⟩
      rcases List.mem_cons.mp hk with rfl | hk
      · exact hij
      · exact Int.le_trans hij ((List.pairwise_cons.mp h).1 k hk)
    · rename_i hij
      refine List.pairwise_cons.mpr ⟨fun k hk => ?_, ins_pw i (List.pairwise_cons.mp h).2⟩
      have := (ins_perm i js).mem_iff.mp hk
      rcases List.mem_cons.mp this with rfl | hk
      · omega
      · exact (List.pairwise_cons.mp h).1 k hk
theorem isort_pw : ∀ is : List Int, (isort is).Pairwise (· ≤ ·)
  | [] => .nil
  | i :: is => ins_pw i (isort_pw is)
theorem isort_eq {ns ms : List Int} (p : ms.Perm ns) (h : ms.Pairwise (· ≤ ·)) : ms = isort ns :=
  List.Perm.eq_of_pairwise (fun a b _ _ h1 h2 => Int.le_antisymm h1 h2) h (isort_pw ns) (p.trans (isort_perm ns).symm)
def gSorted : List D → Option S
  | [.lst ds] => (intsD ds).map fun ns => .o none (.lst ((isort ns).map D.int))
  | _ => none
theorem cd_sorted {c : Cfg} : CbDen c (rSortedI c.K) gSorted := by
  intro B ts vs ρ σ H Q ds us s hl r e q
  match ds, hl, r, e with
  | [.lst ds], hl, r, e =>
    obtain ⟨v, rfl, G, O, h⟩ := r.one' hl
    obtain ⟨a, xs, rfl, ha, ka⟩ := h.lstE
    have e : (intsD ds).map (fun ns => S.o none (.lst ((isort ns).map D.int))) = some s := e
    cases e2 : intsD ds with
    | none => rw [e2] at e; cases e
    | some ns =>
      rw [e2] at e
      cases e
      rw [RpAll.ints e2 ka] at ha
      refine ⟨a, ns, rfl, SqL.of (O.sub _ _ ha), fun ns' p pm pw hp => ?_⟩
      rw [isort_eq pm pw]
      exact q _ _ (O.newO hp fun H' e => ⟨_, e, RpAll.ofInts _⟩)
/-! ### int, min, max, sum -/
def gInt1 : List D → Option S
  | [.int i] => ok1 (.int i)
  | [.bl b] => ok1 (.int (if b = true then 1 else 0))
  | _ => none
theorem cd_int {c : Cfg} : CbDen c (fun xs H Q => (∃ i, xs = [V.int i] ∧ Q (V.int i) H) ∨ ∃ k, xs = [V.bl k] ∧ Q (V.int (if k = true then 1 else 0)) H) gInt1 := by
  intro B ts vs ρ σ H Q ds us s hl r e q
  match ds, hl, r, e with
  | [.int i], hl, r, e =>
    cases e
    obtain ⟨v, rfl, G, O, h⟩ := r.one' hl
    cases h
    exact .inl ⟨i, rfl, q _ _ (O.val (.int _))⟩
  | [.bl b], hl, r, e =>
    cases e
    obtain ⟨v, rfl, G, O, h⟩ := r.one' hl
    cases h
    exact .inr ⟨b, rfl, q _ _ (O.val (.int _))⟩
section
variable {X : Cx} {c : Cfg}
theorem b_int : QB X c "int" (fun xs H Q => (∃ i, xs = [V.int i] ∧ Q (V.int i) H) ∨ ∃ k, xs = [V.bl k] ∧ Q (V.int (if k = true then 1 else 0)) H) gInt1 := ⟨.inr ⟨_, call_int1, by decide +kernel⟩, cd_int⟩
theorem b_sorted (hK : X.K = c.K := by rfl) : QB X c "sorted" (rSortedI c.K) gSorted := ⟨.inl ⟨_, hK ▸ cr_sortedI, by decide +kernel⟩, cd_sorted⟩
end
/-! ### an operand that is a name's cell, lent -/
section
variable {X : Cx} {c : Cfg} {W : WX} {a b e : Expr} {es : List Expr} {fa fb fe : M S} {pos p p2 apos cpos : Pos} {k : Nat} {ta tb te : TE}
variable {op : CmpOp} {g : D → D → Option S} {r : R2} {x : Str}
/-! ### methods of a name's list, its length -/
theorem q_append (i : Nat) (he : QE X c W e te fe) (hN : X.N[i]? = some x := by rfl) (hv : Vis X.env.scope x := by first | exact Or.inl rfl | exact Or.inr (Or.inl rfl) | exact Or.inr (Or.inr rfl)) (hd : (x == ("__debug__" : Str)) = false := by decide)
    (hcd : (x == ("__classdict__" : Str)) = false := by decide) (hbase : attributeBase (.Name x p) "append" X.env (eval (.Name x p) X.env) = eval (.Name x p) X.env := by rfl)
    (hfew : ((backTo cpos (starEach [e] X.env)).all (fun y => !y.1) && (backToKw cpos (keywordEach [] X.env)).all (fun y => y.1.isSome) && decide ([e].length + ([] : List Keyword).length + (if ([] : List Keyword).isEmpty then 0 else 1) < 30)) = true := by rfl) (hline : (apos.endLine == cpos.line) = true := by rfl)
    (hs : starEach [e] X.env = (false, eval e X.env) :: starEach [] X.env := by rfl) (hplain : (backTo cpos (starEach [] X.env)).any (·.1) = false := by rfl) (hK : X.K = c.K := by rfl) :
    QE X c W (.Call (.Attribute (.Name x p) "append" apos) [e] [] cpos) (tBM c.K "list" rAppend (tVar i) (tCons te tNil)) (mMeth1 i gApp fe) := by
  obtain ⟨h1, h2⟩ := he
  exact ⟨hK ▸ pe_bm PySem.F.plainAttrs_list PySem.F.slot_list_append PySem.F.type_list_append mt_append (pe_var hN hv hd hcd) (pa_cons h1 pa_nil hs) hbase hfew hline hs hplain, den_meth1 md_app h2⟩
theorem q_extend (i : Nat) (he : QE X c W e te fe) (hN : X.N[i]? = some x := by rfl) (hv : Vis X.env.scope x := by first | exact Or.inl rfl | exact Or.inr (Or.inl rfl) | exact Or.inr (Or.inr rfl)) (hd : (x == ("__debug__" : Str)) = false := by decide)
    (hcd : (x == ("__classdict__" : Str)) = false := by decide) (hbase : attributeBase (.Name x p) "extend" X.env (eval (.Name x p) X.env) = eval (.Name x p) X.env := by rfl)
    (hfew : ((backTo cpos (starEach [e] X.env)).all (fun y => !y.1) && (backToKw cpos (keywordEach [] X.env)).all (fun y => y.1.isSome) && decide ([e].length + ([] : List Keyword).length + (if ([] : List Keyword).isEmpty then 0 else 1) < 30)) = true := by rfl) (hline : (apos.endLine == cpos.line) = true := by rfl)
    (hs : starEach [e] X.env = (false, eval e X.env) :: starEach [] X.env := by rfl) (hplain : (backTo cpos (starEach [] X.env)).any (·.1) = false := by rfl) (hK : X.K = c.K := by rfl) :
    QE X c W (.Call (.Attribute (.Name x p) "extend" apos) [e] [] cpos) (tBM c.K "list" rExtend (tVar i) (tCons te tNil)) (mMeth1 i gExt fe) := by
  obtain ⟨h1, h2⟩ := he
  exact ⟨hK ▸ pe_bm PySem.F.plainAttrs_list PySem.F.slot_list_extend PySem.F.type_list_extend mt_extend (pe_var hN hv hd hcd) (pa_cons h1 pa_nil hs) hbase hfew hline hs hplain, den_meth1 md_ext h2⟩
theorem q_popAt (i : Nat) (he : QE X c W e te fe) (hN : X.N[i]? = some x := by rfl) (hv : Vis X.env.scope x := by first | exact Or.inl rfl | exact Or.inr (Or.inl rfl) | exact Or.inr (Or.inr rfl)) (hd : (x == ("__debug__" : Str)) = false := by decide)
    (hcd : (x == ("__classdict__" : Str)) = false := by decide) (hbase : attributeBase (.Name x p) "pop" X.env (eval (.Name x p) X.env) = eval (.Name x p) X.env := by rfl)
    (hfew : ((backTo cpos (starEach [e] X.env)).all (fun y => !y.1) && (backToKw cpos (keywordEach [] X.env)).all (fun y => y.1.isSome) && decide ([e].length + ([] : List Keyword).length + (if ([] : List Keyword).isEmpty then 0 else 1) < 30)) = true := by rfl) (hline : (apos.endLine == cpos.line) = true := by rfl)
    (hs : starEach [e] X.env = (false, eval e X.env) :: starEach [] X.env := by rfl) (hplain : (backTo cpos (starEach [] X.env)).any (·.1) = false := by rfl) (hK : X.K = c.K := by rfl) :
    QE X c W (.Call (.Attribute (.Name x p) "pop" apos) [e] [] cpos) (tBM c.K "list" rPopAt (tVar i) (tCons te tNil)) (mMeth1 i gPopAt fe) := by
  obtain ⟨h1, h2⟩ := he
  exact ⟨hK ▸ pe_bm PySem.F.plainAttrs_list PySem.F.slot_list_pop PySem.F.type_list_pop mt_popAt (pe_var hN hv hd hcd) (pa_cons h1 pa_nil hs) hbase hfew hline hs hplain, den_meth1 md_popAt h2⟩
theorem q_pop (i : Nat) (hN : X.N[i]? = some x := by rfl) (hv : Vis X.env.scope x := by first | exact Or.inl rfl | exact Or.inr (Or.inl rfl) | exact Or.inr (Or.inr rfl)) (hd : (x == ("__debug__" : Str)) = false := by decide)
    (hcd : (x == ("__classdict__" : Str)) = false := by decide) (hbase : attributeBase (.Name x p) "pop" X.env (eval (.Name x p) X.env) = eval (.Name x p) X.env := by rfl) (hline : (apos.endLine == cpos.line) = true := by rfl) (hK : X.K = c.K := by rfl) :
    QE X c W (.Call (.Attribute (.Name x p) "pop" apos) [] [] cpos) (tBM0 c.K "list" rPop (tVar i)) (mMeth0 i gPop) :=
  ⟨hK ▸ pe_bm0 PySem.F.plainAttrs_list PySem.F.slot_list_pop PySem.F.type_list_pop mt_pop (pe_var hN hv hd hcd) hbase hline, den_meth0 md_pop⟩
end
end Fx
/-! a, b = x, y and a, b, c = x, y, z -/
namespace Fx
open PySem PySem.Spec PyProof.Rows L2
open C8 (Cal Mak pe_c pe_mk)
abbrev stk (ss : List S) : En := ss.reverse.map some
def DenP (c : Cfg) (W : WX) (tA : TA) (f : M (List S)) : Prop := ∀ B ts vs ρ σ H Q, Rep c B ts vs ρ σ H → Post (fun ss ρ' => ∀ us H', us.length = ss.length → Rep c B (stk ss ++ ts) (tmv us ++ vs) ρ' σ H' → Q us H') (ErrP c W B ts vs σ) (f ρ) → tA σ H Q
def psNil : M (List S) := fun ρ => .ok [] ρ
def psCons (fa : M S) (fr : M (List S)) : M (List S) := fun ρ => (fa ρ).then fun s ρ1 => (fr ρ1).then fun ss ρ2 => .ok (s :: ss) ρ2
def stS (own : Bool) (s : S) : Option S := if own then match s with
    | .o none x => some (.o none x)
    | _ => (toD s).map .d
  else (toD s).map .d
section
variable {c : Cfg} {W : WX} {B : Base} {ts : En} {vs : List (Option V)} {ρ : En} {σ : L2.St} {H : Hp} {ta : TE} {fa : M S} {tr tA : TA} {fr fP : M (List S)}
theorem dp_nil : DenP c W tNil psNil := fun B ts vs ρ σ H Q r h => h [] H rfl r
theorem dp_cons (ha : Den c W ta fa) (hr : DenP c W tr fr) : DenP c W (tCons ta tr) (psCons fa fr) := fun B ts vs ρ σ H Q r q => by
  unfold psCons at q
  rw [post_then] at q
  refine ha B ts vs ρ σ H _ r (q.imp1 fun s ρ1 h v H1 r1 => ?_)
  rw [post_then] at h
  refine hr B _ _ ρ1 σ H1 _ r1 (h.imp (fun ss ρ2 h us H2 hl r2 => ?_) fun _ _ h => h.drop)
  refine h (v :: us) H2 (by simp [hl]) ?_
  unfold stk tmv
  rw [List.reverse_cons, List.map_append, List.reverse_cons, List.map_append, List.append_assoc, List.append_assoc]
  exact r2
theorem Rep.stS {own : Bool} {s s' : S} {v : V} (e : stS own s = some s') (r : Rep c B (some s :: ts) (some v :: vs) ρ σ H) : Rep c B (some s' :: ts) (some v :: vs) ρ σ H := by
  have key : ∀ {s' : S}, (Fx.toD s).map S.d = some s' → Rep c B (some s' :: ts) (some v :: vs) ρ σ H := by
    intro s' e
    cases e2 : Fx.toD s with
    | none => rw [e2] at e; cases e
    | some x =>
      rw [e2] at e
      cases e
      exact r.toD e2
  unfold Fx.stS at e
  split at e
  · split at e
    · cases e
      exact r
    · exact key e
  · exact key e
def mPar2 (i : Nat) (oi : Bool) (j : Nat) (oj : Bool) (fP : M (List S)) : M Fl := fun ρ => (fP ρ).then fun ss ρ1 => match ss with
  | [s, t] => match stS oi s, stS oj t with
    | some s', some t' => .ok .nx ((ρ1.set j (some t')).set i (some s'))
    | _, _ => .stuck
  | _ => .stuck
end
structure QP (X : Cx) (c : Cfg) (W : WX) (es : List Expr) (t : TA) (f : M (List S)) : Prop where
  pe : PA X es t
  dn : DenP c W t f
section
variable {X : Cx} {c : Cfg} {W : WX} {a b d e : Expr} {es : List Expr} {te : TE} {fe : M S} {tA : TA} {fP : M (List S)} {pos : Pos} {oi oj ok : Bool}
theorem ps_nil : QP X c W [] tNil psNil := ⟨pa_nil, dp_nil⟩
theorem ps_cons (h : QE X c W e te fe) (k : QP X c W es tA fP) (hs : starEach (e :: es) X.env = (false, eval e X.env) :: starEach es X.env := by rfl) : QP X c W (e :: es) (tCons te tA) (psCons fe fP) := by
  obtain ⟨h1, h2⟩ := h; obtain ⟨k1, k2⟩ := k
  exact ⟨pa_cons h1 k1 hs, dp_cons h2 k2⟩
end
/-! the same by a tuple (where a name is a cell) -/
section
variable {c : Cfg} {W : WX} {B : Base} {ts : En} {vs : List (Option V)} {ρ : En} {σ : L2.St} {H : Hp} {tA : TA} {fP : M (List S)}
theorem Rep.extra {p : Addr} {o : HO} (r : Rep c B ts vs ρ σ H) (hp : H p = none) (ho : isTbl o = false) : Rep c B ts vs ρ σ (upd H p o) := by
  obtain ⟨G, o1, o2, k, h1, h2⟩ := r
  have gp := k.gnone hp
  have s : ∀ a u, G a = some u → upd G p o a = some u := upd_sub gp
  have e := own_new (o := o) k hp
  exact ⟨_, o1, o2, k.alloc hp ho, h1.mono s fun q hq => e q (List.mem_append_left _ hq), h2.mono s fun q hq => e q (List.mem_append_right _ hq)⟩
theorem ds_parT2 {i j : Nat} {oi oj : Bool} (hij : i ≠ j) (h : DenP c W tA fP) : DenS c W (tAsg (tTup tA) (gTup c.K 2 (gCons (gName i) (gCons (gName j) gNil)))) (mPar2 i oi j oj fP) := fun B ts vs ρ σ H D r q => by
  unfold mPar2 at q
  rw [post_then] at q
  refine h B ts vs ρ σ H _ r (q.imp (fun ss ρ1 q us H1 hl r1 => ?_) fun _ _ h => h.toP)
  match ss, us, hl, q, r1 with
  | [s, t], [v, w], _, q, r1 =>
    dsimp only at q
    split at q
    · rename_i s' t' e1 e2
      refine ⟨(by show 2 ≤ sizeLine; decide), fun p hp => ⟨p, [v, w], rfl, .inl (.inl upd_same), rfl, v, [w], rfl, w, [], rfl, rfl, ?_⟩⟩
      have r2 : Rep c B (some t :: some s :: ts) (some w :: some v :: vs) ρ1 σ H1 := r1
      have r3 := (r2.stS e2).set (i := j)
      have r4 := ((r3.stS e1).set (i := i)).extra (o := .tup [v, w]) hp rfl
      have q : EndP c B ts vs D .nx _ := q
      have e : (σ.set i (some v)).set j (some w) = (σ.set j (some w)).set i (some v) := List.set_comm _ _ hij
      rw [e]
      exact q _ _ r4
    · exact q.elim
end
section
variable {X : Cx} {c : Cfg} {W : WX} {a b d e : Expr} {es : List Expr} {te : TE} {fe : M S} {tA : TA} {fP : M (List S)} {pos : Pos} {oi oj ok : Bool}
theorem s_parT2 (i : Nat) (oi : Bool) (j : Nat) (oj : Bool) {x y : Str} {px py pt : Pos} {kt k2 pt2} (hN : X.N.Nodup) (ha : QP X c W [a, b] tA fP) (hij : i ≠ j := by decide) (hc : X.calm = true := by rfl) (hi : X.N[i]? = some x := by rfl) (hj : X.N[j]? = some y := by rfl)
    (hx : Loc X.env.scope x := by first | exact Or.inl rfl | exact Or.inr rfl) (hy : Loc X.env.scope y := by first | exact Or.inl rfl | exact Or.inr rfl)
    (fx : X.fn x = true ∨ X.env.scope.names.lookup x = some .local := by first | exact Or.inl rfl | exact Or.inr rfl) (fy : X.fn y = true ∨ X.env.scope.names.lookup y = some .local := by first | exact Or.inl rfl | exact Or.inr rfl)
    (hs : swapsWithSole [.Tuple [.Name x px, .Name y py] kt pt] (.Tuple [a, b] k2 pt2) pos.line X.env = pure false := by rfl) (hw : swappedStores [.Tuple [.Name x px, .Name y py] kt pt] (.Tuple [a, b] k2 pt2) X.env = pure none := by rfl)
    (h1 : (assignEach [.Tuple [.Name x px, .Name y py] kt pt] X.env).map (·.2) = [assign (.Tuple [.Name x px, .Name y py] kt pt) X.env] := by rfl) (hn : (assignEach [.Name x px, .Name y py] X.env).length = 2 := by rfl) (hst : (assignEach [.Name x px, .Name y py] X.env).findIdx? (·.1) = none := by rfl)
    (hg : (assignEach [.Name x px, .Name y py] X.env).map (·.2) = assign (.Name x px) X.env :: (assignEach [.Name y py] X.env).map (·.2) := by rfl) (hg2 : (assignEach [.Name y py] X.env).map (·.2) = assign (.Name y py) X.env :: (assignEach [] X.env).map (·.2) := by rfl) (hK : X.K = c.K := by rfl) :
    QS X c W (.Assign [.Tuple [.Name x px, .Name y py] kt pt] (.Tuple [a, b] k2 pt2) pos) (tAsg (tTup tA) (gTup c.K 2 (gCons (gName i) (gCons (gName j) gNil)))) (mPar2 i oi j oj fP) := by
  obtain ⟨h2, h3⟩ := ha
  exact ⟨ps_asg (pe_tup h2) (hK ▸ pg_tup hc (pgs_cons (pg_name hN hi hx fx) (pgs_cons (pg_name hN hj hy fy) pgs_nil hg2) hg) hn hst) hs hw h1, ds_parT2 hij h3⟩
end
end Fx
/-! isinstance of a written pair of types -/
namespace Fx
open PySem PySem.Spec PyProof.Rows L2
def isTy2 (n m : String) (x : D) : Option Bool := match isTy n x with
  | some true => some true
  | some false => isTy m x
  | none => none
def gIsi2 (n m : String) (x : D) : Option S := (isTy2 n m x).bind fun b => ok1 (.bl b)
def mIsi2 (n m : String) (fe : M S) : M S := mUn (gIsi2 n m) fe
end Fx
/-! set(a tuple of ints), its length -/
namespace Rw
open PySem PySem.Spec PyProof.Rows L2
section
variable {X : Cx}
/-- how many unlike ones -/
def Card (ns : List Int) (c : Nat) : Prop := ∃ l : List Int, l.Nodup ∧ (∀ k, k ∈ l ↔ k ∈ ns) ∧ l.length = c
def rSetT (K : PySem.W.Frag) (w : World) : List V → Hp → VK → Prop := fun xs H Q => ∃ (p : Addr) (ns : List Int), xs = [.ref p] ∧ SqT K H p (ns.map V.int) ∧ ns.length ≤ 1000 ∧
  ∀ q c, H q = none → c ≤ ns.length → Card ns c → Q (.ref q) (upd H q (SetO w q (fun j => decide (j ∈ ns)) c))
theorem cr_setT (hc : X.calm = true) : CallR X (.type "set") (rSetT X.K X.w) := by
  rintro pins s σ H xs us Q I r ⟨p, ns, rfl, hS, hn, q⟩
  obtain ⟨u, rfl, ru⟩ := vals1 r
  cases ru
  obtain ⟨its, rv, pt, hz⟩ := I.tuple hS
  have hi : IntsAre its.toArray.toList ns := ints_of_vals rv
  refine call_set_tupI ns (I.ok.hd hc) (show s.heap.IsTuple p its.toArray from pt) hi (by unfold scanBound; omega) fun h' tk c R hcn k => ?_
  have nw : H s.heap.objs.size = none := I.hok.fresh (Nat.le_refl _)
  have cd : Card ns c := by
    obtain ⟨o, es, ep, t, ho, hex, hdt, g, nd, hm, hb, hf, hsz, _⟩ := R
    refine ⟨es.toList.map keyOf, nd, fun j => ?_, ?_⟩
    · rw [← hm j, decide_eq_true_eq]
    · rw [List.length_map, Array.length_toList, hsz]
  exact ⟨.ref s.heap.objs.size, _, I.laid (t' := tk) k (Nat.le_refl _) (setO_new R), rfl, q _ c nw hcn cd⟩
end
end Rw
/-! sorted lists without repetition, the products' mirrors -/
namespace Rw
/-- u is what is in ls, ascending, once each -/
def Srt (u ls : List Int) : Prop := u.Pairwise (· < ·) ∧ ∀ k, k ∈ u ↔ k ∈ ls
theorem pw_nodup : ∀ {u : List Int}, u.Pairwise (· < ·) → u.Nodup
  | [], _ => List.nodup_nil
  | a :: u, h => by
    rw [List.pairwise_cons] at h
    rw [List.nodup_cons]
    exact ⟨fun m => Int.lt_irrefl _ (h.1 a m), pw_nodup h.2⟩
theorem srt_inj : ∀ {u v : List Int}, u.Pairwise (· < ·) → v.Pairwise (· < ·) → (∀ k, k ∈ u ↔ k ∈ v) → u = v
  | [], [], _, _, _ => rfl
  | [], b :: v, _, _, h => by have := (h b).mpr List.mem_cons_self; cases this
  | a :: u, [], _, _, h => by have := (h a).mp List.mem_cons_self; cases this
  | a :: u, b :: v, p, q, h => by
    rw [List.pairwise_cons] at p q
    have ab : a = b := by
      have h1 := (h a).mp List.mem_cons_self
      have h2 := (h b).mpr List.mem_cons_self
      rcases List.mem_cons.mp h1 with e | m1
      · exact e
      · rcases List.mem_cons.mp h2 with e | m2
        · exact e.symm
        · have := q.1 a m1
          have := p.1 b m2
          omega
    subst ab
    have : u = v := srt_inj p.2 q.2 fun k => by
      constructor
      · intro m
        rcases List.mem_cons.mp ((h k).mp (List.mem_cons_of_mem _ m)) with e | m'
        · have := p.1 k m
          omega
        · exact m'
      · intro m
        rcases List.mem_cons.mp ((h k).mpr (List.mem_cons_of_mem _ m)) with e | m'
        · have := q.1 k m
          omega
        · exact m'
    rw [this]
theorem Srt.inj {u v ls : List Int} (p : Srt u ls) (q : Srt v ls) : u = v := srt_inj p.1 q.1 fun k => (p.2 k).trans (q.2 k).symm
theorem len_sub : ∀ {l m : List Int}, l.Nodup → (∀ k ∈ l, k ∈ m) → l.length ≤ m.length
  | [], m, _, _ => Nat.zero_le _
  | a :: l, m, nd, h => by
    rw [List.nodup_cons] at nd
    have ha := h a List.mem_cons_self
    have := len_sub (l := l) (m := m.erase a) nd.2 fun k hk => by
      have ne : k ≠ a := fun e => nd.1 (e ▸ hk)
      exact (List.mem_erase_of_ne ne).mpr (h k (List.mem_cons_of_mem _ hk))
    have e := List.length_erase_of_mem ha
    have : 0 < m.length := List.length_pos_of_mem ha
    simp only [List.length_cons]
    omega
def ins (x : Int) : List Int → List Int
  | [] => [x]
  | y :: l => if x < y then x :: y :: l else if x = y then y :: l else y :: ins x l
theorem mem_ins {x k : Int} : ∀ {l : List Int}, k ∈ ins x l ↔ k = x ∨ k ∈ l
  | [] => by simp [ins]
  | y :: l => by
    unfold ins
    split
    · simp
    · split
      · rename_i e
        subst e
        simp
      · simp only [List.mem_cons, mem_ins]
        constructor
        · rintro (h | h | h) <;> simp [h]
        · rintro (h | h | h) <;> simp [h]
theorem pw_ins {x : Int} : ∀ {l : List Int}, l.Pairwise (· < ·) → (ins x l).Pairwise (· < ·)
  | [], _ => by simp [ins]
  | y :: l, h => by
    rw [List.pairwise_cons] at h
    unfold ins
    split
    · rename_i c
      rw [List.pairwise_cons, List.pairwise_cons]
      refine ⟨fun k hk => ?_, h⟩
      rcases List.mem_cons.mp hk with e | m
      · rw [e]; exact c
      · have := h.1 k m
        omega
    · split
      · rw [List.pairwise_cons]
        exact h
      · rw [List.pairwise_cons]
        refine ⟨fun k hk => ?_, pw_ins h.2⟩
        rcases mem_ins.mp hk with e | m
        · omega
        · exact h.1 k m
def uniq : List Int → List Int
  | [] => []
  | x :: l => ins x (uniq l)
theorem srt_uniq : ∀ ls, Srt (uniq ls) ls
  | [] => ⟨List.Pairwise.nil, fun _ => Iff.rfl⟩
  | x :: l => by
    obtain ⟨p, m⟩ := srt_uniq l
    refine ⟨pw_ins p, fun k => ?_⟩
    show k ∈ ins x (uniq l) ↔ _
    rw [mem_ins, m k, List.mem_cons]
theorem Srt.len {u ls : List Int} (p : Srt u ls) : u.length ≤ ls.length := len_sub (pw_nodup p.1) fun k hk => (p.2 k).mp hk
/-- the place of a level among the unlike ones -/
def plc (u : List Int) (x : Int) : Nat := u.idxOf x
end Rw
/-! sets of a tuple's ints: sorted, counted; places in a list; the least of a tuple -/
namespace PySem
end PySem
namespace Fx
open PySem PySem.Spec PyProof.Rows L2
/-! ### on data -/
def gSetS (x : D) : Option S := match x with
  | .tup ds => match intsD ds with
    | some ns => if ns.length < 64 then some (.o none (.lst ((Rw.uniq ns).map D.int))) else none
    | none => none
  | _ => none
def tSet (K : PySem.W.Frag) (w : World) (te : TE) : TE := tCB (Rw.rSetT K w) (tCons te tNil)
theorem den_setS {c : Cfg} {W : WX} {w : World} {te : TE} {fe : M S} (h : Den c W te fe) : Den c W (tCB (rSortedSet w) (tCons (tSet c.K w te) tNil)) (mUn gSetS fe) := fun B ts vs ρ σ H Q r q => by
  unfold mUn at q
  rw [post_then] at q
  refine h.dv r (q.imp1 fun x ρ1 q v H1 r1 => ?_)
  unfold gSetS at q
  split at q
  · rename_i s es
    split at es
    · rename_i ds
      split at es
      · rename_i ns en
        split at es
        · rename_i hn
          cases es
          obtain ⟨G, O, hv⟩ := r1.one
          obtain ⟨a, us, rfl, ha, ka⟩ := hv.tupE
          rw [RpAll.ints en ka] at ha
          refine ⟨a, ns, rfl, SqT.up O.sub ha, by omega, fun p n hp hl hc => ?_⟩
          obtain ⟨G2, O2, _⟩ := (r1.foreign (o := SetO w p (fun j => decide (j ∈ ns)) n) hp).one
          refine ⟨p, _, n, rfl, upd_same, by omega, fun ns' p2 pw hm hl' hp2 => ?_⟩
          have e : ns' = Rw.uniq ns := Rw.srt_inj pw (Rw.srt_uniq ns).1 fun k => by rw [hm k, (Rw.srt_uniq ns).2 k, decide_eq_true_eq]
          rw [e]
          exact q _ _ (O2.newO hp2 fun H' e => ⟨_, e, RpAll.ofInts _⟩)
        · cases es
      · cases es
    · cases es
  · exact q.elim
section
variable {X : Cx} {c : Cfg} {W : WX} {e f : Expr} {te tf : TE} {fe ff : M S} {pos p p2 p3 apos cpos : Pos}
theorem q_setS (hm1 : X.mg "sorted" = none) (hm2 : X.mg "set" = none) (he : QE X c W e te fe) (hc : X.calm = true := by rfl) (hg1 : Gl X "sorted" := by rfl) (hg2 : Gl X "set" := by rfl)
    (hs : starEach [.Call (.Name "set" p2) [e] [] p3] X.env = (false, eval (.Call (.Name "set" p2) [e] [] p3) X.env) :: starEach [] X.env := by rfl) (hpl : (backTo pos (starEach [] X.env)).any (·.1) = false := by rfl)
    (hs2 : starEach [e] X.env = (false, eval e X.env) :: starEach [] X.env := by rfl) (hpl2 : (backTo p3 (starEach [] X.env)).any (·.1) = false := by rfl) (hK : X.K = c.K := by rfl) :
    QE X c W (.Call (.Name "sorted" p) [.Call (.Name "set" p2) [e] [] p3] [] pos) (tCB (rSortedSet X.w) (tCons (tSet c.K X.w te) tNil)) (mUn gSetS fe) := by
  obtain ⟨h1, h2⟩ := he
  refine ⟨pe_callB (cr_sortedSet hc) hg1 hm1 (by decide +kernel) (pa_cons (pe_callTy (hK ▸ Rw.cr_setT hc) hg2 hm2 (by decide +kernel) (pa_cons h1 pa_nil hs2) (by decide) (by decide) hs2 hpl2) pa_nil hs) (by decide) (by decide) hs hpl, den_setS h2⟩
end
end Fx
/-! what the printed texts name -/
namespace Fx
open PySem PySem.Spec PyProof.Rows L2
def noS : Stmt := .Pass ⟨0, 0, 0, 0⟩
def noE : Expr := .Name "" ⟨0, 0, 0, 0⟩
def sAt (ss : List Stmt) (i : Nat) : Stmt := ss.getD i noS
def lamQ (q : Str) : Expr → LamS
  | .Lambda params body scope _ => ⟨q, params, body, scope⟩
  | e => ⟨q, default, e, default⟩
theorem QSs.out {X : Cx} {c : Cfg} {W : WX} {ss : List Stmt} {t : TS} {F : M Fl} (h : QSs X c W ss t F) : ∃ t, PSs X ss t ∧ DenS c W t F := ⟨t, h.pe, h.dn⟩
theorem QE.out {X : Cx} {c : Cfg} {W : WX} {e : Expr} {t : TE} {f : M S} (h : QE X c W e t f) : ∃ t, PE X e t ∧ Den c W t f := ⟨t, h.pe, h.dn⟩
end Fx
/-! the law's call -/
namespace Fx
open PySem PySem.Spec PyProof.Rows L2
open C8 (Cal Mak pe_c pe_mk)
open LamX (Tabs TabS TabB ExtN CodeO codeO_ne)
def spLawX (c : Cfg) : Sp := fun vs H Q _ => ∃ (a : Addr) (ns : List Int), vs = [.ref a] ∧ ns.length ≤ 63 ∧ SqL c.K H a (ns.map V.int) ∧ Tabs c.T H ∧ ∀ H', Q (.bl true) H'
def noTbl (H : Hp) : Hp := fun a => match H a with
  | some o => if isTbl o then none else some o
  | none => none
theorem noTbl_sub {H : Hp} : ∀ a o, noTbl H a = some o → H a = some o ∧ isTbl o = false := fun a o e => by
  unfold noTbl at e
  split at e
  · rename_i u h
    split at e
    · cases e
    · rename_i hb
      cases e
      exact ⟨h, by simpa using hb⟩
  · cases e
theorem noTbl_at {H : Hp} {a : Addr} {o : HO} (h : H a = some o) (n : isTbl o = false) : noTbl H a = some o := by
  unfold noTbl
  rw [h]
  simp [n]
theorem law_ok {P : Program} {w : World} {c : Cfg} {mg : Str → Option Value} {base : Heap} {CX : CXT} {k : Nat} {f : Addr} {fd : FuncData} {F : Fn} (pure : ∀ ns : List Int, ns.length ≤ 63 → ∃ ρ, F [.d (.scr ns)] = .ok (.d (.bl true)) ρ)
    (o : FnOk P w c.K mg base CX k f fd ["script"] (spF c F)) : FnOk P w c.K mg base CX k f fd ["script"] (spLawX c) := by
  refine o.imp fun vs H Q E h => ?_
  obtain ⟨a, ns, rfl, hl, hs, hT, q⟩ := h
  obtain ⟨ρ, e⟩ := pure ns hl
  refine ⟨⟨fun _ => none, fun _ => none⟩, [], [], [.d (.scr ns)], ⟨noTbl H, [], [], ⟨fun a o e => (noTbl_sub a o e).1, fun a o e => (noTbl_sub a o e).2, List.nodup_nil, fun p hp => by simp at hp, hT, (fun a o e => nomatch e), (fun a o e => nomatch e)⟩, .nil, .d (.scr ?_) .nil⟩, ?_⟩
  · rcases hs with (h | ⟨o, h⟩) | h
    · exact .inl (.inl (noTbl_at h rfl))
    · exact .inl (.inr ⟨o, noTbl_at h rfl⟩)
    · exact .inr h
  · rw [e]
    intro v σ' H' r
    obtain ⟨G, O, hv⟩ := r.one
    cases hv
    exact q H'
theorem cal_mk {P : Program} {w : World} {K : PySem.W.Frag} {mg : Str → Option Value} {base : Heap} {f : Addr} {fd : FuncData} {x : Str} {st : Stmt} {ps : List Str} {k : Nat} {sp : Sp} (F : Fun K x x st f fd) (hm : mg x = some (.ref f)) (b : Binds K fd ps []) (o : FnOk P w K mg base CX0 k f fd ps sp) : Cal P w K mg base k x sp [] := ⟨f, fd, ps, [], o, hm, F.kp, b, .nil⟩
theorem cal_mkC {P : Program} {w : World} {K : PySem.W.Frag} {mg : Str → Option Value} {base : Heap} {f c : Addr} {fd : FuncData} {x : Str} {st : Stmt} {ps : List Str} {k : Nat} {sp : Sp} (F : FunC K x x st f fd c) (hm : mg x = some (.ref f)) (b : Binds K fd ps []) (o : FnOk P w K mg base CX0 k f fd ps sp) : Cal P w K mg base k x sp [] := ⟨f, fd, ps, [], o, hm, F.kp, b, .nil⟩
theorem FunC.toFun {K : PySem.W.Frag} {x qual : Str} {st : Stmt} {f c : Addr} {fd : FuncData} (F : FunC K x qual st f fd c) : Fun K x qual st f fd := by
  obtain ⟨⟨oc, od, kV, doc, pm, an, ct, osl, e, lk, hcd⟩, kp⟩ := F
  exact ⟨⟨oc, od, kV, doc, pm, an, .ref c, ct, osl, e, lk, hcd⟩, kp⟩
end Fx
/-! defs that raise, try .. except X -/
/-! own errors with fields: the promise of an __init__ that says super().__init__(f'..'), then self.f = f -/
/-! own errors with fields: one field, two fields; raise X(..) -/
/-! try: .. except X as e: the suite knows what e is -/
namespace Fx
open PySem PySem.Spec PyProof.Rows L2
open C8 (Cal Mak pe_c pe_mk)
/-! ### nothing of the exception within -/
mutual
def noX : D → Bool
  | .exc => false
  | .tup ds => noXs ds
  | .lst ds => noXs ds
  | .ins _ ds => noXs ds
  | .dct ks vs => noXs ks && noXs vs
  | .dcq _ vs => noXs vs
  | .non => true
  | .bl _ => true
  | .int _ => true
  | .str _ => true
  | .ty _ => true
  | .scr _ => true
  | .fn _ => true
  | .xo _ _ => true
  | .rng _ _ => true
  | .fu => true
def noXs : List D → Bool
  | [] => true
  | d :: ds => noX d && noXs ds
end
theorem noXs_key : ∀ {kvs : List (Key × V)}, noXs (kvs.map fun p => keyD p.1) = true
  | [] => rfl
  | (.inl i, _) :: r => by
    show (true && noXs (r.map fun p => keyD p.1)) = true
    rw [noXs_key]
    rfl
  | (.inr i, _) :: r => by
    show (true && noXs (r.map fun p => keyD p.1)) = true
    rw [noXs_key]
    rfl
theorem noX_pl : ∀ {p : Option Nat}, noX (plD p) = true
  | none => rfl
  | some _ => rfl
def noXl (dss : List (List D)) : Bool := dss.all noXs
def noXS : Option S → Bool
  | none => true
  | some (.d x) => noX x
  | some (.o _ x) => noX x
  | some (.q ks dss) => noXs ks && noXl dss
/-! ### the statement -/
def flNoX : Fl → Bool
  | .rt s => noXS (some s)
  | _ => true
end Fx
/-! tuple(range(n)), list(range(n)), a starred element, reversed(xs) -/
namespace Fx
open PySem PySem.Spec PyProof.Rows L2
open C8 (Cal Mak pe_c pe_mk)
open StX (tStar pa_star)
section
variable {c : Cfg} {B : Base} {W : WX} {ts : En} {vs : List (Option V)} {ρ : En} {σ : L2.St} {H : Hp} {ta te : TE} {fa fe : M S} {tA : TA} {fA fr : M (List D)}
/-! ### tuple(range(n)) -/
def rgOk (n : Int) : Bool := decide (-1000000 ≤ n) && decide (n ≤ 16777216)
theorem rgOk_of {n : Int} (h : rgOk n = true) : RgOk 0 n := by
  unfold rgOk at h
  rw [Bool.and_eq_true, decide_eq_true_eq, decide_eq_true_eq] at h
  refine ⟨by omega, by omega, by omega, by omega, by omega⟩
theorem arcy_ints : ∀ {n : Nat} {lo : Int}, arcy (intsFrom lo n) = false
  | 0, _ => rfl
  | _ + 1, _ => rfl
theorem rpAll_rg {G : Hp} {n : Int} : RpAll c G (rgV 0 n) (intsFrom 0 n.toNat) := by
  have key : ∀ (k : Nat) (lo : Int), RpAll c G ((List.range k).map fun i => V.int (lo + (i : Nat))) (intsFrom lo k) := by
    intro k
    induction k with
    | zero => exact fun lo => .nil
    | succ k ih =>
      intro lo
      rw [List.range_succ_eq_map, List.map_cons, List.map_map]
      show RpAll c G (_ :: _) (.int lo :: intsFrom (lo + 1) k)
      have e0 : lo + ((0 : Nat) : Int) = lo := by simp
      rw [e0]
      refine .cons (.int _) ?_
      have e : ((fun i : Nat => V.int (lo + (i : Nat))) ∘ Nat.succ) = fun i : Nat => V.int (lo + 1 + (i : Nat)) := by
        funext i
        show V.int _ = V.int _
        congr 1
        rw [Nat.succ_eq_add_one]
        omega
      rw [e]
      exact ih (lo + 1)
  have := key n.toNat 0
  unfold rgV
  rw [Int.sub_zero]
  exact this
def mTupRg (fa : M S) : M S := fun ρ => (dv fa ρ).then fun x ρ1 => match x with
  | .int n => if rgOk n then .ok (.d (.tup (intsFrom 0 n.toNat))) ρ1 else .stuck
  | _ => .stuck
theorem den_tupRg (h : Den c W ta fa) : Den c W (tTupRg (tRg1 ta)) (mTupRg fa) := fun B ts vs ρ σ H Q r q => by
  unfold mTupRg at q
  rw [post_then] at q
  refine h.dv r (q.imp1 fun x ρ1 q v H1 r1 => ?_)
  cases x <;> first | exact q.elim | skip
  rename_i n
  obtain ⟨G, O, hv⟩ := r1.one
  cases hv
  have q : Post (OkP c B ts vs σ Q) (ErrP c W B ts vs σ) (if rgOk n then .ok (.d (.tup (intsFrom 0 n.toNat))) ρ1 else .stuck) := q
  split at q
  · rename_i hn
    exact ⟨n, rfl, rgOk_of hn, fun p hp => q _ _ (Rep.new (ds := []) (us := []) r1.drop rfl hp rfl fun G' e _ => .tup (.inl (.inl e)) rpAll_rg fun z => absurd z (by rw [arcy_ints]; decide))⟩
  · exact q.elim
/-! ### (.., *xs, ..) -/
def aStar (fe : M S) (fr : M (List D)) : M (List D) := fun ρ => (dv fe ρ).then fun x ρ1 => match itemsD x with
  | some ds => (fr ρ1).then fun es ρ2 => .ok (ds ++ es) ρ2
  | none => .stuck
theorem Rep.spread {x : D} {v : V} {ds : List D} (e : itemsD x = some ds) (r : Rep c B (some (.d x) :: ts) (some v :: vs) ρ σ H) : ∃ a us, v = .ref a ∧ SqI c.K (isLst x) H a us ∧ us.length = ds.length ∧ Rep c B (tmp ds ++ ts) (tmv us ++ vs) ρ σ H := by
  obtain ⟨G, O, hv⟩ := r.top
  obtain ⟨a, us, rfl, h1, k⟩ := hv.seq O.sub e
  obtain ⟨G', o1, o2, kk, g1, g2⟩ := r
  cases g1 with
  | d g0 g1 =>
    obtain ⟨a', us', e1, h1', k'⟩ := g0.seq kk.sub e
    cases e1
    refine ⟨a, us', rfl, h1', k'.length, G', o1, o2, kk, ?_, g2⟩
    have := (k'.rev).sl (B := B) (H := H) g1
    unfold tmp tmv
    exact this
theorem den_star (he : Den c W te fe) (hr : DenA c W tA fr) : DenA c W (tStar c.K te tA) (aStar fe fr) := fun B ts vs ρ σ H Q r q => by
  unfold aStar at q
  rw [post_then] at q
  refine he.dv r (q.imp1 fun x ρ1 q v H1 r1 => ?_)
  have q : Post (OkA c B ts vs σ Q) (ErrP c W B ts vs σ) (match itemsD x with
    | some ds => (fr ρ1).then fun es ρ2 => .ok (ds ++ es) ρ2
    | none => .stuck) := q
  cases e : itemsD x with
  | none => rw [e] at q; exact q.elim
  | some ds =>
    rw [e] at q
    have q : Post (OkA c B ts vs σ Q) (ErrP c W B ts vs σ) ((fr ρ1).then fun es ρ2 => .ok (ds ++ es) ρ2) := q
    rw [post_then] at q
    obtain ⟨a, us, rfl, h1, hl, r2⟩ := Rep.spread e r1
    refine ⟨a, us, rfl, ?_, ?_⟩
    · cases hx : isLst x with
      | true => rw [hx] at h1; exact .inr h1
      | false => rw [hx] at h1; exact .inl h1
    · refine hr B _ _ ρ1 σ H1 _ r2 (q.imp (fun es ρ2 q ws H2 hl2 r3 => ?_) fun e' ρ' q k d H' he' r' => q k d H' he' (r'.dropN hl))
      refine q (us ++ ws) H2 (by rw [List.length_append, List.length_append, hl, hl2]) ?_
      unfold tmp tmv at r3 ⊢
      rw [List.reverse_append, List.map_append, List.reverse_append, List.map_append, List.append_assoc, List.append_assoc]
      exact r3
/-! ### reversed(xs) -/
def iRevS (fA : M (List D)) : M (List D) := fun ρ => (fA ρ).then fun ds ρ1 => match ds with
  | [.lst ds] => .ok ds.reverse ρ1
  | _ => .stuck
theorem di_rev (h : DenA c W tA fA) : DenI c W (iRev c.K tA) (iRevS fA) := fun B ts vs ρ σ H R r q => by
  unfold iRevS at q
  rw [post_then] at q
  refine h B ts vs ρ σ H _ r (q.imp1 fun xs ρ1 q us H1 hl r1 => ?_)
  split at q
  · rename_i ds
    have q : OkI c B ts vs σ R ds.reverse ρ1 := q
    match us, hl, r1 with
    | [v], hl, r1 =>
      have r1 : Rep c B (some (.d (.lst ds)) :: ts) (some v :: vs) ρ1 σ H1 := r1
      obtain ⟨G, O, hv⟩ := r1.top
      obtain ⟨a, us, rfl, h1, k⟩ := hv.seq O.sub rfl
      refine ⟨a, us, rfl, h1, ?_⟩
      rw [k.length]
      refine q _ [.lst ds] [.ref a] H1 rfl r1 ⟨ds.length, SrcAt c true ds.length a, fun i H y H' => H' = H ∧ TurnAt c true a (ds.length - 1 - i) H y, ⟨?_, ?_, ?_⟩, by rw [List.length_reverse], fun B ts vs ρ σ H r => src_of (x := .lst ds) rfl r, ?_⟩
      · rintro i H hi ⟨us, h1, h2⟩
        exact ⟨hi, us, us[ds.length - 1 - i]'(by omega), h1, List.getElem?_eq_getElem (by omega)⟩
      · intro H _
        exact Nat.le_refl _
      · rintro i H y H' _ _ ⟨e, h⟩
        exact ⟨e, fun us h1 => h us h1⟩
      · rintro B ts vs ρ σ H k y H' hk r ⟨rfl, t⟩
        obtain ⟨d, e1, r2⟩ := turn_val (x := .lst ds) (ds := ds) rfl (k := ds.length - 1 - k) (by omega) r t
        exact ⟨d, by rw [List.getElem?_reverse hk]; exact e1, r2⟩
  · exact q.elim
end
section
variable {X : Cx} {c : Cfg} {W : WX} {a e tg : Expr} {es : List Expr} {ta te : TE} {tA : TA} {fa fe : M S} {fA fr : M (List D)} {pos p p2 pos2 : Pos}
theorem q_tupRg (hm : X.mg "tuple" = none) (hm2 : X.mg "range" = none) (h : QE X c W a ta fa) (hc : X.calm = true := by rfl) (hg : Gl X "tuple" := by rfl) (hg2 : Gl X "range" := by rfl) (na : starEach [a] X.env = (false, eval a X.env) :: starEach [] X.env := by rfl)
    (na2 : starEach [.Call (.Name "range" p2) [a] [] pos2] X.env = (false, eval (.Call (.Name "range" p2) [a] [] pos2) X.env) :: starEach [] X.env := by rfl) : QE X c W (.Call (.Name "tuple" p) [.Call (.Name "range" p2) [a] [] pos2] [] pos) (tTupRg (tRg1 ta)) (mTupRg fa) := by
  obtain ⟨h1, h2⟩ := h
  exact ⟨pe_tupRg hc hg hm (prg_1 hg2 hm2 h1 na) na2, den_tupRg h2⟩
theorem a_star (h : QE X c W e te fe) (k : QA X c W es tA fr) (hK : X.K = c.K := by rfl) (hs : starEach (.Starred e p :: es) X.env = (true, eval e X.env) :: starEach es X.env := by rfl) : QA X c W (.Starred e p :: es) (tStar c.K te tA) (aStar fe fr) := by
  obtain ⟨h1, h2⟩ := h; obtain ⟨k1, k2⟩ := k
  exact ⟨hK ▸ pa_star h1 k1 hs, den_star h2 k2⟩
theorem i_rev (hm : X.mg "reversed" = none) (h : QA X c W [a] tA fA) (hg : Gl X "reversed" := by rfl) (hK : X.K = c.K := by rfl) (hs : starEach [a] X.env = [(false, eval a X.env)] := by rfl) : QI X c W tg (.Call (.Name "reversed" p) [a] [] pos) (iRev c.K tA) (iRevS fA) := by
  obtain ⟨h1, h2⟩ := h
  exact ⟨hK ▸ pi_reversed hg hm h1 hs, di_rev h2⟩
end
end Fx
/-! dicts whose objects are known: keys ints and texts, or tuples: read, written -/
namespace Fx
open PySem PySem.Spec PyProof.Rows L2
open C8 (Cal Mak pe_c pe_mk)
/-! ### keys -/
def isKey : D → Bool
  | .int _ => true
  | .str _ => true
  | _ => false
def isKeyT : D → Bool
  | .tup ds => match nkDs ds with
    | some ks => decide (NestedKey.depthAll ks + 1 ≤ 8)
    | none => false
  | _ => false
def keyEq : D → D → Bool
  | .int i, .int j => decide (i = j)
  | .str x, .str y => decide (x = y)
  | .tup xs, .tup ys => match nkDs xs, nkDs ys with
    | some a, some b => NestedKey.beqAll a b
    | _, _ => false
  | _, _ => false
theorem keyEq_keyD {k k' : Key} : keyEq (keyD k) (keyD k') = decide (k = k') := by
  cases k <;> cases k' <;> simp [keyEq, keyD]
/-- the place of a key -/
def keyAt (ks : List D) (k : D) : Option Nat := ks.findIdx? (keyEq k)
def hasKey (ks : List D) (k : D) : Bool := ks.any (keyEq k)
/-- a key that the dict can be asked for -/
def homog (ks : List D) (k : D) : Bool := (isKey k && ks.all isKey) || (isKeyT k && ks.all isKeyT)
def putKs {α : Type} (ks : List D) (k : D) (l : List α) (x : α) : List α := if hasKey ks k then l else l ++ [x]
def putVs {α : Type} (ks : List D) (k : D) (l : List α) (x : α) : List α := if hasKey ks k then List.zipWith (fun k' d => if keyEq k k' then x else d) ks l else l ++ [x]
theorem find_at {β : Type} (q : β → Bool) : ∀ l : List β, l.find? q = (l.findIdx? q).bind fun i => l[i]?
  | [] => rfl
  | x :: l => by
    rw [List.find?_cons, List.findIdx?_cons]
    cases e : q x with
    | true => simp
    | false =>
      simp only [Bool.false_eq_true, if_false]
      rw [find_at q l]
      cases l.findIdx? q <;> simp
theorem idx_map {α β : Type} {p : α → Bool} {q : β → Bool} {l1 : List α} {l2 : List β} (h : l1.map p = l2.map q) : l1.findIdx? p = l2.findIdx? q := by
  have e1 := List.findIdx?_map (f := p) (l := l1) (p := id)
  have e2 := List.findIdx?_map (f := q) (l := l2) (p := id)
  rw [h] at e1
  exact e1.symm.trans e2
theorem any_map2 {α β : Type} {p : α → Bool} {q : β → Bool} {l1 : List α} {l2 : List β} (h : l1.map p = l2.map q) : l1.any p = l2.any q := by
  have e1 : (l1.map p).any id = l1.any p := by rw [List.any_map]; rfl
  have e2 : (l2.map q).any id = l2.any q := by rw [List.any_map]; rfl
  rw [← e1, ← e2, h]
theorem any_idx {α : Type} {p : α → Bool} : ∀ {l : List α}, l.any p = (l.findIdx? p).isSome
  | [] => rfl
  | x :: l => by
    rw [List.any_cons, List.findIdx?_cons]
    cases e : p x with
    | true => rfl
    | false =>
      rw [any_idx (l := l)]
      simp only [Bool.false_or, Bool.false_eq_true, if_false, Option.isSome_map]
theorem key_of {c : Cfg} {G : Hp} {v : V} {x : D} (h : Rp c G v x) (e : isKey x = true) : ∃ k : Key, x = keyD k ∧ v = kV k := by
  cases x <;> first | cases e | skip
  · cases h
    exact ⟨.inl _, rfl, rfl⟩
  · cases h
    exact ⟨.inr _, rfl, rfl⟩
theorem keyT_of {x : D} (e : isKeyT x = true) : ∃ ds ks, x = .tup ds ∧ nkDs ds = some ks ∧ nkD x = some (.tup ks) ∧ (NestedKey.tup ks).depth ≤ 8 := by
  cases x <;> first | cases e | skip
  rename_i ds
  have e : (match nkDs ds with
    | some ks => decide (NestedKey.depthAll ks + 1 ≤ 8)
    | none => false) = true := e
  cases h : nkDs ds with
  | none => rw [h] at e; cases e
  | some ks =>
    rw [h] at e
    exact ⟨ds, ks, rfl, h, by rw [nkD, h], of_decide_eq_true e⟩
theorem keyEqT {ds : List D} {ks : List NestedKey} {k' : D} {n' : NestedKey} (h : nkDs ds = some ks) (h' : nkD k' = some n') : keyEq (.tup ds) k' = decide (n' = .tup ks) := by
  rw [NestedKey.decide_eq]
  cases k' with
  | tup es =>
    rw [nkD] at h'
    cases e : nkDs es with
    | none => rw [e] at h'; cases h'
    | some ls =>
      rw [e] at h'
      cases h'
      show (match nkDs ds, nkDs es with
        | some a, some b => NestedKey.beqAll a b
        | _, _ => false) = NestedKey.beqAll ls ks
      rw [h, e]
      show NestedKey.beqAll ks ls = NestedKey.beqAll ls ks
      have a := NestedKey.decide_eq (.tup ks) (.tup ls)
      have b := NestedKey.decide_eq (.tup ls) (.tup ks)
      show NestedKey.beq (.tup ks) (.tup ls) = NestedKey.beq (.tup ls) (.tup ks)
      rw [← a, ← b]
      by_cases q : NestedKey.tup ks = .tup ls
      · rw [decide_eq_true q, decide_eq_true q.symm]
      · rw [decide_eq_false q, decide_eq_false fun z => q z.symm]
  | non => rw [nkD] at h'; cases h'; rfl
  | int i => rw [nkD] at h'; cases h'; rfl
  | str i => rw [nkD] at h'; cases h'; rfl
  | bl _ => rw [nkD] at h'; cases h'
  | ty _ => rw [nkD] at h'; cases h'
  | lst _ => rw [nkD] at h'; cases h'
  | ins _ _ => rw [nkD] at h'; cases h'
  | dct _ _ => rw [nkD] at h'; cases h'
  | dcq _ _ => rw [nkD] at h'; cases h'
  | xo _ _ => rw [nkD] at h'; cases h'
  | exc => rw [nkD] at h'; cases h'
  | rng _ _ => rw [nkD] at h'; cases h'
  | fu => rw [nkD] at h'; cases h'
  | scr _ => rw [nkD] at h'; cases h'
  | fn _ => rw [nkD] at h'; cases h'
section
variable {X : Cx} {pins : List (Addr × Obj)} {σ : L2.St} {H : Hp} {s : Shared} {c : Cfg} {G : Hp}
mutual
theorem rp_nested (I : Inv X pins σ H s) (hK : X.K = c.K) (sub : ∀ a o, G a = some o → H a = some o) : ∀ {v : V} {d : D} {k : NestedKey} {u : Value}, Rp c G v d → nkD d = some k → RelV v u → NestedIs s.heap k u
  | _, _, k, u, .non, e, r => by rw [nkD] at e; cases e; cases r; exact .none
  | _, _, k, u, .bl b, e, r => by rw [nkD] at e; cases e
  | _, _, k, u, .int i, e, r => by
    rw [nkD] at e
    cases e
    obtain ⟨t, rfl⟩ := r
    exact .int _ _
  | _, _, k, u, .str x, e, r => by
    rw [nkD] at e
    cases e
    obtain ⟨t, rfl⟩ := r
    exact .text _ _
  | _, _, k, u, .ty n, e, r => by rw [nkD] at e; cases e
  | _, _, k, u, .tup (ds := ds) h ka n, e, r => by
    rw [nkD] at e
    cases er : nkDs ds with
    | none => rw [er] at e; cases e
    | some ks =>
      rw [er] at e
      cases e
      cases r
      obtain ⟨its, rv, ⟨o, ho, hc, m, hd⟩, _⟩ := I.tuple (hK ▸ SqT.up sub h)
      exact .tup ho hc hd (by simpa using rps_nested I hK sub ka er rv)
  | _, _, k, u, .lst h ka, e, r => by rw [nkD] at e; cases e
  | _, _, k, u, .scr h, e, r => by rw [nkD] at e; cases e
  | _, _, k, u, .ins h n ka, e, r => by rw [nkD] at e; cases e
  | _, _, k, u, .dct h ka, e, r => by rw [nkD] at e; cases e
  | _, _, k, u, .dcx h o k1 k2, e, r => by rw [nkD] at e; cases e
  | _, _, k, u, .xo h, e, r => by rw [nkD] at e; cases e
  | _, _, k, u, .exc h h2 h3, e, r => by rw [nkD] at e; cases e
  | _, _, k, u, .rng h, e, r => by rw [nkD] at e; cases e
  | _, _, k, u, .fu h, e, r => by rw [nkD] at e; cases e
  | _, _, k, u, .fn h ka, e, r => by rw [nkD] at e; cases e
termination_by structural _ _ _ _ h => h
theorem rps_nested (I : Inv X pins σ H s) (hK : X.K = c.K) (sub : ∀ a o, G a = some o → H a = some o) : ∀ {vs : List V} {ds : List D} {ks : List NestedKey} {us : List Value}, RpAll c G vs ds → nkDs ds = some ks → Vals vs us → NestedAll s.heap ks us
  | _, _, ks, us, .nil, e, r => by rw [nkDs] at e; cases e; cases r; exact .nil
  | _, _, ks, us, .cons (d := d) (ds := ds) h ka, e, r => by
    rw [nkDs] at e
    cases e1 : nkD d with
    | none => rw [e1] at e; cases e
    | some k =>
      cases e2 : nkDs ds with
      | none => rw [e1, e2] at e; cases e
      | some ks' =>
        rw [e1, e2] at e
        cases e
        cases r with
        | cons r1 r2 => exact .cons (rp_nested I hK sub h e1 r1) (rps_nested I hK sub ka e2 r2)
termination_by structural _ _ _ _ h => h
end
/-! ### what the object tells -/
theorem DcO.sys {w : World} {a : Addr} {o : Obj} {ks : List D} {kv us : List V} (d : DcO w a o ks kv us) : (a == sysModules) = false := by cases d <;> assumption
theorem DcO.exact {w : World} {a : Addr} {o : Obj} {ks : List D} {kv us : List V} (d : DcO w a o ks kv us) : o.ExactDict := by cases d <;> assumption
theorem DcO.dat {w : World} {a : Addr} {o : Obj} {ks : List D} {kv us : List V} (d : DcO w a o ks kv us) : ∃ es ep, o.data = .dict es ep := by cases d <;> assumption
theorem DcO.len {w : World} {a : Addr} {o : Obj} {ks : List D} {kv us : List V} (d : DcO w a o ks kv us) : ks.length ≤ sizeLine := by
  cases d with
  | mix _ _ _ _ h _ => rw [List.length_map]; exact h
  | nk _ _ _ _ h _ e _ =>
    have := congrArg List.length e
    rw [List.length_map, List.length_map] at this
    omega
theorem xd_get {a : Addr} {o : Obj} (I : Inv X pins σ H s) (h : H a = some (xdO a o)) : s.heap.get? a = some o := (I.hok a _ h).1
theorem xd_ok {P : Program} {w : World} {H' : Hp} {h : Heap} {a : Addr} {o : Obj} (e : h.get? a = some o) : ObjOk P w H' h a (xdO a o) := ⟨e, ⟨o, e⟩, fun _ _ q k => k o q⟩
/-- the two forms of what is known, over the heap that stands -/
theorem DcO.real {a : Addr} {o : Obj} {ks : List D} {kv us : List V} (I : Inv X pins σ H s) (hK : X.K = c.K) (hw : X.w = c.w) (sub : ∀ a o, G a = some o → H a = some o) (hD : H a = some (xdO a o)) (d : DcO c.w a o ks kv us) (ka : RpAll c G kv ks) :
    (∃ kvs : List (Key × Value), s.heap.DictOf (mixKind X.prog X.w) a kvs ∧ ks = kvs.map (fun p => keyD p.1) ∧ kv = kvs.map (fun p => kV p.1) ∧ Vals us (kvs.map (·.2)) ∧ kvs.length ≤ sizeLine) ∨
    ∃ xs : List (NestedKey × Addr × Value), s.heap.DictOfH (nestedKind X.prog X.w) a xs ∧ ks.map nkD = xs.map (fun x => some x.1) ∧ kv = xs.map (fun x => V.ref x.2.1) ∧ Vals us (xs.map (·.2.2)) ∧ xs.length ≤ sizeLine ∧ (∀ x ∈ xs, (nestedKind X.prog X.w).is s.heap x.1 x.2.1) ∧ ∀ x ∈ xs, x.1.depth ≤ 8 := by
  have got := xd_get I hD
  cases d with
  | @mix kvs us h1 h2 h3 h4 h5 h6 => exact .inl ⟨kvs, hw ▸ h4 X.prog s.heap a got, rfl, rfl, h6, h5⟩
  | @nk xs us ks h1 h2 h3 h4 h5 h6 h7 h8 =>
    have his : ∀ x ∈ xs, (nestedKind X.prog X.w).is s.heap x.1 x.2.1 := by
      intro x hx
      obtain ⟨i, hi⟩ := List.mem_iff_getElem?.mp hx
      have e1 : (xs.map fun x => V.ref x.2.1)[i]? = some (.ref x.2.1) := by rw [List.getElem?_map, hi]; rfl
      obtain ⟨k, e2, hr⟩ := ka.getV e1
      have e3 : (ks.map nkD)[i]? = some (some x.1) := by rw [h7, List.getElem?_map, hi]; rfl
      rw [List.getElem?_map, e2] at e3
      exact ⟨rp_nested I hK sub hr (Option.some.inj e3) rfl, h8 x hx⟩
    exact .inr ⟨xs, hw ▸ h4 X.prog s.heap a got (by rw [← hw]; exact his), h7, rfl, h6, h5, his, h8⟩
/-- an empty dict is of both kinds -/
theorem DictOf.flip {P : Program} {w : World} {h : Heap} {a : Addr} (d : h.DictOf (mixKind P w) a []) : h.DictOfH (nestedKind P w) a [] := by
  obtain ⟨o, es, ep, ho, hc, hd, _, hp, _⟩ := d
  have := hp.length
  have e : es = #[] := by
    have : es.size = 0 := by simpa using this
    exact Array.eq_empty_of_size_eq_zero this
  subst e
  exact ⟨o, #[], ep, ho, hc, hd, rfl, (fun _ hx => nomatch hx), List.nodup_nil⟩
theorem DictOfH.flip {P : Program} {w : World} {h : Heap} {a : Addr} (d : h.DictOfH (nestedKind P w) a []) : h.DictOf (mixKind P w) a [] := by
  obtain ⟨o, es, ep, ho, hc, hd, he, _, _⟩ := d
  have e : es = #[] := by
    have : es.toList = [] := he
    cases es
    simp at this
    rw [this]
  subst e
  exact ⟨o, #[], ep, ho, hc, hd, (fun e he => by simp at he), .nil, List.nodup_nil⟩
end
theorem pairs_mix {P0 P : Program} {w : World} {es : List DictEntry} {kvs : List (Key × Value)} (h : Pairs (mixKind P0 w) es kvs) : Pairs (mixKind P w) es kvs := by
  induction h with
  | nil => exact .nil
  | cons h1 h2 _ ih => exact .cons h1 h2 ih
theorem dictOf_mix {P0 P : Program} {w : World} {h h' : Heap} {a b : Addr} {o : Obj} {kvs : List (Key × Value)} (d : h.DictOf (mixKind P0 w) a kvs) (e : h.get? a = some o) (e' : h'.get? b = some o) : h'.DictOf (mixKind P w) b kvs := by
  obtain ⟨o', es, ep, ho, hc, hd, hk, hp, hn⟩ := d
  rw [e] at ho
  cases ho
  exact ⟨o, es, ep, e', hc, hd, hk, pairs_mix hp, hn⟩
theorem mixObj_of {P0 : Program} {w : World} {h : Heap} {a : Addr} {o : Obj} {kvs : List (Key × Value)} (d : h.DictOf (mixKind P0 w) a kvs) (e : h.get? a = some o) : MixObj w o kvs := fun P h' b e' => dictOf_mix d e e'
theorem nkObj_of {P0 : Program} {w : World} {h : Heap} {a : Addr} {o : Obj} {xs : List (NestedKey × Addr × Value)} (d : h.DictOfH (nestedKind P0 w) a xs) (e : h.get? a = some o) : NkObj w o xs := fun P h' b e' his => by
  obtain ⟨o', es, ep, ho, hc, hd, he, _, hn⟩ := d
  rw [e] at ho
  cases ho
  exact ⟨o, es, ep, e', hc, hd, he, his, hn⟩
theorem vals_at {us : List V} {ws : List Value} (h : Vals us ws) : ∀ i : Nat, RelO us[i]? ws[i]? := by
  unfold Vals at h
  induction h with
  | nil => intro i; simp [RelO]
  | cons r _ ih =>
    intro i
    cases i with
    | zero => exact r
    | succ i => simpa using ih i
theorem relO_bind {us : List V} {ws : List Value} (h : Vals us ws) (o : Option Nat) : RelO (o.bind fun i => us[i]?) (o.bind fun i => ws[i]?) := by
  cases o with
  | none => exact True.intro
  | some i => exact vals_at h i
/-- what is found at a key -/
def look {α : Type} (ks : List D) (k : D) (l : List α) : Option α := (keyAt ks k).bind fun i => l[i]?
def XLook (X : Cx) (s : Shared) (a : Addr) (u : Value) (vo : Option V) : Prop :=
  (∃ kvs k0, s.heap.DictOf (mixKind X.prog X.w) a kvs ∧ RelV (kV k0) u ∧ RelO vo (valueAt kvs k0)) ∨
  ∃ xs n b, u = .ref b ∧ s.heap.DictOfH (nestedKind X.prog X.w) a xs ∧ (nestedKind X.prog X.w).is s.heap n b ∧ RelO vo ((atKey xs n).map (·.2))
theorem mix_keys {kvs : List (Key × Value)} (k0 : Key) : (kvs.map fun p => keyD p.1).map (keyEq (keyD k0)) = kvs.map fun kv => decide (kv.1 = k0) := by
  rw [List.map_map]
  apply List.map_congr_left
  intro p _
  show keyEq (keyD k0) (keyD p.1) = _
  rw [keyEq_keyD]
  by_cases e : p.1 = k0
  · rw [decide_eq_true e, decide_eq_true e.symm]
  · rw [decide_eq_false e, decide_eq_false fun z => e z.symm]
theorem nk_keys {ds : List D} {n : List NestedKey} (h : nkDs ds = some n) : ∀ {ks : List D} {xs : List (NestedKey × Addr × Value)}, ks.map nkD = xs.map (fun x => some x.1) → ks.map (keyEq (.tup ds)) = xs.map fun x => decide (x.1 = .tup n)
  | [], [], _ => rfl
  | [], _ :: _, e => by cases e
  | _ :: _, [], e => by cases e
  | k :: ks, x :: xs, e => by
    rw [List.map_cons, List.map_cons] at e
    injection e with e1 e2
    rw [List.map_cons, List.map_cons, nk_keys h e2, keyEqT h e1]
theorem valueAt_at (kvs : List (Key × Value)) (k0 : Key) : valueAt kvs k0 = (kvs.findIdx? fun kv => decide (kv.1 = k0)).bind fun i => (kvs.map (·.2))[i]? := by
  unfold valueAt
  rw [find_at]
  cases kvs.findIdx? fun kv => decide (kv.1 = k0) with
  | none => rfl
  | some i => show ((kvs[i]?).map (·.2)) = (kvs.map (·.2))[i]?; rw [List.getElem?_map]
theorem atKey_at (xs : List (NestedKey × Addr × Value)) (n : NestedKey) : (atKey xs n).map (·.2) = (xs.findIdx? fun x => decide (x.1 = n)).bind fun i => (xs.map (·.2.2))[i]? := by
  unfold atKey
  rw [find_at]
  cases xs.findIdx? fun x => decide (x.1 = n) with
  | none => rfl
  | some i => show ((xs[i]?.map (·.2)).map (·.2)) = (xs.map (·.2.2))[i]?; rw [List.getElem?_map, Option.map_map]; rfl
theorem key_notT {k : Key} : isKeyT (keyD k) = false := by cases k <;> rfl
section
variable {X : Cx} {pins : List (Addr × Obj)} {σ : L2.St} {H : Hp} {s : Shared} {c : Cfg} {G : Hp}
/-- which of the two kinds a question is of -/
theorem DcO.ask {a : Addr} {o : Obj} {ks : List D} {kv us : List V} {y : V} {k : D} (I : Inv X pins σ H s) (hK : X.K = c.K) (hw : X.w = c.w) (sub : ∀ a o, G a = some o → H a = some o) (hD : H a = some (xdO a o)) (d : DcO c.w a o ks kv us) (ka : RpAll c G kv ks) (hk : Rp c G y k) (hm : homog ks k = true) :
    (∃ (kvs : List (Key × Value)) (k0 : Key), s.heap.DictOf (mixKind X.prog X.w) a kvs ∧ ks = kvs.map (fun p => keyD p.1) ∧ kv = kvs.map (fun p => kV p.1) ∧ Vals us (kvs.map (·.2)) ∧ kvs.length ≤ sizeLine ∧ k = keyD k0 ∧ y = kV k0) ∨
    ∃ (xs : List (NestedKey × Addr × Value)) (ds : List D) (n : List NestedKey) (b : Addr), s.heap.DictOfH (nestedKind X.prog X.w) a xs ∧ ks.map nkD = xs.map (fun x => some x.1) ∧ kv = xs.map (fun x => V.ref x.2.1) ∧ Vals us (xs.map (·.2.2)) ∧ xs.length ≤ sizeLine ∧ (∀ x ∈ xs, (nestedKind X.prog X.w).is s.heap x.1 x.2.1) ∧ (∀ x ∈ xs, x.1.depth ≤ 8) ∧
      k = .tup ds ∧ y = .ref b ∧ nkDs ds = some n ∧ (NestedKey.tup n).depth ≤ 8 ∧ (nestedKind X.prog X.w).is s.heap (.tup n) b := by
  have tkey : isKeyT k = true → ∃ (ds : List D) (n : List NestedKey) (b : Addr), k = .tup ds ∧ y = .ref b ∧ nkDs ds = some n ∧ (NestedKey.tup n).depth ≤ 8 ∧ (nestedKind X.prog X.w).is s.heap (.tup n) b := by
    intro e
    obtain ⟨ds, n, rfl, e1, e2, e3⟩ := keyT_of e
    obtain ⟨b, vs, rfl, _⟩ := hk.tupE
    exact ⟨ds, n, b, rfl, rfl, e1, e3, rp_nested I hK sub hk e2 rfl, e3⟩
  unfold homog at hm
  rw [Bool.or_eq_true, Bool.and_eq_true, Bool.and_eq_true] at hm
  rcases d.real I hK hw sub hD ka with ⟨kvs, d1, e1, e2, e3, e4⟩ | ⟨xs, d1, e1, e2, e3, e4, e5, e6⟩
  · rcases hm with ⟨m1, _⟩ | ⟨m1, m2⟩
    · obtain ⟨k0, rfl, rfl⟩ := key_of hk m1
      exact .inl ⟨kvs, k0, d1, e1, e2, e3, e4, rfl, rfl⟩
    · obtain ⟨ds, n, b, rfl, rfl, q1, q2, q3⟩ := tkey m1
      cases kvs with
      | nil =>
        subst e1 e2
        exact .inr ⟨[], ds, n, b, DictOf.flip d1, rfl, rfl, e3, Nat.zero_le _, (fun _ h => nomatch h), (fun _ h => nomatch h), rfl, rfl, q1, q2, q3⟩
      | cons p r =>
        subst e1
        rw [List.map_cons, List.all_cons, key_notT] at m2
        cases m2
  · rcases hm with ⟨m1, m2⟩ | ⟨m1, _⟩
    · obtain ⟨k0, rfl, rfl⟩ := key_of hk m1
      cases xs with
      | nil =>
        have : ks = [] := by cases ks with
          | nil => rfl
          | cons _ _ => cases e1
        subst this e2
        exact .inl ⟨[], k0, DictOfH.flip d1, rfl, rfl, e3, Nat.zero_le _, rfl, rfl⟩
      | cons x r =>
        subst e2
        rw [List.map_cons] at ka
        cases ka with
        | cons h _ =>
          rw [List.all_cons, Bool.and_eq_true] at m2
          obtain ⟨k1, _, e⟩ := key_of h m2.1
          cases k1 <;> cases e
    · obtain ⟨ds, n, b, rfl, rfl, q1, q2, q3⟩ := tkey m1
      exact .inr ⟨xs, ds, n, b, d1, e1, e2, e3, e4, e5, e6, rfl, rfl, q1, q2, q3⟩
theorem xd_look {a : Addr} {o : Obj} {ks : List D} {kv us : List V} {y : V} {k : D} {u : Value} (I : Inv X pins σ H s) (hK : X.K = c.K) (hw : X.w = c.w) (sub : ∀ a o, G a = some o → H a = some o) (hD : H a = some (xdO a o)) (d : DcO c.w a o ks kv us) (ka : RpAll c G kv ks) (hk : Rp c G y k) (hm : homog ks k = true) (ry : RelV y u) :
    XLook X s a u (look ks k us) := by
  rcases d.ask I hK hw sub hD ka hk hm with ⟨kvs, k0, d1, rfl, rfl, e3, e4, rfl, rfl⟩ | ⟨xs, ds, n, b, d1, e1, rfl, e3, e4, e5, e6, rfl, rfl, q1, q2, q3⟩
  · refine .inl ⟨kvs, k0, d1, ry, ?_⟩
    rw [valueAt_at]
    unfold look keyAt
    rw [idx_map (mix_keys k0)]
    exact relO_bind e3 _
  · cases ry
    refine .inr ⟨xs, .tup n, b, rfl, d1, q3, ?_⟩
    rw [atKey_at]
    unfold look keyAt
    rw [idx_map (nk_keys q1 e1)]
    exact relO_bind e3 _
theorem hasKey_look {ks : List D} {k : D} {kv us : List V} {w : World} {a : Addr} {o : Obj} (d : DcO w a o ks kv us) : (look ks k us).isSome = hasKey ks k := by
  have hl : us.length = ks.length := by
    cases d with
    | mix _ _ _ _ _ h => rw [h.length, List.length_map, List.length_map]
    | nk _ _ _ _ _ h e _ =>
      have := congrArg List.length e
      rw [List.length_map, List.length_map] at this
      rw [h.length, List.length_map, this]
  unfold look hasKey keyAt
  rw [any_idx]
  cases e : ks.findIdx? (keyEq k) with
  | none => rfl
  | some i =>
    have hi : i < ks.length := by
      have := List.findIdx?_eq_some_iff_findIdx_eq.mp e
      exact this.1
    show (us[i]?).isSome = true
    rw [List.getElem?_eq_getElem (by omega)]
    rfl
end
section
variable {X : Cx} {pins : List (Addr × Obj)} {σ : L2.St} {H : Hp} {s : Shared} {a : Addr} {y v d : V} {u r : Value} {o : Option V} {A : Around} {E : Value → Shared → Prop}
theorem nk_room {A : Around} {P : Program} {w : World} (hu : A.units + 10 < cLine) : (nestedKind P w).room A.in1 := by
  show A.units + 1 + 8 < cLine
  omega
theorem x_getItem {Q : Value → Shared → Prop} (hu : A.units + 10 < cLine) (I : Inv X pins σ H s) (g : XLook X s a u (some v)) (h : ∀ w' s', Inv X pins σ H s' → RelV v w' → Q w' s') : wpAny (model X.prog X.w) A (getItem (.ref a) u) Q E s := by
  rcases g with ⟨kvs, k0, d1, ry, rel⟩ | ⟨xs, n, b, rfl, d1, hk, rel⟩
  · obtain ⟨w', hw, rw'⟩ := RelO.some_of (v := v) (o := valueAt kvs k0) rel
    exact wpAny_getItem_of (kV_is ry) d1.mapOf hw (h w' _ (I.tok _) rw')
  · obtain ⟨w', hw, rw'⟩ := RelO.some_of (v := v) (o := (atKey xs n).map (·.2)) rel
    obtain ⟨p, hp, hp2⟩ := Option.map_eq_some_iff.mp hw
    refine wpAny_getItem_heap (nk_room hu) hk d1 hp ?_
    rw [hp2]
    exact h w' _ (I.tok _) rw'
theorem x_notIn {Q : Value → Shared → Prop} (hu : A.units + 10 < cLine) (I : Inv X pins σ H s) (hd : (a == sysModules) = false) (g : XLook X s a u o) (h : ∀ s', Inv X pins σ H s' → Q (.bool (!o.isSome)) s') : wpAny (model X.prog X.w) A (compareOp .NotIn u (.ref a)) Q E s := by
  rcases g with ⟨kvs, k0, d1, ry, rel⟩ | ⟨xs, n, b, rfl, d1, hk, rel⟩
  · refine wpAny_notIn_of (kV_is ry) hd d1.mapOf ?_
    rw [← rel.isSome_eq]
    exact h _ (I.tok _)
  · refine wpAny_notIn_heap (nk_room hu) hk hd d1 ?_
    have q := rel.isSome_eq
    rw [Option.isSome_map] at q
    rw [← q]
    exact h _ (I.tok _)
end
/-! ### the store -/
theorem vals_zip {kvs : List (Key × Value)} {k0 : Key} {v : V} {r : Value} (rv : RelV v r) : ∀ {us : List V}, Vals us (kvs.map (·.2)) → Vals (List.zipWith (fun k' d => if keyEq (keyD k0) k' then v else d) (kvs.map fun p => keyD p.1) us) ((kvs.map fun kv => if kv.1 = k0 then (kv.1, r) else kv).map (·.2)) := by
  induction kvs with
  | nil => intro us h; cases h; exact .nil
  | cons p kvs ih =>
    intro us h
    rw [List.map_cons] at h
    cases h with
    | cons h1 h2 =>
      simp only [List.map_cons, List.zipWith_cons_cons, keyEq_keyD]
      refine .cons ?_ (ih h2)
      by_cases e : p.1 = k0
      · rw [if_pos (by rw [e]; simp), if_pos e]
        exact rv
      · rw [if_neg (by simp; exact fun z => e z.symm), if_neg e]
        exact h1
theorem vals_zipH {ds : List D} {n : List NestedKey} (hn : nkDs ds = some n) {v : V} {r : Value} (rv : RelV v r) : ∀ {xs : List (NestedKey × Addr × Value)} {ks : List D} {us : List V}, ks.map nkD = xs.map (fun x => some x.1) → Vals us (xs.map (·.2.2)) →
    Vals (List.zipWith (fun k' d => if keyEq (.tup ds) k' then v else d) ks us) ((xs.map (putAt (.tup n) r)).map (·.2.2))
  | [], [], us, _, h => by cases h; exact .nil
  | [], _ :: _, us, e, h => by cases e
  | _ :: _, [], us, e, h => by cases e
  | x :: xs, k :: ks, us, e, h => by
    rw [List.map_cons, List.map_cons] at e
    injection e with e1 e2
    rw [List.map_cons] at h
    cases h with
    | cons h1 h2 =>
      simp only [List.map_cons, List.zipWith_cons_cons, keyEqT hn e1]
      refine .cons ?_ (vals_zipH hn rv e2 h2)
      unfold putAt
      by_cases q : x.1 = .tup n
      · rw [if_pos (decide_eq_true q), if_pos q]
        exact rv
      · rw [if_neg (by simp [q]), if_neg q]
        exact h1
theorem hasKey_mix {kvs : List (Key × Value)} {k0 : Key} : hasKey (kvs.map fun p => keyD p.1) (keyD k0) = kvs.any fun kv => decide (kv.1 = k0) := any_map2 (mix_keys k0)
theorem mix_stored {kvs : List (Key × Value)} {k0 : Key} {v : V} {r : Value} {us : List V} (rv : RelV v r) (e3 : Vals us (kvs.map (·.2))) :
    (stored kvs k0 r).map (fun p => keyD p.1) = putKs (kvs.map fun p => keyD p.1) (keyD k0) (kvs.map fun p => keyD p.1) (keyD k0) ∧
    (stored kvs k0 r).map (fun p => kV p.1) = putKs (kvs.map fun p => keyD p.1) (keyD k0) (kvs.map fun p => kV p.1) (kV k0) ∧
    Vals (putVs (kvs.map fun p => keyD p.1) (keyD k0) us v) ((stored kvs k0 r).map (·.2)) := by
  unfold stored putKs putVs
  rw [hasKey_mix]
  by_cases e : (kvs.any fun kv => decide (kv.1 = k0)) = true
  · rw [if_pos e, if_pos e, if_pos e, if_pos e]
    refine ⟨?_, ?_, vals_zip rv e3⟩
    · rw [List.map_map]
      apply List.map_congr_left
      intro p _
      show keyD (if p.1 = k0 then (p.1, r) else p).1 = _
      split <;> rfl
    · rw [List.map_map]
      apply List.map_congr_left
      intro p _
      show kV (if p.1 = k0 then (p.1, r) else p).1 = _
      split <;> rfl
  · rw [if_neg e, if_neg e, if_neg e, if_neg e]
    refine ⟨?_, ?_, ?_⟩
    · rw [List.map_append]; rfl
    · rw [List.map_append]; rfl
    · rw [List.map_append]
      exact e3.append (.cons rv .nil)
theorem hasKey_nk {ds : List D} {n : List NestedKey} {ks : List D} {xs : List (NestedKey × Addr × Value)} (hn : nkDs ds = some n) (e1 : ks.map nkD = xs.map (fun x => some x.1)) : hasKey ks (.tup ds) = (atKey xs (.tup n)).isSome := by
  have h1 : hasKey ks (.tup ds) = xs.any fun x => decide (x.1 = .tup n) := any_map2 (nk_keys hn e1)
  rw [h1, any_idx]
  unfold atKey
  rw [find_at, Option.isSome_map]
  cases e : xs.findIdx? fun x => decide (x.1 = .tup n) with
  | none => rfl
  | some i =>
    have hi := (List.findIdx?_eq_some_iff_findIdx_eq.mp e).1
    show true = (xs[i]?).isSome
    rw [List.getElem?_eq_getElem hi]
    rfl
theorem nk_stored {ds : List D} {n : List NestedKey} {ks : List D} {xs : List (NestedKey × Addr × Value)} {b : Addr} {v : V} {r : Value} {us : List V} (hn : nkDs ds = some n) (hk : nkD (.tup ds) = some (.tup n)) (hd : (NestedKey.tup n).depth ≤ 8) (e1 : ks.map nkD = xs.map (fun x => some x.1)) (rv : RelV v r) (e3 : Vals us (xs.map (·.2.2))) (e6 : ∀ x ∈ xs, x.1.depth ≤ 8) :
    (putKs ks (.tup ds) ks (.tup ds)).map nkD = (storedH xs (.tup n) b r).map (fun x => some x.1) ∧
    (storedH xs (.tup n) b r).map (fun x => V.ref x.2.1) = putKs ks (.tup ds) (xs.map fun x => V.ref x.2.1) (.ref b) ∧
    Vals (putVs ks (.tup ds) us v) ((storedH xs (.tup n) b r).map (·.2.2)) ∧ ∀ x ∈ storedH xs (.tup n) b r, x.1.depth ≤ 8 := by
  unfold storedH putKs putVs
  rw [hasKey_nk hn e1]
  by_cases e : (atKey xs (.tup n)).isSome = true
  · rw [if_pos e, if_pos e, if_pos e, if_pos e]
    refine ⟨?_, ?_, vals_zipH hn rv e1 e3, ?_⟩
    · rw [e1, List.map_map]
      apply List.map_congr_left
      intro p _
      show _ = some (putAt (.tup n) r p).1
      unfold putAt
      split <;> rfl
    · rw [List.map_map]
      apply List.map_congr_left
      intro p _
      show V.ref (putAt (.tup n) r p).2.1 = _
      unfold putAt
      split <;> rfl
    · intro x hx
      obtain ⟨p, hp, rfl⟩ := List.mem_map.mp hx
      have := e6 p hp
      unfold putAt
      split <;> exact this
  · rw [if_neg e, if_neg e, if_neg e, if_neg e]
    refine ⟨?_, ?_, ?_, ?_⟩
    · rw [List.map_append, List.map_append, e1, List.map_cons, hk]; rfl
    · rw [List.map_append]; rfl
    · rw [List.map_append]
      exact e3.append (.cons rv .nil)
    · intro x hx
      rcases List.mem_append.mp hx with hx | hx
      · exact e6 x hx
      · rw [List.mem_singleton] at hx
        subst hx
        exact hd
theorem stored_len (kvs : List (Key × Value)) (k : Key) (r : Value) : (stored kvs k r).length ≤ kvs.length + 1 := by
  unfold stored
  split
  · rw [List.length_map]; omega
  · rw [List.length_append]; exact Nat.le_refl _
theorem storedH_len (xs : List (NestedKey × Addr × Value)) (k : NestedKey) (b : Addr) (r : Value) : (storedH xs k b r).length ≤ xs.length + 1 := by
  unfold storedH
  split
  · rw [List.length_map]; omega
  · rw [List.length_append]; exact Nat.le_refl _
theorem RpAll.put {c : Cfg} {G : Hp} {ks kd : List D} {kv : List V} {k x : D} {y : V} (ka : RpAll c G kv kd) (hk : Rp c G y x) : RpAll c G (putKs ks k kv y) (putKs ks k kd x) := by
  unfold putKs
  split
  · exact ka
  · exact ka.snoc hk
section
variable {X : Cx} {pins : List (Addr × Obj)} {σ : L2.St} {H : Hp} {s : Shared} {c : Cfg} {G : Hp} {A : Around} {E : Value → Shared → Prop}
/-- what a store leaves -/
theorem xd_store {a : Addr} {o : Obj} {ks : List D} {kv us : List V} {y v : V} {k : D} {u r : Value} {m : Sem Unit} {Q : Unit → Shared → Prop} (I : Inv X pins σ H s) (hK : X.K = c.K) (hw : X.w = c.w) (sub : ∀ a o, G a = some o → H a = some o) (hD : H a = some (xdO a o)) (d : DcO c.w a o ks kv us) (ka : RpAll c G kv ks) (hk : Rp c G y k) (hm : homog ks k = true)
    (hz : ks.length < sizeLine) (ry : RelV y u) (rv : RelV v r)
    (step1 : ∀ kvs k0, RelV (kV k0) u → s.heap.DictOf (mixKind X.prog X.w) a kvs → kvs.length ≤ sizeLine → (∀ h', h'.DictOf (mixKind X.prog X.w) a (stored kvs k0 r) → Heap.SameBut a s.heap h' → ∀ t, Q () { s with heap := h', toks := t }) → wpAny (model X.prog X.w) A m Q E s)
    (step2 : ∀ xs n b, u = .ref b → (nestedKind X.prog X.w).is s.heap n b → s.heap.DictOfH (nestedKind X.prog X.w) a xs → xs.length ≤ sizeLine → (∀ h', h'.DictOfH (nestedKind X.prog X.w) a (storedH xs n b r) → Heap.SameBut a s.heap h' → ∀ t, Q () { s with heap := h', toks := t }) → wpAny (model X.prog X.w) A m Q E s)
    (q : ∀ s' o', Inv X pins σ (upd H a (xdO a o')) s' → DcO c.w a o' (putKs ks k ks k) (putKs ks k kv y) (putVs ks k us v) → Q () s') : wpAny (model X.prog X.w) A m Q E s := by
  have sys := d.sys
  rcases d.ask I hK hw sub hD ka hk hm with ⟨kvs, k0, d1, rfl, rfl, e3, e4, rfl, rfl⟩ | ⟨xs, ds, n, b, d1, e1, rfl, e3, e4, e5, e6, rfl, rfl, q1, q2, q3⟩
  · refine step1 kvs k0 ry d1 e4 fun h' dd same t => ?_
    obtain ⟨o', es, ep, ho, hc, hd, _⟩ := id dd
    have I' : Inv X pins σ (upd H a (xdO a o')) { s with heap := h', toks := t } := d_write I (by rw [hD]; exact True.intro) same ⟨o', ho⟩ (xd_ok ho)
    have mo : MixObj c.w o' (stored kvs k0 r) := hw ▸ mixObj_of dd ho
    rw [List.length_map] at hz
    have lk : (stored kvs k0 r).length ≤ sizeLine := Nat.le_trans (stored_len _ _ _) hz
    obtain ⟨f1, f2, f3⟩ := mix_stored (k0 := k0) rv e3
    have dc := DcO.mix (w := c.w) (a := a) sys hc ⟨es, ep, hd⟩ mo lk f3
    rw [f1, f2] at dc
    exact q _ o' I' dc
  · cases ry
    refine step2 xs (.tup n) b rfl q3 d1 e4 fun h' dd same t => ?_
    obtain ⟨o', es, ep, ho, hc, hd, _⟩ := id dd
    have I' : Inv X pins σ (upd H a (xdO a o')) { s with heap := h', toks := t } := d_write I (by rw [hD]; exact True.intro) same ⟨o', ho⟩ (xd_ok ho)
    have mo : NkObj c.w o' (storedH xs (.tup n) b r) := hw ▸ nkObj_of dd ho
    have hl : ks.length = xs.length := by
      have := congrArg List.length e1
      rw [List.length_map, List.length_map] at this
      exact this
    have lk : (storedH xs (.tup n) b r).length ≤ sizeLine := Nat.le_trans (storedH_len _ _ _ _) (by omega)
    have hk2 : nkD (.tup ds) = some (.tup n) := by rw [nkD, q1]
    obtain ⟨f1, f2, f3, f4⟩ := nk_stored (b := b) q1 hk2 q2 e1 rv e3 e6
    have dc := DcO.nk (w := c.w) (a := a) sys hc ⟨es, ep, hd⟩ mo lk f3 f1 f4
    rw [f2] at dc
    exact q _ o' I' dc
theorem x_setItem {a : Addr} {o : Obj} {ks : List D} {kv us : List V} {y v : V} {k : D} {u r : Value} {Q : Unit → Shared → Prop} (hu : A.units + 10 < cLine) (I : Inv X pins σ H s) (hK : X.K = c.K) (hw : X.w = c.w) (sub : ∀ a o, G a = some o → H a = some o) (hD : H a = some (xdO a o)) (d : DcO c.w a o ks kv us) (ka : RpAll c G kv ks) (hk : Rp c G y k) (hm : homog ks k = true)
    (hz : ks.length < sizeLine) (ry : RelV y u) (rv : RelV v r) (q : ∀ s' o', Inv X pins σ (upd H a (xdO a o')) s' → DcO c.w a o' (putKs ks k ks k) (putKs ks k kv y) (putVs ks k us v) → Q () s') :
    wpAny (model X.prog X.w) A (setItem (.ref a) u r) Q E s :=
  xd_store I hK hw sub hD d ka hk hm hz ry rv (fun kvs k0 r0 dd hl f => wpAny_setItem_pairs (hsz := hl) (kV_is r0) dd fun h' d' sm => f h' d' sm _)
    (fun xs n b e hk dd hl f => by subst e; exact wpAny_setItem_heap (hsz := hl) (nk_room hu) hk dd fun h' d' sm => f h' d' sm _) q
theorem nk_room0 {A : Around} {P : Program} {w : World} (hu : A.units + 10 < cLine) : (nestedKind P w).room A := by
  show A.units + 8 < cLine
  omega
theorem x_dictSet {a : Addr} {o : Obj} {ks : List D} {kv us : List V} {y v : V} {k : D} {u r : Value} {Q : Unit → Shared → Prop} (hu : A.units + 10 < cLine) (I : Inv X pins σ H s) (hK : X.K = c.K) (hw : X.w = c.w) (sub : ∀ a o, G a = some o → H a = some o) (hD : H a = some (xdO a o)) (d : DcO c.w a o ks kv us) (ka : RpAll c G kv ks) (hk : Rp c G y k) (hm : homog ks k = true)
    (hz : ks.length < sizeLine) (ry : RelV y u) (rv : RelV v r) (q : ∀ s' o', Inv X pins σ (upd H a (xdO a o')) s' → DcO c.w a o' (putKs ks k ks k) (putKs ks k kv y) (putVs ks k us v) → Q () s') :
    wpAny (model X.prog X.w) A (dictSet a u r) Q E s :=
  xd_store I hK hw sub hD d ka hk hm hz ry rv (fun kvs k0 r0 dd hl f => wpAny_dictSet_pairs (hsz := hl) (kV_is r0) dd fun h' d' sm => f h' d' sm _)
    (fun xs n b e hk dd hl f => by subst e; exact wpAny_dictSet_heap (hsz := hl) (nk_room0 hu) hk dd fun h' d' sm => f h' d' sm _) q
/-- a new dict -/
theorem DcO.new {w : World} {h : Heap} (hb : sysModules < h.objs.size) : DcO w h.objs.size { cls := .type "dict", data := .dict #[] } [] [] [] :=
  .mix (kvs := []) (beq_eq_false_iff_ne.mpr (Ne.symm (Nat.ne_of_lt hb))) ⟨rfl, rfl, rfl⟩ ⟨#[], 0, rfl⟩ (fun P h' b e => ⟨_, #[], 0, e, ⟨rfl, rfl, rfl⟩, rfl, (fun e he => by simp at he), .nil, List.nodup_nil⟩) (Nat.zero_le _) .nil
theorem pairs_keys {P : Program} {w : World} {l : List DictEntry} {kvs : List (Key × Value)} (hp : Pairs (mixKind P w) l kvs) : Vals (kvs.map fun p => kV p.1) (l.map (·.key)) := by
  induction hp with
  | nil => exact .nil
  | cons h1 h2 _ ih =>
    rw [List.map_cons, List.map_cons]
    exact .cons (relV_key (show keyIs _ _ = true from h1)) ih
theorem pairs_vals {P : Program} {w : World} {l : List DictEntry} {kvs : List (Key × Value)} (hp : Pairs (mixKind P w) l kvs) : l.map (·.val) = kvs.map (·.2) := by
  induction hp with
  | nil => rfl
  | cons h1 h2 _ ih => rw [List.map_cons, List.map_cons, h2, ih]
theorem vals_refs : ∀ xs : List (NestedKey × Addr × Value), Vals (xs.map fun x => V.ref x.2.1) (xs.map fun x => Value.ref x.2.1)
  | [] => .nil
  | x :: xs => by
    rw [List.map_cons, List.map_cons]
    exact .cons rfl (vals_refs xs)
/-- its entries -/
theorem DcO.raw {a : Addr} {o : Obj} {ks : List D} {kv us : List V} (I : Inv X pins σ H s) (hK : X.K = c.K) (hw : X.w = c.w) (sub : ∀ a o, G a = some o → H a = some o) (hD : H a = some (xdO a o)) (d : DcO c.w a o ks kv us) (ka : RpAll c G kv ks) :
    ∃ es ep, o.data = .dict es ep ∧ s.heap.DictRaw a es ep ∧ Vals kv (es.toList.map (·.key)) ∧ Vals us (es.toList.map (·.val)) ∧ es.size = ks.length := by
  have got := xd_get I hD
  rcases d.real I hK hw sub hD ka with ⟨kvs, ⟨o', es, ep, ho, hc, hd, hk, hp, hn⟩, rfl, rfl, e3, e4⟩ | ⟨xs, ⟨o', es, ep, ho, hc, hd, he, his, hn⟩, e1, rfl, e3, e4, e5, e6⟩
  · rw [got] at ho
    cases ho
    refine ⟨es, ep, hd, ⟨o, got, hc, hd⟩, pairs_keys hp, by rw [pairs_vals hp]; exact e3, ?_⟩
    · have := hp.length
      rw [Array.length_toList] at this
      rw [List.length_map]
      exact this
  · rw [got] at ho
    cases ho
    refine ⟨es, ep, hd, ⟨o, got, hc, hd⟩, by rw [he, List.map_map]; exact vals_refs xs, by rw [he, List.map_map]; exact e3, ?_⟩
    · have h1 := congrArg List.length e1
      have h2 := congrArg List.length he
      rw [List.length_map, List.length_map] at h1
      rw [List.length_map, Array.length_toList] at h2
      omega
end
end Fx
/-! dicts as data: comprehensions, reads, stores -/
namespace Fx
open PySem PySem.Spec PyProof.Rows L2
open C8 (Cal Mak pe_c pe_mk)
theorem valV_no : ∀ {kvs : List (Key × V)} {k : Key}, (kvs.map fun p => keyD p.1).any (keyEq (keyD k)) = false → valV kvs k = none
  | [], _, _ => rfl
  | p :: r, k, e => by
    rw [List.map_cons, List.any_cons, Bool.or_eq_false_iff, keyEq_keyD] at e
    have h : p.1 ≠ k := fun z => by simp [z] at e
    have := valV_no e.2
    unfold valV at this ⊢
    rw [List.find?_cons]
    simp [h, this]
theorem valV_at {c : Cfg} {G : Hp} : ∀ {kvs : List (Key × V)} {ds : List D} {k : Key} {i : Nat} {x : D}, RpAll c G (kvs.map (·.2)) ds → keyAt (kvs.map fun p => keyD p.1) (keyD k) = some i → ds[i]? = some x → ∃ v, valV kvs k = some v ∧ Rp c G v x
  | [], _, _, _, _, _, e, _ => by simp [keyAt] at e
  | p :: r, ds, k, i, x, ka, e, ex => by
    cases ka with
    | cons h ka =>
      rename_i d ds
      unfold keyAt at e
      rw [List.map_cons, List.findIdx?_cons] at e
      by_cases hk : keyEq (keyD k) (keyD p.1) = true
      · rw [hk] at e
        simp at e
        subst e
        rw [keyEq_keyD, decide_eq_true_eq] at hk
        simp at ex
        subst ex
        refine ⟨p.2, ?_, h⟩
        unfold valV
        rw [List.find?_cons]
        simp [hk]
      · have hk' : keyEq (keyD k) (keyD p.1) = false := by simpa using hk
        rw [hk'] at e
        simp at e
        obtain ⟨j, ej, rfl⟩ := e
        have hne : p.1 ≠ k := fun z => by
          rw [z, keyEq_keyD] at hk
          simp at hk
        obtain ⟨v, e1, e2⟩ := valV_at (k := k) (i := j) ka (by unfold keyAt; rw [List.findIdx?_map]; exact ej) (by simpa using ex)
        refine ⟨v, ?_, e2⟩
        unfold valV at e1 ⊢
        rw [List.find?_cons]
        simp only [hne, decide_false]
        exact e1
theorem RpAll.zip {c : Cfg} {G : Hp} {k x : D} {v : V} (hv : Rp c G v x) : ∀ {ks : List D} {us : List V} {ds : List D}, RpAll c G us ds → RpAll c G (List.zipWith (fun k' d => if keyEq k k' then v else d) ks us) (List.zipWith (fun k' d => if keyEq k k' then x else d) ks ds)
  | [], _, _, _ => by rw [List.zipWith_nil_left, List.zipWith_nil_left]; exact .nil
  | _ :: _, _, _, .nil => by rw [List.zipWith_nil_right, List.zipWith_nil_right]; exact .nil
  | k' :: ks, _, _, .cons h r => by
    rw [List.zipWith_cons_cons, List.zipWith_cons_cons]
    refine .cons ?_ (RpAll.zip hv r)
    split
    · exact hv
    · exact h
theorem RpAll.putV {c : Cfg} {G : Hp} {ks ds : List D} {us : List V} {k x : D} {v : V} (ka : RpAll c G us ds) (hv : Rp c G v x) : RpAll c G (putVs ks k us v) (putVs ks k ds x) := by
  unfold putVs
  split
  · exact ka.zip hv
  · exact ka.snoc hv
/-! ### readings -/
def LookX (c : Cfg) (H : Hp) (a : Addr) (y : V) (vo : Option V) : Prop := ∃ (o : Obj) (ks : List D) (kv us : List V) (k : D) (G : Hp), H a = some (xdO a o) ∧ DcO c.w a o ks kv us ∧ (∀ a o, G a = some o → H a = some o) ∧ RpAll c G kv ks ∧ Rp c G y k ∧ homog ks k = true ∧ vo = look ks k us
def PutX (c : Cfg) (H : Hp) (a : Addr) (y v : V) (Nx : Hp → Prop) : Prop := ∃ (o : Obj) (ks : List D) (kv us : List V) (k : D) (G : Hp), H a = some (xdO a o) ∧ DcO c.w a o ks kv us ∧ (∀ a o, G a = some o → H a = some o) ∧ RpAll c G kv ks ∧ Rp c G y k ∧ homog ks k = true ∧ ks.length < sizeLine ∧
  ∀ o', DcO c.w a o' (putKs ks k ks k) (putKs ks k kv y) (putVs ks k us v) → Nx (upd H a (xdO a o'))
def IsX (c : Cfg) (H : Hp) (a : Addr) : Prop := ∃ (o : Obj) (ks : List D) (kv us : List V), H a = some (xdO a o) ∧ DcO c.w a o ks kv us
section
variable {X : Cx} {pins : List (Addr × Obj)} {σ : L2.St} {H : Hp} {s : Shared} {c : Cfg} {a : Addr} {y : V} {u : Value} {vo : Option V}
theorem LookX.isX (h : LookX c H a y vo) : IsX c H a := let ⟨o, ks, kv, us, _, _, h1, h2, _⟩ := h; ⟨o, ks, kv, us, h1, h2⟩
theorem LookX.x (I : Inv X pins σ H s) (hK : X.K = c.K) (hw : X.w = c.w) (ry : RelV y u) (h : LookX c H a y vo) : XLook X s a u vo := by
  obtain ⟨o, ks, kv, us, k, G, h1, h2, h3, h4, h5, h6, rfl⟩ := h
  exact xd_look I hK hw h3 h1 h2 h4 h5 h6 ry
theorem IsX.at_ (I : Inv X pins σ H s) (h : IsX c H a) : s.TypeIs (.ref a) "dict" ∧ (∀ b, Value.ref a = .ref b → ∃ ob, s.heap.get? b = some ob ∧ ob.dict = none) ∧ (a == sysModules) = false := by
  obtain ⟨o, ks, kv, us, h1, h2⟩ := h
  have got := xd_get I h1
  refine ⟨⟨o, got, h2.exact.1⟩, fun b e => ?_, h2.sys⟩
  cases e
  exact ⟨o, got, h2.exact.2.1⟩
end
/-- .. of a dict told by its keys and values alone -/
def LookK (H : Hp) (a : Addr) (y : V) (vo : Option V) : Prop := ∃ kvs k, H a = some (.dK kvs) ∧ y = kV k ∧ vo = valV kvs k
def LookE (c : Cfg) (H : Hp) (a : Addr) (y : V) (vo : Option V) : Prop := H a = some (.dK []) ∧ (∃ (G : Hp) (k : D), (∀ a o, G a = some o → H a = some o) ∧ Rp c G y k ∧ isKeyT k = true) ∧ vo = none
def LookA (c : Cfg) (H : Hp) (a : Addr) (y : V) (vo : Option V) : Prop := LookX c H a y vo ∨ LookK H a y vo ∨ LookE c H a y vo
def IsA (c : Cfg) (H : Hp) (a : Addr) : Prop := IsX c H a ∨ ∃ kvs, H a = some (.dK kvs)
section
variable {X : Cx} {pins : List (Addr × Obj)} {σ : L2.St} {H : Hp} {s : Shared} {c : Cfg} {a : Addr} {y : V} {u : Value} {vo : Option V}
theorem LookA.isA (h : LookA c H a y vo) : IsA c H a := by
  rcases h with h | ⟨kvs, k, h, _⟩ | ⟨h, _⟩
  · exact .inl h.isX
  · exact .inr ⟨_, h⟩
  · exact .inr ⟨_, h⟩
theorem IsA.at_ (I : Inv X pins σ H s) (h : IsA c H a) : s.TypeIs (.ref a) "dict" ∧ (∀ b, Value.ref a = .ref b → ∃ ob, s.heap.get? b = some ob ∧ ob.dict = none) ∧ (a == sysModules) = false := by
  rcases h with h | ⟨kvs, h⟩
  · exact h.at_ I
  · exact isD_at I (.inl ⟨kvs, .inl h⟩)
theorem LookA.x (I : Inv X pins σ H s) (hK : X.K = c.K) (hw : X.w = c.w) (ry : RelV y u) (h : LookA c H a y vo) : XLook X s a u vo := by
  rcases h with h | ⟨kvs, k, h, rfl, rfl⟩ | ⟨h, ⟨G, k, sub, hk, ht⟩, rfl⟩
  · exact h.x I hK hw ry
  · obtain ⟨z, hd, vs, rel, dd⟩ := dk_of I.hok h
    exact .inl ⟨vs, k, dd, ry, rel.val k⟩
  · obtain ⟨z, hd, vs, rel, dd⟩ := dk_of I.hok h
    cases rel
    obtain ⟨ds, n, rfl, e1, e2, e3⟩ := keyT_of ht
    obtain ⟨b, vs, rfl, _⟩ := hk.tupE
    cases ry
    exact .inr ⟨[], .tup n, b, rfl, DictOf.flip dd, ⟨rp_nested I hK sub hk e2 rfl, e3⟩, True.intro⟩
end
def rInX (c : Cfg) (neg : Bool) : R2 := fun y x H Q => ∃ a o, x = .ref a ∧ LookA c H a y o ∧ Q (.bl (if neg then !o.isSome else o.isSome)) H
def rSetX (c : Cfg) : TSet := fun o i v H Q => ∃ p, o = .ref p ∧ PutX c H p i v Q
section
variable {X : Cx} {c : Cfg} {o i e f value : Expr} {pos pos' apos cpos : Pos} {td ty tv tx : TE}
/-- d[y] by values -/
def rGetX (c : Cfg) : R2 := fun x y H Q => ∃ a v, x = .ref a ∧ LookA c H a y (some v) ∧ Q v H
theorem ix_X (hK : X.K = c.K) (hw : X.w = c.w) (hu : X.A.units + 10 < cLine) : IxR X (rGetX c) := by
  intro ve se pins st σ H x y xv yv Q I rx ry ⟨a, v, ex, look, fin⟩ plain
  subst ex
  cases rx
  have ty := (look.isA.at_ I).1
  unfold subscriptTail
  refine wpAny_bind ?_
  rw [getitemInPython_of_ne ty.not_modules]
  refine wpAny_bind (wpAny_specialOf ty PySem.F.slot_dict_getitem.lookup ?_)
  have got := x_getItem (E := X.xe) (Q := EP X pins σ Q) hu I (look.x I hK hw ry) fun w' s' I' rw' => ⟨v, H, I', rw', fin⟩
  first
    | exact wpAny_pure (wpAny_bind (by rw [plain]; exact wpAny_operating (wpAny_mono got (fun _ _ h => wpAny_bind (wpAny_letTemporaryGo (wpAny_pure h))) fun _ _ h => h)))
    | exact wpAny_bind (wpAny_pure (wpAny_bind (by rw [plain]; exact wpAny_operating (wpAny_mono got (fun _ _ h => wpAny_bind (wpAny_letTemporaryGo (wpAny_pure h))) fun _ _ h => h))))
    | exact wpAny_bind (by rw [plain]; exact wpAny_operating (wpAny_mono got (fun _ _ h => wpAny_bind (wpAny_letTemporaryGo (wpAny_pure h))) fun _ _ h => h))
theorem op_ninX (hK : X.K = c.K) (hw : X.w = c.w) (hu : X.A.units + 10 < cLine) : OpR X (compareOp .NotIn) (rInX c true) := by
  rintro pins st σ H y x yv xv Q I ry rx ⟨a, vo, ex, look, fin⟩
  subst ex
  cases rx
  exact x_notIn hu I (look.isA.at_ I).2.2 (look.x I hK hw ry) fun s' I' => ⟨.bl (!vo.isSome), H, I', rfl, fin⟩
theorem set_X (hK : X.K = c.K) (hw : X.w = c.w) (hu : X.A.units + 10 < cLine) : PSet X (rSetX c) := by
  rintro pins st σ H x y v xv yv zv Q I rx ry rz ⟨p, ex, ob, ks, kv, us, k, G, p1, p2, p3, p4, p5, p6, p7, fin⟩
  subst ex
  cases rx
  exact x_setItem hu I hK hw p3 p1 p2 p4 p5 p6 p7 ry rz fun s' o' I' d => ⟨_, I', fin o' d⟩
end
section
variable {X : Cx} {c : Cfg}
/-- {k: v for target in iter if ..}: dd the new dict -/
def tDcX (c : Cfg) (wi : TI) (g : TG) (tt : TT) (tk tv : TE) (vs : List Nat) : TE := fun σ H Q => wi σ H fun J H1 => ∀ dd o0, H1 dd = none → DcO c.w dd o0 [] [] [] → ∃ W : Nat → Nat → Hp → Prop, (∃ m, W 0 m (upd H1 dd (xdO dd o0))) ∧ ∀ i m H, W i m H →
  (J.stop i H ∧ Q (.ref dd) H) ∨ (J.go i H ∧ ∃ Nx : Hp → Prop, (∀ H', Nx H' → ∃ m', m' < m ∧ W (i + 1) m' H') ∧ ∀ x H', J.yld i H x H' → g x (L2.wipe σ vs) H' fun σ2 H2 => L2.wipe σ2 vs = L2.wipe σ vs ∧ tt σ2 H2 fun b H3 =>
    if b = true then tk σ2 H3 fun y H4 => tv σ2 H4 fun z H5 => PutX c H5 dd y z Nx else Nx H3)
/-- what holds ahead of each turn -/
def AtTurn (Y : Cx) (σ0 : L2.St) (fp : List Addr) (tn : Nat → Heap → Prop) (W : Nat → Nat → Hp → Prop) (n : Nat) (s : Shared) : Prop := ∃ i H, Inv Y [] σ0 H s ∧ tn i s.heap ∧ (∀ b ∈ fp, H b = none) ∧ W i n H
/-- the loop of a dict's comprehension, in its own block Y -/
theorem loopX {Y : Cx} (hK : Y.K = c.K) (hw : Y.w = c.w) (hu : Y.A.units + 10 < cLine) (calm : Y.calm = true) (hE : Y.xe = fun _ _ => False) {σ0 : L2.St} {vs : List Nat} {fp : List Addr} {it dd : Addr} {tn : Nat → Heap → Prop} {J : It} {W : Nat → Nat → Hp → Prop} {Qd : Hp → Prop} {R : Result → Shared → Prop}
    {kx vx tg iter : Expr} {ifs : List Expr} {scope : Scope} {pos : Pos} {g : TG} {tt : TT} {tk tv : TE} (T : Turn Y.prog Y.w Y.K tg J fp it tn) (mine : ∀ {σ H s}, Inv Y [] σ H s → (∀ b ∈ fp, H b = none) → ∀ b ∈ fp, FpOk Y [] H b)
    (pg : PG Y tg g) (pt : PTs Y ifs tt) (pk : PE Y kx tk) (pv : PE Y vx tv)
    (turn : ∀ i m H, W i m H → (J.stop i H ∧ Qd H) ∨ (J.go i H ∧ ∃ Nx : Hp → Prop, (∀ H', Nx H' → ∃ m', m' < m ∧ W (i + 1) m' H') ∧ ∀ x H', J.yld i H x H' → g x σ0 H' fun σ2 H2 => L2.wipe σ2 vs = σ0 ∧ tt σ2 H2 fun b H3 =>
      if b = true then tk σ2 H3 fun y H4 => tv σ2 H4 fun z H5 => PutX c H5 dd y z Nx else Nx H3))
    (ends : ∀ H s, Inv Y [] σ0 H s → Qd H → R (.ok .next) s) {n : Nat} {s : Shared} (start : AtTurn Y σ0 fp tn W n s) : codeAny (model Y.prog Y.w) Y.A (.compLoop (.DictComp kx vx [⟨tg, iter, ifs, 0⟩] scope pos) 0 (.ref it) (.ref dd) Y.env) R s := by
  refine compLoop_anyD (AtTurn Y σ0 fp tn W) (fun n s ⟨i, H, inv, at_, free, w⟩ => ?_) n start
  have ok := mine inv free
  have back : ∀ {P : Shared → Prop} {α : Type} {m : Sem α} {Q' : α → Shared → Prop} {E' : Value → Shared → Prop} {s' : Shared}, wpAny (model Y.prog Y.w) Y.A m Q' Y.xe s' → wpAny (model Y.prog Y.w) Y.A m Q' E' s' := fun {P α m Q' E' s'} h =>
    wpAny_mono h (fun _ _ z => z) fun _ _ z => by rw [hE] at z; exact z.elim
  rcases turn i n H w with ⟨stop, fin⟩ | ⟨go, Nx, less, step⟩
  · exact wpAny_mono (T.done Y rfl rfl rfl calm i [] s σ0 H (fun _ _ => False) inv ok at_ stop) (fun r s1 ⟨er, inv1⟩ => by subst er; exact ends H s1 inv1 fin) fun _ _ z => z.elim
  · refine wpAny_mono (T.item Y rfl rfl rfl calm i [] s σ0 H (fun _ _ => False) inv ok at_ go) (fun r s1 ⟨u, er, h1⟩ => ?_) fun _ _ z => z.elim
    subst er
    refine wpAny_mono h1 (fun _ s2 ⟨x, H2, inv2, rx, came, at2, free2⟩ => ?_) fun _ _ z => z.elim
    have locked := inv2.pinned (mine inv2 free2) (T.obj _ _ at2)
    have again : ∀ {σ3 : L2.St} {H3 : Hp} {s3 : Shared}, L2.wipe σ3 vs = σ0 → Inv Y ([] ++ pinsAt fp s2.heap) σ3 H3 s3 → Nx H3 → ∃ m, m < n ∧ AtTurn Y σ0 fp tn W m s3 := fun {σ3 H3 s3} eσ inv3 nx => by
      obtain ⟨m, lt, w3⟩ := less H3 nx
      have stays : ∀ b ∈ fp, ∀ ob, s2.heap.get? b = some ob → s3.heap.get? b = some ob ∧ H3 b = none := fun b hb ob e => by
        have pin := inv3.pin (b, ob) (List.mem_append_right _ (List.mem_append_right _ (mem_pinsAt hb e)))
        exact ⟨pin.1, pin.2.1⟩
      have short := (inv3.unpinned (pins := [])).weak (σ' := σ0) (by rw [← eσ, wipe_length]) fun j v e => (wipe_some (eσ.symm ▸ e)).1
      refine ⟨m, lt, i + 1, H3, short, T.keep _ _ _ at2 fun b hb ob e => (stays b hb ob e).1, fun b hb => ?_, w3⟩
      obtain ⟨ob, e, _⟩ := T.obj _ _ at2 b hb
      exact (stays b hb ob e).2
    refine back (P := fun _ => True) (wpAny_mono (pg.run _ s2 _ H2 x u _ locked rx (step x H2 came)) (fun _ s3 ⟨σ3, H3, inv3, eσ, q3⟩ => ?_) fun _ _ z => z)
    refine back (P := fun _ => True) (wpAny_mono (pt.run _ s3 σ3 H3 _ inv3 q3) (fun b s4 ⟨H4, inv4, q4⟩ => ?_) fun _ _ z => z)
    cases b with
    | false => exact again eσ inv4 q4
    | true =>
      refine back (P := fun _ => True) (wpAny_mono (pk.run _ s4 σ3 H4 _ inv4 q4) (fun yv s5 ⟨y, H5, inv5, ry, q5⟩ => ?_) fun _ _ z => z)
      refine back (P := fun _ => True) (wpAny_mono (pv.run _ s5 σ3 H5 _ inv5 q5) (fun zv s6 ⟨z, H6, inv6, rz, ob, ks, kv, us, k, G, p1, p2, p3, p4, p5, p6, p7, nx⟩ => ?_) fun _ _ z => z)
      exact x_dictSet (X := Y) hu inv6 hK hw p3 p1 p2 p4 p5 p6 p7 ry rz fun s7 o' inv7 d => again eσ inv7 (nx o' d)
/-- an address that is free in the def's context -/
theorem fpOk_free {X : Cx} {pins : List (Addr × Obj)} {H : Hp} {b : Addr} (h : FpOk X pins H b) : (b ∈ X.ex ∨ X.s_0.heap.objs.size ≤ b) ∧ b ≠ X.env.locals ∧ (∀ x c, X.env.cells.lookup x = some c → c ≠ b) ∧ ∀ p ∈ X.pn ++ pins, p.1 ≠ b := by
  obtain ⟨_, a, _, b', c', d⟩ := h
  exact ⟨b', a, c', d⟩
theorem dcx_core (hK : X.K = c.K) (hw : X.w = c.w) (hu : X.A.units + 10 < cLine) {pins : List (Addr × Obj)} {s : Shared} {σ : L2.St} {H : Hp} {Q : VK} {kx vx tg iter : Expr} {ifs : List Expr} {scope : Scope} {own : List (Str × Nat)} {pos pos' : Pos} {wi : TI} {g : TG} {tt : TT} {tk tv : TE} {use : Option (Value → Sem Unit)} {Qf : Value → Shared → Prop}
    (calm : X.calm = true) (nd : X.N.Nodup) (I : Inv X pins σ H s) (hi : PI X tg iter wi) (blk : BlkOk X.N X.env.scope scope own)
    (pg : ∀ (s : Shared) (H : Hp) (C : Addr) (cl : List (Str × Addr)) (fp : List Addr), PG (X.blk s H scope (compEnvC scope cl C X.env) fp) tg g) (pt : ∀ (s : Shared) (H : Hp) (C : Addr) (cl : List (Str × Addr)) (fp : List Addr), PTs (X.blk s H scope (compEnvC scope cl C X.env) fp) ifs tt)
    (pk : ∀ (s : Shared) (H : Hp) (C : Addr) (cl : List (Str × Addr)) (fp : List Addr), PE (X.blk s H scope (compEnvC scope cl C X.env) fp) kx tk) (pv : ∀ (s : Shared) (H : Hp) (C : Addr) (cl : List (Str × Addr)) (fp : List Addr), PE (X.blk s H scope (compEnvC scope cl C X.env) fp) vx tv)
    (plain : ∀ x, foldedSetIterable iter X.env x = pure x) (h : tDcX c wi g tt tk tv (own.map (·.2)) σ H Q)
    (leave : ∀ D C s' m H', Inv X pins σ H' s' → Q (.ref D) H' → s'.heap.Ns C m → FpOk X pins H' C → compPost (model X.prog X.w) X.A X.xe use Qf (.ref D) C (.ok .next) s') :
    wpAny (model X.prog X.w) X.A (comprehension (.DictComp kx vx [⟨tg, iter, ifs, 0⟩] scope pos) scope X.env pos' newDict false (eval iter X.env) use) Qf X.xe s := by
  have free : ∀ y ∈ scope.names, y.2 = .free → ∃ c, X.env.cells.lookup y.1 = some c := fun y hy e => (blk.free y hy e).elim (fun k => I.ok.has _ (.inl k)) fun k => I.ok.has _ (.inr k)
  refine wpAny_comprehension_free (use := use) rfl plain (closure_ok free) blk.kind (fun y hy e => e ▸ blk.uniq y hy) (thn (hi.run pins s σ H _ I h) fun xv s1 come => thn come fun iv s2 h2 => ?_)
  obtain ⟨it, fp, tn, J, H2, ev, I2, T, at2, mine2, rest⟩ := h2
  subst ev
  refine wpAny_newObj_type (newEnv_comp ?_)
  -- the new dict at D, tracked
  obtain ⟨D, eD⟩ : ∃ D, D = s2.heap.objs.size := ⟨_, rfl⟩
  rw [← eD]
  have dc : DcO c.w D { cls := .type "dict", data := .dict #[] } [] [] [] := eD ▸ DcO.new I2.big
  obtain ⟨o0, eo⟩ : ∃ o0 : Obj, o0 = { cls := .type "dict", data := .dict #[] } := ⟨_, rfl⟩
  rw [← eo] at dc
  have noD : H2 D = none := I2.hok.fresh (Nat.le_of_eq eD.symm)
  obtain ⟨W, ⟨n0, w0⟩, turn⟩ := rest D o0 noD dc
  obtain ⟨s3, e3⟩ : ∃ s3 : Shared, s3 = { s2 with heap := s2.heap.push { cls := .type "dict", data := .dict #[] } } := ⟨_, rfl⟩
  have I3 : Inv X pins σ (upd H2 D (xdO D o0)) s3 := by
    rw [e3]
    exact I2.laid (t' := s2.toks) (fun _ _ e => Heap.get?_push_of_some _ e) (Nat.le_of_eq eD.symm) (by rw [eo, eD]; exact xd_ok (Heap.get?_push_size _ rfl))
  have kept3 : ∀ b ob, s2.heap.get? b = some ob → s3.heap.get? b = some ob := fun b ob e => by rw [e3]; exact Heap.get?_push_of_some _ e
  have low : ∀ b ∈ fp, b < s2.heap.objs.size := fun b hb => let ⟨_, e, _⟩ := T.obj _ _ at2 b hb; Heap.lt_size e
  have mine3 : ∀ b ∈ fp, FpOk X pins (upd H2 D (xdO D o0)) b ∧ b < s3.heap.objs.size := fun b hb => by
    have lt := low b hb
    refine ⟨⟨?_, (mine2 b hb).2⟩, ?_⟩
    · rw [upd_ne (by rw [eD]; exact Nat.ne_of_lt lt)]
      exact (mine2 b hb).1
    · rw [e3, Heap.size_push]
      exact Nat.lt_succ_of_lt lt
  have at3 : tn 0 s3.heap := T.keep _ _ _ at2 fun b _ => kept3 b
  -- the block
  have I4 := block_start I3 blk nd mine3
  have pg := pg s3 (upd H2 D (xdO D o0)) s3.heap.objs.size (cellsFrom (s3.heap.objs.size + 1) scope.names (cloFrom X.env.cells scope.names [])) fp
  have pt := pt s3 (upd H2 D (xdO D o0)) s3.heap.objs.size (cellsFrom (s3.heap.objs.size + 1) scope.names (cloFrom X.env.cells scope.names [])) fp
  have pk := pk s3 (upd H2 D (xdO D o0)) s3.heap.objs.size (cellsFrom (s3.heap.objs.size + 1) scope.names (cloFrom X.env.cells scope.names [])) fp
  have pv := pv s3 (upd H2 D (xdO D o0)) s3.heap.objs.size (cellsFrom (s3.heap.objs.size + 1) scope.names (cloFrom X.env.cells scope.names [])) fp
  rw [← e3]
  obtain ⟨s4, e4⟩ : ∃ s4 : Shared, s4 = { s3 with heap := pushCells (s3.heap.push { cls := .type "dict", data := .dict #[] }) scope.names } := ⟨_, rfl⟩
  rw [← e4] at I4
  have at4 : tn 0 s4.heap := T.keep _ _ _ at3 fun b _ ob e => by rw [e4]; exact pushCells_keeps _ _ _ _ (Heap.get?_push_of_some _ e)
  obtain ⟨Y, eY⟩ : ∃ Y : Cx, Y = X.blk s3 (upd H2 D (xdO D o0)) scope (compEnvC scope (cellsFrom (s3.heap.objs.size + 1) scope.names (cloFrom X.env.cells scope.names [])) s3.heap.objs.size X.env) fp := ⟨_, rfl⟩
  rw [← eY] at I4 pg pt pk pv
  have loc : Y.env.locals = s3.heap.objs.size := by rw [eY]; rfl
  have run : codeAny (model X.prog X.w) X.A (.compLoop (.DictComp kx vx [⟨tg, iter, ifs, 0⟩] scope pos) 0 (.ref it) (.ref D) Y.env) (compPost (model X.prog X.w) X.A X.xe use Qf (.ref D) s3.heap.objs.size) s4 := by
    have key := loopX (Y := Y) (c := c) (σ0 := L2.wipe σ (own.map (·.2))) (vs := own.map (·.2)) (fp := fp) (it := it) (dd := D) (tn := tn) (J := J) (W := W) (Qd := Q (.ref D)) (R := compPost (model X.prog X.w) X.A X.xe use Qf (.ref D) s3.heap.objs.size) (kx := kx) (vx := vx) (iter := iter) (scope := scope) (pos := pos) (n := n0) (s := s4)
      (by rw [eY]; exact hK) (by rw [eY]; exact hw) (by rw [eY]; exact hu) (by rw [eY]; exact calm) (by rw [eY]) (by rw [eY]; exact T) ?_ pg pt pk pv turn ?_ ⟨0, _, I4, at4, fun b hb => (mine3 b hb).1.1, w0⟩
    · rw [eY] at key ⊢
      exact key
    · intro σ5 H5 s5 I5 no b hb
      rw [eY] at I5 ⊢
      exact ⟨no b hb, (I5.ok.exf b hb).1, I5.ok.exfs b hb, .inl hb, fun x c e => (I5.ok.exf b hb).2 x c e, fun p hp => absurd (show p ∈ ([] : List (Addr × Obj)) ++ [] from hp) (by simp)⟩
    · intro H5 s5 I5 fin
      obtain ⟨m, ns, _⟩ := id I5.loc
      have noC := I5.free
      rw [loc] at ns noC
      rw [eY] at I5
      exact leave D s3.heap.objs.size s5 m H5 (I3.call' (ch := fp) I5.os I5.base I5.hok I5.bare fun b hb => fpOk_free (mine3 b hb).1) fin ns (I3.fpOk (Nat.le_refl _) noC)
  have whole := codeAny_compStart_dict run (T.self X.A 0 _ _ _ at4 run)
  rw [eY, e4] at whole
  exact whole
end
end Fx
/-! dicts on data -/
namespace Fx
open PySem PySem.Spec PyProof.Rows L2
open C8 (Cal Mak pe_c pe_mk)
theorem dcx_it {c : Cfg} {J : It} {n : Nat} {G : Hp → Prop} {Y : Nat → Hp → V → Hp → Prop} (w : Walk J n G Y) {g : TG} {tt : TT} {tk tv : TE} {vs : List Nat} {σ : L2.St} {H1 : Hp} {dd : Addr} {o0 : Obj} {Qd : Hp → Prop} (Pv : Nat → Hp → Prop) (h0 : Pv 0 (upd H1 dd (xdO dd o0))) (hG : ∀ i H, i ≤ n → Pv i H → G H)
    (hs : ∀ i x H H', i < n → Pv i H → Y i H x H' → g x (L2.wipe σ vs) H' fun σ2 H2 => L2.wipe σ2 vs = L2.wipe σ vs ∧ tt σ2 H2 fun b H3 =>
      if b = true then tk σ2 H3 fun y H4 => tv σ2 H4 fun z H5 => PutX c H5 dd y z (Pv (i + 1)) else Pv (i + 1) H3) (hd : ∀ H, Pv n H → Qd H) :
    ∃ W : Nat → Nat → Hp → Prop, (∃ m, W 0 m (upd H1 dd (xdO dd o0))) ∧ ∀ i m H, W i m H →
      (J.stop i H ∧ Qd H) ∨ (J.go i H ∧ ∃ Nx : Hp → Prop, (∀ H', Nx H' → ∃ m', m' < m ∧ W (i + 1) m' H') ∧ ∀ x H', J.yld i H x H' → g x (L2.wipe σ vs) H' fun σ2 H2 => L2.wipe σ2 vs = L2.wipe σ vs ∧ tt σ2 H2 fun b H3 =>
        if b = true then tk σ2 H3 fun y H4 => tv σ2 H4 fun z H5 => PutX c H5 dd y z Nx else Nx H3) := by
  refine ⟨fun i m H => m = n - i ∧ i ≤ n ∧ Pv i H, ⟨n, by simp, Nat.zero_le _, h0⟩, ?_⟩
  rintro i m H ⟨rfl, hi, p⟩
  have q := hG i H hi p
  by_cases hlt : i < n
  · refine .inr ⟨w.goes i H hlt q, Pv (i + 1), fun H' p' => ⟨n - (i + 1), by omega, rfl, hlt, p'⟩, fun x H' y => hs i x H H' hlt p (w.yields i H x H' hlt q y)⟩
  · have e : i = n := by omega
    subst e
    exact .inl ⟨w.stops H q, hd H p⟩
/-! ### reads -/
def gDget : D → D → Option S
  | .dct ks ds, k => if homog ks k then (look ks k ds).bind ok1 else none
  | .dcq ks ds, k => if homog ks k then (look ks k ds).bind ok1 else none
  | _, _ => none
def gInD (neg : Bool) : D → D → Option S
  | k, .dct ks _ => if homog ks k then ok1 (.bl (if neg then !hasKey ks k else hasKey ks k)) else none
  | _, _ => none
/-- a name that holds a dict, whether it may still be changed or not -/
def isDc : D → Bool
  | .dct _ _ => true
  | .dcq _ _ => true
  | _ => false
def peekD (ρ : En) (i : Nat) : Bool := match peek ρ i with
  | some x => isDc x
  | none => false
section
variable {c : Cfg} {B : Base} {W : WX} {ts : En} {vs : List (Option V)} {ρ : En} {σ : L2.St} {H : Hp} {ta tb tx : TE} {fa fb fx : M S} {i : Nat}
theorem look_rp {G : Hp} {us : List V} {ds ks : List D} {k x : D} (ka : RpAll c G us ds) (e : look ks k ds = some x) : ∃ v, look ks k us = some v ∧ Rp c G v x := by
  unfold look at e ⊢
  cases h : keyAt ks k with
  | none => rw [h] at e; cases e
  | some j =>
    rw [h] at e
    exact ka.get e
theorem look_no {G : Hp} {us : List V} {ds ks : List D} {k : D} (ka : RpAll c G us ds) (e : look ks k ds = none) : look ks k us = none := by
  unfold look at e ⊢
  cases h : keyAt ks k with
  | none => rfl
  | some j =>
    rw [h] at e
    have e : ds[j]? = none := e
    show us[j]? = none
    rw [List.getElem?_eq_none_iff] at e ⊢
    rw [ka.length]
    exact e
/-- a dict at a, either of its two forms -/
def DcAt (c : Cfg) (G H : Hp) (a : Addr) (ks ds : List D) : Prop := (∃ kvs : List (Key × V), H a = some (.dK kvs) ∧ ks = kvs.map (fun p => keyD p.1) ∧ RpAll c G (kvs.map (·.2)) ds) ∨ ∃ o kv us, H a = some (xdO a o) ∧ DcO c.w a o ks kv us ∧ RpAll c G kv ks ∧ RpAll c G us ds
theorem Rp.dcE {G : Hp} {v : V} {ks ds : List D} (s : ∀ a o, G a = some o → H a = some o) (h : Rp c G v (.dct ks ds)) : ∃ a, v = .ref a ∧ DcAt c G H a ks ds := by
  cases h with
  | @dcx a o kv us _ _ ha hd k1 k2 => exact ⟨a, rfl, .inr ⟨o, kv, us, s _ _ ha, hd, k1, k2⟩⟩
theorem DcAt.isA {G : Hp} {a : Addr} {ks ds : List D} (h : DcAt c G H a ks ds) : IsA c H a := by
  rcases h with ⟨kvs, ha, _⟩ | ⟨o, kv, us, ha, hd, _⟩
  · exact .inr ⟨kvs, ha⟩
  · exact .inl ⟨o, ks, kv, us, ha, hd⟩
theorem Rp.dqE {G : Hp} {v : V} {ks ds : List D} (s : ∀ a o, G a = some o → H a = some o) (h : Rp c G v (.dcq ks ds)) : ∃ a, v = .ref a ∧ DcAt c G H a ks ds := by
  cases h with
  | @dct a kvs _ ha ka => exact ⟨a, rfl, .inl ⟨kvs, s _ _ ha, rfl, ka⟩⟩
/-- what is found -/
inductive OptRp (c : Cfg) (G : Hp) : Option V → Option D → Prop
  | none : OptRp c G none none
  | some {v : V} {x : D} : Rp c G v x → OptRp c G (some v) (some x)
theorem valV_none {kvs : List (Key × V)} {k : Key} (e : keyAt (kvs.map fun p => keyD p.1) (keyD k) = none) : valV kvs k = none := by
  refine valV_no ?_
  have := any_idx (p := keyEq (keyD k)) (l := kvs.map fun p => keyD p.1)
  unfold keyAt at e
  rw [e] at this
  exact this
theorem keyAt_lt {ks : List D} {k : D} {j : Nat} (e : keyAt ks k = some j) : j < ks.length := (List.findIdx?_eq_some_iff_findIdx_eq.mp e).1
theorem DcAt.find {G : Hp} {a : Addr} {ks ds : List D} {w : V} {k : D} (s : ∀ a o, G a = some o → H a = some o) (h : DcAt c G H a ks ds) (h2 : Rp c G w k) (hm : homog ks k = true) :
    ∃ vo, LookA c H a w vo ∧ OptRp c G vo (look ks k ds) ∧ vo.isSome = hasKey ks k := by
  have hs : ∀ (n : Nat) (l : List D), l.length = ks.length → (look ks k l).isSome = hasKey ks k := by
    intro n l hl
    unfold look hasKey
    rw [any_idx]
    show ((keyAt ks k).bind fun i => l[i]?).isSome = (keyAt ks k).isSome
    cases e : keyAt ks k with
    | none => rfl
    | some i =>
      have hi := keyAt_lt e
      show (l[i]?).isSome = true
      rw [List.getElem?_eq_getElem (by omega)]
      rfl
  rcases h with ⟨kvs, ha, rfl, ka⟩ | ⟨o, kv, us, ha, hd, k1, k2⟩
  · have hl : ds.length = (kvs.map fun p => keyD p.1).length := by rw [← ka.length, List.length_map, List.length_map]
    have hs' := hs 0 ds hl
    unfold homog at hm
    rw [Bool.or_eq_true, Bool.and_eq_true, Bool.and_eq_true] at hm
    have real : isKey k = true → ∃ vo, LookA c H a w vo ∧ OptRp c G vo (look (kvs.map fun p => keyD p.1) k ds) ∧ vo.isSome = hasKey (kvs.map fun p => keyD p.1) k := by
      intro hk
      obtain ⟨k0, rfl, rfl⟩ := key_of h2 hk
      refine ⟨valV kvs k0, .inr (.inl ⟨kvs, k0, ha, rfl, rfl⟩), ?_, ?_⟩
      · cases e : look (kvs.map fun p => keyD p.1) (keyD k0) ds with
        | none =>
          have : keyAt (kvs.map fun p => keyD p.1) (keyD k0) = none := by
            unfold Fx.look at e
            cases ei : keyAt (kvs.map fun p => keyD p.1) (keyD k0) with
            | none => rfl
            | some j =>
              rw [ei] at e
              have hj := keyAt_lt ei
              have e : ds[j]? = none := e
              rw [List.getElem?_eq_getElem (by omega)] at e
              cases e
          rw [valV_none this]
          exact .none
        | some x =>
          unfold Fx.look at e
          cases ei : keyAt (kvs.map fun p => keyD p.1) (keyD k0) with
          | none => rw [ei] at e; cases e
          | some j =>
            rw [ei] at e
            obtain ⟨u, e1, e2⟩ := valV_at ka ei e
            rw [e1]
            exact .some e2
      · rw [← valV_any, ← any_map2 (p := keyEq (keyD k0)) (l1 := kvs.map fun p => keyD p.1) (q := fun kv : Key × V => decide (kv.1 = k0)) (l2 := kvs)]
        · rfl
        · rw [List.map_map]
          apply List.map_congr_left
          intro p _
          show keyEq (keyD k0) (keyD p.1) = _
          rw [keyEq_keyD]
          by_cases e : p.1 = k0
          · rw [decide_eq_true e, decide_eq_true e.symm]
          · rw [decide_eq_false e, decide_eq_false fun z => e z.symm]
    rcases hm with hm | hm
    · exact real hm.1
    · cases kvs with
      | nil => exact ⟨none, .inr (.inr ⟨ha, ⟨G, k, s, h2, hm.1⟩, rfl⟩), .none, rfl⟩
      | cons p r =>
        have := hm.2
        rw [List.map_cons, List.all_cons, key_notT] at this
        cases this
  · refine ⟨Fx.look ks k us, .inl ⟨o, ks, kv, us, k, G, ha, hd, s, k1, h2, hm, rfl⟩, ?_, hasKey_look hd⟩
    cases e : Fx.look ks k ds with
    | none => rw [look_no k2 e]; exact .none
    | some x =>
      obtain ⟨u, e1, e2⟩ := look_rp k2 e
      rw [e1]
      exact .some e2
theorem den_dget (ha : Den c W ta fa) (hb : Den c W tb fb) : Den c W (tOp (rGetX c) ta tb) (mOp gDget fa fb) := fun B ts vs ρ σ H Q r q => by
  unfold mOp at q
  rw [post_then] at q
  refine ha.dv r (q.imp1 fun x ρ1 q v H1 r1 => ?_)
  rw [post_then] at q
  refine hb.dv r1 (q.imp (fun y ρ2 q w H2 r2 => ?_) fun _ _ h => h.drop)
  have q : Post (OkP c B ts vs σ Q) (ErrP c W B ts vs σ) (match gDget x y with
    | some s => .ok s ρ2
    | none => .stuck) := q
  cases x with
  | dct ks ds =>
    cases e : gDget (.dct ks ds) y with
    | none => rw [e] at q; exact q.elim
    | some s =>
      rw [e] at q
      have e : (if homog ks y then (look ks y ds).bind ok1 else none) = some s := e
      split at e
      · rename_i hm
        obtain ⟨G, O, h1, h2⟩ := r2.two
        obtain ⟨a, rfl, g⟩ := h1.dcE O.sub
        obtain ⟨vo, g1, g2, _⟩ := g.find O.sub h2 hm
        cases el : look ks y ds with
        | none => rw [el] at e; cases e
        | some z =>
          rw [el] at e g2
          cases e
          cases g2 with
          | some hu => exact ⟨a, _, rfl, g1, q _ _ (O.val hu)⟩
      · cases e
  | dcq ks ds =>
    cases e : gDget (.dcq ks ds) y with
    | none => rw [e] at q; exact q.elim
    | some s =>
      rw [e] at q
      have e : (if homog ks y then (look ks y ds).bind ok1 else none) = some s := e
      split at e
      · rename_i hm
        obtain ⟨G, O, h1, h2⟩ := r2.two
        obtain ⟨a, rfl, g⟩ := h1.dqE O.sub
        obtain ⟨vo, g1, g2, _⟩ := g.find O.sub h2 hm
        cases el : look ks y ds with
        | none => rw [el] at e; cases e
        | some z =>
          rw [el] at e g2
          cases e
          cases g2 with
          | some hu => exact ⟨a, _, rfl, g1, q _ _ (O.val hu)⟩
      · cases e
  | _ => exact q.elim
/-- the dict that a name holds -/
theorem Rep.dctAt {x : D} {ks ds : List D} (e : peek ρ i = some x) (hx : x = .dct ks ds ∨ x = .dcq ks ds) (r : Rep c B ts vs ρ σ H) : ∃ a G o1 o2, σ[i]? = some (some (.ref a)) ∧ OkB c B G H (o1 ++ o2) ∧ Sl c B G H ts vs o1 ∧ Sl c B G H ρ σ o2 ∧ DcAt c G H a ks ds := by
  unfold peek at e
  obtain ⟨G, o1, o2, k, h1, h2⟩ := r
  split at e
  · rename_i x e1
    cases e
    obtain ⟨v, ev, hv⟩ := h2.getD e1
    rcases hx with rfl | rfl
    · obtain ⟨a, rfl, g⟩ := hv.dcE k.sub
      exact ⟨a, G, o1, o2, ev, k, h1, h2, g⟩
    · obtain ⟨a, rfl, g⟩ := hv.dqE k.sub
      exact ⟨a, G, o1, o2, ev, k, h1, h2, g⟩
  · rename_i b x e1
    cases e
    obtain ⟨a, ev, hc, _, _⟩ := h2.getO e1
    rcases hx with rfl | rfl
    · exact ⟨a, G, o1, o2, ev, k, h1, h2, .inr hc⟩
    · exact hc.elim
  · cases e
def mDgetN (i : Nat) (fb : M S) : M S := fun ρ => if peekD ρ i then (dv fb ρ).then fun y ρ1 => match peek ρ1 i with
    | some x => match gDget x y with
      | some s => .ok s ρ1
      | none => .stuck
    | none => .stuck
  else .stuck
theorem peekD_at (h : peekD ρ i = true) (r : Rep c B ts vs ρ σ H) : ∃ a, σ[i]? = some (some (.ref a)) := by
  unfold peekD at h
  cases e : peek ρ i with
  | none => rw [e] at h; cases h
  | some x =>
    rw [e] at h
    cases x <;> first | cases h | skip
    · obtain ⟨a, _, _, _, ev, _⟩ := r.dctAt e (.inl rfl)
      exact ⟨a, ev⟩
    · obtain ⟨a, _, _, _, ev, _⟩ := r.dctAt e (.inr rfl)
      exact ⟨a, ev⟩
theorem den_dgetN (hb : Den c W tb fb) : Den c W (tOp (rGetX c) (tVar i) tb) (mDgetN i fb) := fun B ts vs ρ σ H Q r q => by
  unfold mDgetN at q
  split at q
  · rename_i hp
    obtain ⟨a, ev⟩ := peekD_at hp r
    rw [post_then] at q
    refine ⟨.ref a, ev, hb.dv r (q.imp1 fun y ρ1 q w H1 r1 => ?_)⟩
    cases e1 : peek ρ1 i with
    | none => rw [e1] at q; exact q.elim
    | some x =>
      rw [e1] at q
      have q : Post (OkP c B ts vs σ Q) (ErrP c W B ts vs σ) (match gDget x y with
        | some s => .ok s ρ1
        | none => .stuck) := q
      cases x with
      | dct ks ds =>
        cases e : gDget (.dct ks ds) y with
        | none => rw [e] at q; exact q.elim
        | some s =>
          rw [e] at q
          have e : (if homog ks y then (look ks y ds).bind ok1 else none) = some s := e
          split at e
          · rename_i hm
            obtain ⟨a', G, o1, o2, ev', kk, h1, h2, g⟩ := r1.dctAt e1 (.inl rfl)
            rw [ev] at ev'
            cases ev'
            cases h1 with
            | d hy h1 =>
              obtain ⟨vo, g1, g2, _⟩ := g.find kk.sub hy hm
              cases el : look ks y ds with
              | none => rw [el] at e; cases e
              | some z =>
                rw [el] at e g2
                cases e
                cases g2 with
                | some hu => exact ⟨a, _, rfl, g1, q _ _ ⟨G, o1, o2, kk, .d hu h1, h2⟩⟩
          · cases e
      | dcq ks ds =>
        cases e : gDget (.dcq ks ds) y with
        | none => rw [e] at q; exact q.elim
        | some s =>
          rw [e] at q
          have e : (if homog ks y then (look ks y ds).bind ok1 else none) = some s := e
          split at e
          · rename_i hm
            obtain ⟨a', G, o1, o2, ev', kk, h1, h2, g⟩ := r1.dctAt e1 (.inr rfl)
            rw [ev] at ev'
            cases ev'
            cases h1 with
            | d hy h1 =>
              obtain ⟨vo, g1, g2, _⟩ := g.find kk.sub hy hm
              cases el : look ks y ds with
              | none => rw [el] at e; cases e
              | some z =>
                rw [el] at e g2
                cases e
                cases g2 with
                | some hu => exact ⟨a, _, rfl, g1, q _ _ ⟨G, o1, o2, kk, .d hu h1, h2⟩⟩
          · cases e
      | _ => exact q.elim
  · exact q.elim
/-- x in d, d a name -/
def mInN (neg : Bool) (fa : M S) (i : Nat) : M S := fun ρ => (dv fa ρ).then fun y ρ1 => match peek ρ1 i with
  | some x => match gInD neg y x with
    | some s => .ok s ρ1
    | none => .stuck
  | none => .stuck
theorem den_inN {neg : Bool} (ha : Den c W ta fa) : Den c W (tOp (rInX c neg) ta (tVar i)) (mInN neg fa i) := fun B ts vs ρ σ H Q r q => by
  unfold mInN at q
  rw [post_then] at q
  refine ha.dv r (q.imp1 fun y ρ1 q w H1 r1 => ?_)
  cases e1 : peek ρ1 i with
  | none => rw [e1] at q; exact q.elim
  | some x =>
    rw [e1] at q
    have q : Post (OkP c B ts vs σ Q) (ErrP c W B ts vs σ) (match gInD neg y x with
      | some s => .ok s ρ1
      | none => .stuck) := q
    cases x with
    | dct ks ds =>
      cases e : gInD neg y (.dct ks ds) with
      | none => rw [e] at q; exact q.elim
      | some s =>
        rw [e] at q
        have e : (if homog ks y then ok1 (.bl (if neg then !hasKey ks y else hasKey ks y)) else none) = some s := by cases y <;> exact e
        split at e
        · rename_i hm
          cases e
          obtain ⟨a, G, o1, o2, ev, kk, h1, h2, g⟩ := r1.dctAt e1 (.inl rfl)
          cases h1 with
          | d hy h1 =>
            obtain ⟨vo, g1, g2, g3⟩ := g.find kk.sub hy hm
            exact ⟨.ref a, ev, a, vo, rfl, g1, by rw [g3]; exact q _ _ ⟨G, o1, o2, kk, .d (.bl _) h1, h2⟩⟩
        · cases e
    | _ => cases y <;> exact q.elim
end
end Fx
/-! tuple(d) of a dict -/
/-! dicts on data: get, store, new, comprehension, len, truth, walks, list(d), tuple(d), list(d.values()) -/
namespace Fx
open PySem PySem.Spec PyProof.Rows L2
open PySem.W (KdlSrc kdl_call)
open C8 (Cal Mak pe_c pe_mk)
/-- a dict whose keys and values are known -/
def WholeX (c : Cfg) (H : Hp) (a : Addr) (o : Obj) (ks : List D) (kv us : List V) : Prop := H a = some (xdO a o) ∧ DcO c.w a o ks kv us ∧ ∃ G : Hp, (∀ a o, G a = some o → H a = some o) ∧ RpAll c G kv ks
section
variable {X : Cx} {pins : List (Addr × Obj)} {σ : L2.St} {H : Hp} {s : Shared} {c : Cfg} {a : Addr} {o : Obj} {ks : List D} {kv us : List V}
theorem WholeX.raw (I : Inv X pins σ H s) (hK : X.K = c.K) (hw : X.w = c.w) (h : WholeX c H a o ks kv us) : s.heap.get? a = some o ∧ (a == sysModules) = false ∧ o.ExactDict ∧ ks.length ≤ sizeLine ∧ ∃ es ep, o.data = .dict es ep ∧ s.heap.DictRaw a es ep ∧ Vals kv (es.toList.map (·.key)) ∧ Vals us (es.toList.map (·.val)) ∧ es.size = ks.length := by
  obtain ⟨h1, h2, G, h3, h4⟩ := h
  exact ⟨xd_get I h1, h2.sys, h2.exact, h2.len, h2.raw I hK hw h3 h1 h4⟩
theorem items_vals {f : DictEntry → Value} {es : Array DictEntry} {vs : List V} {acc : Array Value} (h : ItemsOf (fun i v => ∃ hi : i < es.size, v = f es[i]) acc es.size) (r : Vals vs (es.toList.map f)) : Vals vs acc.toList := by
  have : acc.toList = es.toList.map f := by
    refine List.ext_getElem? fun i => ?_
    rw [List.getElem?_map, Array.getElem?_toList, Array.getElem?_toList]
    by_cases hi : i < es.size
    · have ha : i < acc.size := by rw [h.1]; exact hi
      obtain ⟨_, e⟩ := h.2 i acc[i] (Array.getElem?_eq_getElem ha)
      rw [Array.getElem?_eq_getElem ha, Array.getElem?_eq_getElem hi, e]
      rfl
    · rw [Array.getElem?_eq_none (by rw [h.1]; omega), Array.getElem?_eq_none (by omega)]
      rfl
  rw [this]
  exact r
theorem call_listX (hK : X.K = c.K) (hw : X.w = c.w) (calm : X.calm = true) : CallR X (.type "list") (fun xs H Q => ∃ a o ks kv us, xs = [.ref a] ∧ WholeX c H a o ks kv us ∧ ∀ p, H p = none → Q (.ref p) (upd H p (.lst kv))) := by
  rintro pins st σ H xs us Q I r ⟨a, o, ks, kv, vs, ex, whole, fin⟩
  subst ex
  obtain ⟨u, eu, rx⟩ := vals1 r
  subst eu
  cases rx
  obtain ⟨_, low, _, few, es, ep, _, raw, keys, _, size⟩ := whole.raw I hK hw
  have fit : kv.length ≤ sizeLine := by rw [keys.length, List.length_map, Array.length_toList, size]; exact few
  refine kdl_call (KdlSrc.rawDict low) (I.ok.hd calm) raw (by rw [size]; exact few) fun h' tk acc n keeps at_ items => ?_
  have list : ObjOk X.prog X.w (upd H st.heap.objs.size (.lst kv)) h' st.heap.objs.size (.lst kv) := ⟨fit, acc.toList, n, items_vals (f := (·.key)) items keys, by rw [Array.toArray_toList]; exact at_⟩
  exact ⟨.ref st.heap.objs.size, _, I.laid (t' := tk) keeps (Nat.le_refl _) list, rfl, fin _ (I.hok.fresh (Nat.le_refl _))⟩
/-! ### for k in d -/
def ItkX (d : Addr) (o : Obj) (kv : List V) : It :=
  ⟨fun i H => H d = some (xdO d o) ∧ i < kv.length, fun i H x H' => H' = H ∧ kv[i]? = some x, fun i H => H d = some (xdO d o) ∧ kv.length ≤ i⟩
theorem turn_keysX {P : Program} {w : World} {K : PySem.W.Frag} {tg : Expr} {d : Addr} {o : Obj} {es : Array DictEntry} {ep : Nat} {kv : List V} (it : Addr) (exact_ : o.ExactDict) (dat : o.data = .dict es ep) (keys : Vals kv (es.toList.map (·.key))) :
    Turn P w K tg (ItkX d o kv) [it] it (fun i h => h.IsKeyIter it d i es.size ep) := by
  have size : kv.length = es.size := by rw [keys.length, List.length_map, Array.length_toList]
  refine ⟨List.mem_singleton.mpr rfl, fun i h ⟨ob, e, _, f⟩ b hb => ?_, fun i h h' at_ keep => at_.at fun ob e => keep it (List.mem_singleton.mpr rfl) ob e, ?_, ?_, fun A i s Q E at_ h => ?_⟩
  · rw [List.mem_singleton.mp hb]
    exact ⟨ob, e, fun v z => by rw [f] at z; cases z⟩
  · rintro X rfl rfl rfl calm i pins s σ H E I mine at_ ⟨stands, lt⟩
    obtain ⟨f0, f1, _, f3, f4, f5⟩ := mine it (List.mem_singleton.mpr rfl)
    have lt2 : i < es.size := size ▸ lt
    obtain ⟨u, eu, ru⟩ := keys.get (List.getElem?_eq_getElem lt)
    have eu : u = es[i].key := by
      rw [List.getElem?_map, Array.getElem?_toList, Array.getElem?_eq_getElem lt2] at eu
      exact (Option.some.inj eu).symm
    refine wpAny_pyNext_keys_item_raw at_ ⟨o, xd_get I stands, exact_, dat⟩ lt2 fun h' at2 same => ⟨es[i].key, rfl, ?_⟩
    obtain ⟨ob, e1, e2, e3⟩ := id at2
    have I1 : Inv X pins σ H { s with heap := h' } := I.turned (t' := s.toks) (fun b ob' ne e => (same.2 b ne).trans e) f0 f1 f3 f4 f5
    exact go_of (s := { s with heap := h' }) e1 e2 e3 (by decide) ⟨kv[i], H, I1, eu ▸ ru, ⟨rfl, List.getElem?_eq_getElem lt⟩, at2, fun b hb => (mine b hb).1⟩
  · rintro X rfl rfl rfl calm i pins s σ H E I mine at_ ⟨stands, le⟩
    obtain ⟨f0, f1, _, f3, f4, f5⟩ := mine it (List.mem_singleton.mpr rfl)
    exact wpAny_pyNext_keys_end_raw (I.ok.hd calm) at_ ⟨o, xd_get I stands, exact_, dat⟩ (size ▸ le) fun h' but => ⟨rfl, I.turned (t' := s.toks) (fun b ob ne e => but b ob ne e) f0 f1 f3 f4 f5⟩
  · refine wpAny_pyIter_slot at_.typeIs F.slot_dict_keyiterator_iter (wpAny_call_entry F.slot_dict_keyiterator_iter at_.typeIs F.entry_dict_keyiterator_iter ?_ (F.args_dict_keyiterator_iter_1 _))
    exact wpAny_pure (a := Fin.done (.ret (.ref it))) ⟨_, rfl, "dict_keyiterator", _, at_.typeIs, F.slot_dict_keyiterator_next.lookup, h⟩
def iKeysX (c : Cfg) (td : TE) : TI := fun σ H R => td σ H fun x H1 => ∃ d o ks kv us, x = .ref d ∧ WholeX c H1 d o ks kv us ∧ R (ItkX d o kv) H1
theorem pi_keysX {tg e : Expr} {td : TE} (hK : X.K = c.K) (hw : X.w = c.w) (he : PE X e td) : PI X tg e (iKeysX c td) :=
  ⟨fun pins s σ H R I h => thn (he.run pins s σ H _ I h) fun u s1 ⟨x, H1, I1, rx, d, o, ks, kv, us, ex, whole, fin⟩ => by
    subst ex
    cases rx
    obtain ⟨g1, low, g3, _, es, ep, dat, raw, keys, _, _⟩ := whole.raw I1 hK hw
    exact wpAny_pyIter_dict_raw low raw (pi_one (tk := s1.toks) I1 _ (turn_keysX _ g3 dat keys) ⟨_, Heap.get?_push_size _ rfl, rfl, rfl⟩ fin)⟩
end
end Fx
/-! dicts on data: the rules that gen2 prints -/
namespace Fx
open PySem PySem.Spec PyProof.Rows L2
open C8 (Cal Mak pe_c pe_mk)
/-! ### k in d, d.get -/
/-- d[k] = v -/
def gmItemD (i : Nat) (fe : M S) : D → M Unit := fun x ρ => if peekD ρ i then (dv fe ρ).then fun y ρ1 => match ρ1[i]? with
    | some (some (.o b (.dct ks ds))) => if homog ks y && small (ks.length + 1) then .ok () (ρ1.set i (some (.o b (.dct (putKs ks y ks y) (putVs ks y ds x))))) else .stuck
    | _ => .stuck
  else .stuck
def gListD : List D → Option S
  | [.dct ks _] => some (.o none (.lst ks))
  | _ => none
def iKeysD (fe : M S) : M (List D) := fun ρ => (dv fe ρ).then fun x ρ' => match x with
  | .dct ks _ => .ok ks ρ'
  | _ => .stuck
section
variable {c : Cfg} {W : WX} {B : Base} {ts : En} {vs : List (Option V)} {ρ : En} {σ : L2.St} {H : Hp} {te ta tb tx : TE} {fe fa fb fx : M S} {i : Nat}
theorem OptRp.getD {G : Hp} {vo : Option V} {xo : Option D} {v : V} {x : D} (h : OptRp c G vo xo) (hx : Rp c G v x) : Rp c G (vo.getD v) (xo.getD x) := by
  cases h with
  | none => exact hx
  | some h => exact h
theorem dct_cell {o : Obj} {ks : List D} {kv us : List V} {w : World} {a : Addr} (d : DcO w a o ks kv us) : isCell (xdO a o) := by
  obtain ⟨es, ep, e⟩ := d.dat
  exact .xd _ _ _ _ e
theorem dg_itemD (h : Den c W te fe) : DenG c W (gSub (tVar i) te (rSetX c)) (gmItemD i fe) [] := fun B ts vs ρ σ H x v Q r q => by
  unfold gmItemD at q
  split at q
  · rename_i hp
    obtain ⟨a, ev⟩ := peekD_at hp r
    rw [post_then] at q
    refine ⟨.ref a, ev, h.dv r (q.imp (fun y ρ1 q1 w H1 r1 => ?_) fun _ _ h => h.drop.toP)⟩
    split at q1
    · rename_i b ks ds e1
      split at q1
      · rename_i hz
        rw [Bool.and_eq_true] at hz
        obtain ⟨hm, hz⟩ := hz
        obtain ⟨G, o1, o2, kk, h1, h2⟩ := id r1
        obtain ⟨a', ev', ⟨o, kv, us, ha, hd, k1, k2⟩, hmem, hb⟩ := h2.getO e1
        rw [ev] at ev'
        cases ev'
        cases h1 with
        | d hw h1 =>
          cases h1 with
          | d hv h1 =>
            have nd := kk.nd
            rw [List.nodup_append] at nd
            have hz := small_line hz
            refine ⟨a, rfl, o, ks, kv, us, y, G, ha, hd, kk.sub, k1, hw, hm, by omega, fun o' d' => q1 σ _ ⟨rfl, fun _ _ => rfl⟩ ?_⟩
            exact ⟨G, o1, o2, kk.write (List.mem_append_right _ hmem) ha (dct_cell hd), h1.mono (fun _ _ e => e) fun q hq => upd_ne fun z => nd.2.2 q hq a hmem z, h2.write nd.2.1 e1 ev (fun q hq => upd_ne hq) ⟨o', _, _, upd_same, d', k1.put hw, k2.putV hv⟩⟩
      · exact q1.elim
    · exact q1.elim
  · exact q.elim
/-- the whole of a dict -/
theorem dc_whole {G : Hp} {v : V} {ks ds : List D} (s : ∀ a o, G a = some o → H a = some o) (h : Rp c G v (.dct ks ds)) : ∃ a o kv us, v = .ref a ∧ WholeX c H a o ks kv us ∧ RpAll c G kv ks ∧ RpAll c G us ds := by
  cases h with
  | @dcx a o kv us _ _ ha hd k1 k2 => exact ⟨a, o, kv, us, rfl, ⟨s _ _ ha, hd, G, s, k1⟩, k1, k2⟩
theorem cd_listD : CbDen c (fun xs H Q => ∃ a o ks kv us, xs = [.ref a] ∧ WholeX c H a o ks kv us ∧ ∀ p, H p = none → Q (.ref p) (upd H p (.lst kv))) gListD := by
  intro B ts vs ρ σ H Q ds us s hl r e q
  match ds, hl, r, e with
  | [.dct ks ds], hl, r, e =>
    cases e
    obtain ⟨v, rfl, G, O, h⟩ := r.one' hl
    obtain ⟨a, o, kv, us, rfl, g, k1, k2⟩ := dc_whole O.sub h
    exact ⟨a, o, ks, kv, us, rfl, g, fun p hp => q _ _ (O.newO hp fun H' e => ⟨_, e, k1⟩)⟩
theorem di_keysD (h : Den c W te fe) : DenI c W (iKeysX c te) (iKeysD fe) := fun B ts vs ρ σ H R r q => by
  unfold iKeysD at q
  rw [post_then] at q
  refine h.dv r (q.imp1 fun x ρ1 q v H1 r1 => ?_)
  cases x <;> first | exact q.elim | skip
  rename_i ks ds
  have q : OkI c B ts vs σ R ks ρ1 := q
  obtain ⟨G, o1, o2, k, h1, h2⟩ := id r1
  cases h1 with
  | d hv h1 =>
    cases hv with
    | @dcx a o kv us _ _ ha hd k1 k2 =>
      have hl := k1.length
      have all : RpAll c G (V.ref a :: kv) (D.xo a (fun _ => xdO a o) :: ks) := .cons (.xo ha) k1
      have r2 : Rep c B (tmp (D.xo a (fun _ => xdO a o) :: ks) ++ ts) (tmv (V.ref a :: kv) ++ vs) ρ1 σ H1 := ⟨G, o1, o2, k, (all.rev).sl (B := B) (H := H1) h1, h2⟩
      have opn : ∀ {B ts vs ρ σ H}, Rep c B (tmp (D.xo a (fun _ => xdO a o) :: ks) ++ ts) (tmv (V.ref a :: kv) ++ vs) ρ σ H → H a = some (xdO a o) := fun {B ts vs ρ σ H} r => by
        obtain ⟨G, O, kk⟩ := Rep.opn (us := V.ref a :: kv) (by rw [List.length_cons, List.length_cons, hl]) r
        cases kk with
        | cons hx _ =>
          cases hx with
          | xo hx => exact O.sub _ _ hx
      refine ⟨a, o, ks, kv, us, rfl, ⟨k.sub _ _ ha, hd, G, k.sub, k1⟩, q _ (D.xo a (fun _ => xdO a o) :: ks) (V.ref a :: kv) H1 (by rw [List.length_cons, List.length_cons, hl]) r2 ⟨ks.length, fun H => H a = some (xdO a o), fun k H y H' => H' = H ∧ kv[k]? = some y, ⟨?_, ?_, ?_⟩, rfl, fun B ts vs ρ σ H r => opn r, ?_⟩⟩
      · rintro k H hk e1
        exact ⟨e1, by omega⟩
      · rintro H e1
        exact ⟨e1, by omega⟩
      · rintro k H y H' hk e1 ⟨e3, e4⟩
        exact ⟨e3, e4⟩
      · rintro B ts vs ρ σ H k x H' hk r ⟨rfl, ex⟩
        obtain ⟨G, o1, o2, kk, g1, g2⟩ := id r
        obtain ⟨a1, a2⟩ := g1.tmp (by rw [List.length_cons, List.length_cons, hl])
        cases a1 with
        | cons _ a1 =>
          obtain ⟨d, ed, hd⟩ := a1.getV ex
          exact ⟨d, ed, G, o1, o2, kk, .d hd g1, g2⟩
end
end Fx
/-! dicts on data: comprehensions; the rules that gen2 prints -/
namespace Fx
open PySem PySem.Spec PyProof.Rows L2
open C8 (Cal Mak pe_c pe_mk)
open PySem.W (KdlSrc kdl_call)
section
variable {c : Cfg} {B : Base} {W : WX} {ts : En} {vs : List (Option V)} {ρ : En} {σ : L2.St} {H : Hp}
theorem Rep.insX {st : List D} {sv : List V} {p : Addr} {o : Obj} (hl : sv.length = st.length) (r : Rep c B (tmp st ++ ts) (tmv sv ++ vs) ρ σ H) (hp : H p = none) (d : DcO c.w p o [] [] []) :
    Rep c B (tmp st ++ (some (.o none (.dct [] [])) :: ts)) (tmv sv ++ (some (.ref p) :: vs)) ρ σ (upd H p (xdO p o)) := by
  obtain ⟨G, o1, o2, k, h1, h2⟩ := r
  obtain ⟨a1, a2⟩ := h1.tmp hl
  have ow := own_new (o := xdO p o) k hp
  exact ⟨G, p :: o1, o2, k.allocO hp, a1.tmpS (.o ⟨o, [], [], upd_same, d, .nil, .nil⟩ (fun _ e => nomatch e) (a2.mono (fun _ _ e => e) fun q hq => ow q (List.mem_append_left _ hq))), h2.mono (fun _ _ e => e) fun q hq => ow q (List.mem_append_right _ hq)⟩
theorem Rep.putX {st ks ds : List D} {sv : List V} {p : Addr} {y k : D} {v w : V} (hl : sv.length = st.length) (hm : homog ks k = true) (hz : ks.length < sizeLine) (r : Rep c B (some (.d y) :: some (.d k) :: (tmp st ++ (some (.o none (.dct ks ds)) :: ts))) (some v :: some w :: (tmv sv ++ (some (.ref p) :: vs))) ρ σ H) {Nx : Hp → Prop}
    (q : ∀ H', Rep c B (tmp st ++ (some (.o none (.dct (putKs ks k ks k) (putVs ks k ds y))) :: ts)) (tmv sv ++ (some (.ref p) :: vs)) ρ σ H' → Nx H') : PutX c H p w v Nx := by
  obtain ⟨G, o1, o2, k', h1, h2⟩ := r
  cases h1 with
  | d hv h1 =>
    cases h1 with
    | d hw h1 =>
      obtain ⟨a1, a2⟩ := h1.tmp hl
      cases a2 with
      | @o _ _ _ _ _ own hc hb a2 =>
        obtain ⟨o, kv, us, e, hd, k1, k2⟩ := hc
        have nd := k'.nd
        rw [List.cons_append, List.nodup_cons] at nd
        refine ⟨o, ks, kv, us, k, G, e, hd, k'.sub, k1, hw, hm, hz, fun o' d' => q _ ?_⟩
        have ne : ∀ q ∈ own ++ o2, upd H p (xdO p o') q = H q := fun q hq => upd_ne fun z => nd.1 (z ▸ hq)
        exact ⟨G, p :: own, o2, k'.write (List.mem_append_left _ List.mem_cons_self) e (dct_cell hd), a1.tmpS (.o ⟨o', _, _, upd_same, d', k1.put hw, k2.putV hv⟩ hb (a2.mono (fun _ _ e => e) fun q hq => ne q (List.mem_append_left _ hq))), h2.mono (fun _ _ e => e) fun q hq => ne q (List.mem_append_right _ hq)⟩
end
def mDComp (gm : D → M Unit) (ft : M Bool) (fk fv : M S) (own : List Nat) : List D → List D → List D → En → Out (List D × List D)
  | [], ks, ds, ρ => .ok (ks, ds) ρ
  | x :: xs, ks, ds, ρ => (gm x ρ).calm.then fun _ ρ1 => (ft ρ1).calm.then fun b ρ2 => if b = true then (dv fk ρ2).calm.then fun k ρ3 => (dv fv ρ3).calm.then fun y ρ4 => if homog ks k && small (ks.length + 1) then mDComp gm ft fk fv own xs (putKs ks k ks k) (putVs ks k ds y) (wipeE ρ4 own) else .stuck
    else mDComp gm ft fk fv own xs ks ds (wipeE ρ2 own)
def mDc (fI : M (List D)) (gm : D → M Unit) (ft : M Bool) (fk fv : M S) (own : List Nat) : M S := fun ρ => (fI ρ).then fun items ρ1 => (mDComp gm ft fk fv own items [] [] (wipeE ρ1 own)).then fun p ρ2 => .ok (.o none (.dct p.1 p.2)) ρ2
section
variable {c : Cfg} {W : WX} {wi : TI} {fI : M (List D)} {tk tv : TE} {fk fv : M S} {tt : TT} {ft : M Bool} {g : TG} {gm : D → M Unit} {js own : List Nat}
theorem den_dc (h : DenI c W wi fI) (k : DenG c W0 g gm js) (kt : DenT c W0 tt ft) (kk : Den c W0 tk fk) (kv : Den c W0 tv fv) (hj : ∀ j ∈ js, j ∈ own) : Den c W (tDcX c wi g tt tk tv own) (mDc fI gm ft fk fv own) := fun B ts vs ρ σ H Q r q => by
  unfold mDc at q
  rw [post_then] at q
  refine h B ts vs ρ σ H _ r (q.imp1 fun items ρ1 q J st sv H1 hl r1 w Da o0 hD hnew => ?_)
  obtain ⟨n, Gw, Y, wk, rfl, hG, hY⟩ := w
  rw [post_then] at q
  refine dcx_it wk (fun i H => ∃ ρ ks ds, Rep c B (tmp st ++ (some (.o none (.dct ks ds)) :: ts)) (tmv sv ++ (some (.ref Da) :: vs)) ρ σ H ∧ (∀ v ∈ own, ρ.set v none = ρ) ∧
    Post (fun (p : List Fx.D × List Fx.D) ρ2 => OkP c B ts vs σ Q (.o none (.dct p.1 p.2)) ρ2) (ErrP c W B ts vs σ) (mDComp gm ft fk fv own (items.drop i) ks ds ρ)) ⟨wipeE ρ1 own, [], [], ?_, fun v hv => wipeE_at ρ1 own v hv, q⟩ (fun i H _ ⟨ρ, ks, ds, r, _⟩ => hG _ _ _ _ _ _ r) ?_ ?_
  · exact (Rep.insX hl r1 hD hnew).back rfl
  · rintro i x H1 H2 hi ⟨ρ, ks, ds, r, hw, q⟩ y
    obtain ⟨d, ed, r2⟩ := hY _ _ _ _ _ _ _ _ _ hi r y
    have hd : items.drop i = d :: items.drop (i + 1) := by
      rw [List.drop_eq_getElem_cons hi]
      rw [List.getElem?_eq_getElem hi] at ed
      cases ed
      rfl
    rw [hd] at q
    have q : Post _ _ ((gm d ρ).calm.then fun _ ρ1 => (ft ρ1).calm.then fun b ρ2 => _) := q
    rw [post_then] at q
    have r3 : Rep c B (some (.d d) :: (tmp st ++ (some (.o none (.dct ks ds)) :: ts))) (some x :: (tmv sv ++ (some (.ref Da) :: vs))) ρ (L2.wipe σ own) H2 := by
      have := r2.wipe own
      have e := wipeE_id hw
      rw [e] at this
      exact this
    refine k B _ _ ρ _ H2 d x _ r3 (post_calm (q.imp1 fun _ ρ2 q σ2 H3 o r4 => ?_))
    have eo := Off.wipe hj o
    refine ⟨eo, ?_⟩
    rw [post_then] at q
    refine kt B _ _ ρ2 σ2 H3 _ r4 (post_calm (q.imp1 fun b ρ3 q H4 r5 => ?_))
    cases b with
    | false => exact ⟨wipeE ρ3 own, ks, ds, r5.back eo, fun v hv => wipeE_at ρ3 own v hv, q⟩
    | true =>
      have q : Post _ _ ((dv fk ρ3).calm.then fun k ρ3 => (dv fv ρ3).calm.then fun y ρ4 => _) := q
      rw [post_then] at q
      refine kk.dv r5 (post_calm (q.imp1 fun y ρ4 q v H5 r6 => ?_))
      rw [post_then] at q
      refine kv.dv r6 (post_calm (q.imp1 fun z ρ5 q u H6 r7 => ?_))
      split at q
      · rename_i hz
        rw [Bool.and_eq_true] at hz
        have hz2 := small_line hz.2
        exact Rep.putX hl hz.1 (by omega) r7 fun H' r8 => ⟨wipeE ρ5 own, _, _, r8.back eo, fun v hv => wipeE_at ρ5 own v hv, q⟩
      · exact q.elim
  · rintro H1 ⟨ρ, ks, ds, r, _, q⟩
    rw [List.drop_length] at q
    exact q _ H1 (r.dropN hl)
end
/-! ### list(d.values()) -/
section
variable {X : Cx} {c : Cfg} {W : WX} {tg it kx vx a b e : Expr} {ifs : List Expr} {fI : M (List D)} {g : D → M Unit} {js : List Nat} {ft : M Bool} {fk fv fa fb fe fx : M S} {scope : Scope} {own : List (Str × Nat)} {pos p p2 apos cpos : Pos} {wi : TI} {tgt : TG} {tt : TT} {tk tv ta tb te tx : TE} {kk : Nat} {x : Str}
theorem un10 {A : Around} (hr : Room kk A) : A.units + 10 < cLine := by have := un66 hr; omega
theorem q_dget (hr : Room kk X.A) (hw : X.w = c.w) (ha : QE X c W a ta fa) (hb : QE X c W b tb fb) (hK : X.K = c.K := by rfl) (hs : PlainIx b := by exact fun _ _ => rfl) : QE X c W (.Subscript a b pos) (tOp (rGetX c) ta tb) (mOp gDget fa fb) := by
  obtain ⟨h1, h2⟩ := ha; obtain ⟨k1, k2⟩ := hb
  exact ⟨pe_ix (ix_X hK hw (un10 hr)) h1 k1 hs, den_dget h2 k2⟩
theorem q_dgetN (i : Nat) (hr : Room kk X.A) (hw : X.w = c.w) (hb : QE X c W b tb fb) (hN : X.N[i]? = some x := by rfl) (hv : Vis X.env.scope x := by first | exact Or.inl rfl | exact Or.inr (Or.inl rfl) | exact Or.inr (Or.inr rfl)) (hd : (x == ("__debug__" : Str)) = false := by decide)
    (hcd : (x == ("__classdict__" : Str)) = false := by decide) (hK : X.K = c.K := by rfl) (hs : PlainIx b := by exact fun _ _ => rfl) : QE X c W (.Subscript (.Name x p) b pos) (tOp (rGetX c) (tVar i) tb) (mDgetN i fb) := by
  obtain ⟨k1, k2⟩ := hb
  exact ⟨pe_ix (ix_X hK hw (un10 hr)) (pe_var hN hv hd hcd) k1 hs, den_dgetN k2⟩
theorem t_ninN (i : Nat) (hr : Room kk X.A) (hw : X.w = c.w) (ha : QE X c W a ta fa) (hN : X.N[i]? = some x := by rfl) (hv : Vis X.env.scope x := by first | exact Or.inl rfl | exact Or.inr (Or.inl rfl) | exact Or.inr (Or.inr rfl)) (hd : (x == ("__debug__" : Str)) = false := by decide)
    (hcd : (x == ("__classdict__" : Str)) = false := by decide) (hK : X.K = c.K := by rfl) (hm : behindInMarks .NotIn (.Name x p) = false := by with_unfolding_all rfl) : QT X c W (.Compare a [.NotIn] [.Name x p] pos) (tTest (tOp (rInX c true) ta (tVar i))) (mTest (mInN true fa i)) := by
  obtain ⟨h1, h2⟩ := ha
  exact ⟨pt_cmpR (op_ninX hK hw (un10 hr)) h1 (pe_var hN hv hd hcd) hm, dt_test (den_inN h2)⟩
theorem g_itemD (i : Nat) (hr : Room kk X.A) (hw : X.w = c.w) (h : QE X c W e te fe) (hN : X.N[i]? = some x := by rfl) (hv : Vis X.env.scope x := by first | exact Or.inl rfl | exact Or.inr (Or.inl rfl) | exact Or.inr (Or.inr rfl)) (hd : (x == ("__debug__" : Str)) = false := by decide)
    (hcd : (x == ("__classdict__" : Str)) = false := by decide) (hK : X.K = c.K := by rfl)
    (ha : ∀ v, assign (.Subscript (.Name x p) e pos) X.env v = (do
      let ov ← holding [v] (eval (.Name x p) X.env)
      let iv ← holding [v, ov] (eval e X.env)
      standAt pos
      holding [v, ov, iv] (setItem ov iv v)
      release [v, ov, iv] []) := by intro _; rfl) : QG X c W (.Subscript (.Name x p) e pos) (gSub (tVar i) te (rSetX c)) (gmItemD i fe) [] := by
  obtain ⟨h1, h2⟩ := h
  exact ⟨pg_sub (pe_var hN hv hd hcd) h1 (set_X hK hw (un10 hr)) ha, dg_itemD h2⟩
abbrev rListX (c : Cfg) : List V → Hp → VK → Prop := fun xs H Q => ∃ a o ks kv us, xs = [.ref a] ∧ WholeX c H a o ks kv us ∧ ∀ p, H p = none → Q (.ref p) (upd H p (.lst kv))
theorem b_listD (hw : X.w = c.w) (hc : X.calm = true := by rfl) (hK : X.K = c.K := by rfl) : QB X c "list" (rListX c) gListD := ⟨.inr ⟨_, call_listX hK hw hc, by decide +kernel⟩, cd_listD⟩
theorem i_keysD (hw : X.w = c.w) (h : QE X c W e te fe) (hK : X.K = c.K := by rfl) : QI X c W tg e (iKeysX c te) (iKeysD fe) := by
  obtain ⟨h1, h2⟩ := h
  exact ⟨pi_keysX hK hw h1, di_keysD h2⟩
theorem swD {es : List Comprehension} {py : Pos} {y : Str} {l : Nat} {env : Env} (hf : env.scope.kind = .function) (hy : env.scope.names.lookup y = some .local) (hl : (py.line == pos.line) = true)
    (ha : (scope.names.any fun (n, k) => n == y && (k == .local || k == .cell)) = false) : swapsWith (.DictComp kx vx es scope pos) (some (.Name y py)) l env = pure true := by
  have k1 : env.kindOf y = some .local := hy
  have k2 : env.blockKind = .function := by unfold Env.blockKind; rw [hf]; rfl
  unfold swapsWith
  simp only [k2, k1, ha, Expr.pos, hl]
  rfl
theorem psDX (hK : X.K = c.K) (hw : X.w = c.w) (hu : X.A.units + 10 < cLine) {i : Nat} {y : Str} {py spos : Pos} (calm : X.calm = true) (nd : X.N.Nodup) (at_ : X.N[i]? = some y) (own_ : X.env.scope.names.lookup y = some .local)
    (used : swapsWith (.DictComp kx vx [⟨tg, it, ifs, 0⟩] scope pos) (some (.Name y py)) spos.line X.env = pure true) (hi : PI X tg it wi) (blk : BlkOk X.N X.env.scope scope own)
    (pg : ∀ s H C cl fp, PG (Blk X scope s H C cl fp) tg tgt) (pt : ∀ s H C cl fp, PTs (Blk X scope s H C cl fp) ifs tt) (pk : ∀ s H C cl fp, PE (Blk X scope s H C cl fp) kx tk) (pv : ∀ s H C cl fp, PE (Blk X scope s H C cl fp) vx tv) (plain : ∀ x, foldedSetIterable it X.env x = pure x) :
    PS X (.Assign [.Name y py] (.DictComp kx vx [⟨tg, it, ifs, 0⟩] scope pos) spos) (tAsg (tDcX c wi tgt tt tk tv (own.map (·.2))) (gName i)) := by
  refine ⟨fun pins s σ H D I h => ?_⟩
  have h : tDcX c wi tgt tt tk tv (own.map (·.2)) σ H (fun x H1 => gName i x σ H1 D.nx) := h
  have stored := dcx_core (pos := pos) (Qf := fun _ s' => SP X pins D .next s') (use := some (assign (.Name y py) X.env)) (pos' := firstIterPos [⟨tg, it, ifs, 0⟩] pos) hK hw hu calm nd I hi blk pg pt pk pv plain h fun L C s1 m H1 I1 fin ns ok => by
    obtain ⟨f0, f1, _, f3, f4, f5⟩ := ok
    refine wpAny_assign_Name (store_ok2 (v := V.ref L) I1 nd at_ (.inl own_) rfl (fun s2 I2 ⟨a, same, place⟩ => ?_) (.inr own_))
    have apart : C ≠ a := place.elim (fun z => by rw [z]; exact f1) fun z e => f4 y a z e.symm
    exact ⟨m, ns.sameBut same apart, fun h3 same3 => ⟨_, H1, I2.turned (t' := s2.toks) (fun b ob ne e => (same3.2 b ne).trans e) f0 f1 f3 f4 f5, fin⟩⟩
  rw [exec_Assign_Name_used _ _ _ _ used]
  refine wpAny_bind (wpAny_standAt (wpAny_bind ?_))
  exact wpAny_bind (thn stored fun _ s' done => wpAny_pure (wpAny_pure done))
theorem s_setDc (i : Nat) {y : Str} {py spos : Pos} (hr : Room kk X.A) (hw : X.w = c.w) (hN : X.N.Nodup) (hI : QI X c W tg it wi fI) (hB : BlkOk X.N X.env.scope scope own) (hG : ∀ s H C cl fp, QG (Blk X scope s H C cl fp) c W0 tg tgt g js) (hT : ∀ s H C cl fp, QTs (Blk X scope s H C cl fp) c W0 ifs tt ft)
    (hk : ∀ s H C cl fp, QE (Blk X scope s H C cl fp) c W0 kx tk fk) (hE : ∀ s H C cl fp, QE (Blk X scope s H C cl fp) c W0 vx tv fv) (hj : ∀ j ∈ js, j ∈ own.map (·.2) := by decide) (hc : X.calm = true := by rfl) (hK : X.K = c.K := by rfl) (hi : X.N[i]? = some y := by rfl) (hy : X.env.scope.names.lookup y = some .local := by rfl)
    (hsw : swapsWith (.DictComp kx vx [{ target := tg, iter := it, ifs := ifs, is_async := 0 }] scope pos) (some (.Name y py)) spos.line X.env = pure true := by rfl) (hs : ∀ x, foldedSetIterable it X.env x = pure x := by intro _; rfl) :
    QS X c W (.Assign [.Name y py] (.DictComp kx vx [{ target := tg, iter := it, ifs := ifs, is_async := 0 }] scope pos) spos) (tAsg (tDcX c wi tgt tt tk tv (own.map (·.2))) (gName i)) (mAsg (mDc fI g ft fk fv (own.map (·.2))) (gmName i)) := by
  obtain ⟨h1, h2⟩ := hI
  obtain ⟨s, H, C, cl, fp, g2, t2, k2, e2⟩ := anyPlace c _ fun s H C cl fp => And.intro (hG s H C cl fp).dn (And.intro (hT s H C cl fp).dn (And.intro (hk s H C cl fp).dn (hE s H C cl fp).dn))
  exact ⟨psDX hK hw (un10 hr) hc hN hi hy hsw h1 hB (fun s H C cl fp => (hG s H C cl fp).pe) (fun s H C cl fp => (hT s H C cl fp).pe) (fun s H C cl fp => (hk s H C cl fp).pe) (fun s H C cl fp => (hE s H C cl fp).pe) hs, ds_asg (den_dc h2 g2 t2 k2 e2 hj) dg_name⟩
end
end Fx
/-! sorted of a tuple or a list of pairs of ints -/
namespace PySem
open PySem.Spec PyProof.Rows SrtO
section
variable {prog : Program} {w : World} {A : Around} {E : Value → Shared → Prop} {s : Shared}
/-- the items of a tuple, collected -/
theorem collect_tupF {l : Addr} {vs : List Value} {Q : List Value → Shared → Prop} (hl : s.heap.IsTuple l vs.toArray)
    (h : Q vs { s with heap := (s.heap.push (seqObj "list" #[] 0)).update s.heap.objs.size (Obj.mapSeq (· ++ vs.toArray)) }) (hsz : vs.length ≤ sizeLine) : wpAny (model prog w) A (collect (.ref l)) Q E s := by
  obtain ⟨o, ho, hc, n, hd⟩ := id hl
  unfold collect
  refine wpAny_bind (wpAny_runValue (codeAny_builtin entry_proto_collect' ?_))
  show wpAny _ _ (do again (.builtin "list.__iadd__" ⟨[← newList [], .ref l], []⟩)) _ _ s
  refine wpAny_bind (wpAny_newList (wpAny_pure ⟨Code.quiet_builtin _ (by decide +kernel), codeAny_builtin entry_list_iadd' ?_⟩))
  show wpAny _ _ (Builtin.List.listExtendWith (.ref s.heap.objs.size) (.ref l) (.ref s.heap.objs.size)) _ _ { s with heap := s.heap.push (seqObj "list" #[] 0) }
  unfold Builtin.List.listExtendWith
  have ho' : (s.heap.push (seqObj "list" #[] 0)).get? l = some o := Heap.get?_push_of_some _ ho
  refine wpAny_bind (wpAny_typeOf (T := "tuple") ⟨o, ho', hc⟩ ?_)
  have ht : (Value.type "tuple" == Value.type "tuple") = true := by rfl
  rw [if_pos (by rw [ht]; simp)]
  refine wpAny_bind (listItems_at ho' hd ?_)
  refine wpAny_bind (listItems_at (xs := #[]) (n := 0) (Heap.get?_push_size _ rfl) rfl ?_)
  rw [if_neg (by simp)]
  refine wpAny_bind (listUpdate_at (xs := #[]) (n := 0) (Heap.get?_push_size _ rfl) rfl ?_ (Nat.zero_le _) (by show (#[] ++ vs.toArray).size ≤ sizeLine + 1; simp only [Array.size_append, List.size_toArray, List.length_nil]; omega))
  refine wpAny_pure ?_
  show wpAny (model prog w) A (do
      let o ← load s.heap.objs.size
      match o.data with
      | .seq xs _ => pure xs.toList
      | _ => unsupported "internal:collect") Q E { s with heap := (s.heap.push (seqObj "list" #[] 0)).update s.heap.objs.size (Obj.mapSeq (· ++ vs.toArray)) }
  refine wpAny_bind (wpAny_load (get?_update_seq (Heap.get?_push_size _ rfl) _) ?_)
  show wpAny _ _ (pure ((#[] : Array Value) ++ vs.toArray).toList) Q E _
  rw [show ((#[] : Array Value) ++ vs.toArray).toList = vs by simp]
  exact wpAny_pure h
theorem sorted_ordT {l : Addr} {vs : List Value} {ltv : Value → Value → Bool} {Q : Value → Shared → Prop} (O : Swo ltv) (hl : s.heap.IsTuple l vs.toArray) (hz : vs.length ≤ sizeLine)
    (hS : 2 ≤ vs.length → ∀ (h₁ : Heap) (a : Addr), h₁.get? a = some (seqObj "list" vs.toArray 0) → (∀ b o, s.heap.get? b = some o → b ≠ a ∧ h₁.get? b = some o) → SortableO prog w A.in1.in1 { s with heap := h₁ } a vs ltv)
    (h : ∀ out : List Value, Srtd ltv out → Stb ltv out vs → Q (.ref (s.heap.objs.size + 1)) { s with heap := sortedAll s.heap vs out.toArray }) :
    wpAny (model prog w) A (call (.builtin "sorted") [.ref l]) Q E s := by
  refine Calls.call_function_entry kind_sorted plain_sorted entry_sorted (args_sorted1 _) ?_
  unfold Builtin.«sorted»
  refine wpAny_bind (m := checkCount "sorted" 1 1 _) (wpAny_pure ?_)
  refine wpAny_bind (collect_tupF hl ?_ hz)
  refine wpAny_bind (wpAny_newList ?_ hz)
  have hsz : ((s.heap.push (seqObj "list" #[] 0)).update s.heap.objs.size (Obj.mapSeq (· ++ vs.toArray))).objs.size = s.heap.objs.size + 1 := by
    rw [Heap.size_update, size_push']
  have hoL : (((s.heap.push (seqObj "list" #[] 0)).update s.heap.objs.size (Obj.mapSeq (· ++ vs.toArray))).push (seqObj "list" vs.toArray 0)).get? (s.heap.objs.size + 1) = some (seqObj "list" vs.toArray 0) := by
    rw [← hsz]; exact Heap.get?_push_size _ rfl
  have keep : ∀ b o, s.heap.get? b = some o → b ≠ s.heap.objs.size + 1 ∧ (((s.heap.push (seqObj "list" #[] 0)).update s.heap.objs.size (Obj.mapSeq (· ++ vs.toArray))).push (seqObj "list" vs.toArray 0)).get? b = some o := fun b o q => by
    have hlt : b < s.heap.objs.size := Heap.lt_size q
    refine ⟨Nat.ne_of_lt (Nat.lt_succ_of_lt hlt), Heap.get?_push_of_some _ ?_⟩
    rw [Heap.get?_update_ne _ _ _ _ (Nat.ne_of_lt hlt)]
    exact Heap.get?_push_of_some _ q
  show wpAny _ _ _ _ _ { s with heap := ((s.heap.push (seqObj "list" #[] 0)).update s.heap.objs.size (Obj.mapSeq (· ++ vs.toArray))).push (seqObj "list" vs.toArray 0) }
  rw [hsz]
  refine wpAny_bind (wpAny_holding (wpAny_call_entry slot_list_sort ⟨_, hoL, rfl⟩ entry_list_sort (list_sort_ord O hoL hz (fun h2 => hS h2 _ _ hoL keep) fun out hs hb => ⟨_, rfl, ?_⟩) (args_list_sort _)))
  exact wpAny_pure ⟨_, rfl, h out hs hb⟩
end
end PySem
/-! sorted of a tuple or a list of tuples of ints, none empty, of any lengths -/
namespace PySem
open PySem.Spec PyProof.Rows SrtO
end PySem
/-! a dict whose values are lists that change: d = {k: [..] for ..}, d[k].append(x), d[k].pop(), frozen when it is read -/
namespace Fx
open PySem PySem.Spec PyProof.Rows L2
open C8 (Cal Mak pe_c pe_mk)
section
variable {c : Cfg} {B : Base} {G G' H H' : Hp} {own own' : Owns} {ts : En} {vs : List (Option V)} {ρ : En} {σ : L2.St}
theorem LsAll.get : ∀ {bs : List Addr} {dss : List (List D)} {n : Nat} {ds : List D}, LsAll c G H bs dss → dss[n]? = some ds → ∃ b us, bs[n]? = some b ∧ H b = some (.lst us) ∧ RpAll c G us ds
  | _, _, _, _, .nil, e => by simp at e
  | _, _, 0, _, .cons h k _, e => by simp at e; subst e; exact ⟨_, _, rfl, h, k⟩
  | _, _, n + 1, _, .cons _ _ l, e => by
    obtain ⟨b, us, e1, e2⟩ := LsAll.get (n := n) l (by simpa using e)
    exact ⟨b, us, by simpa using e1, e2⟩
theorem LsAll.put {b : Addr} {us : List V} {es : List D} (hb : H' b = some (.lst us)) (k : RpAll c G us es) (hh : ∀ q, q ≠ b → H' q = H q) : ∀ {bs : List Addr} {dss : List (List D)} {n : Nat}, LsAll c G H bs dss → bs[n]? = some b → bs.Nodup → LsAll c G H' bs (dss.set n es)
  | _, _, _, .nil, e, _ => by simp at e
  | b0 :: bs, ds0 :: dss, 0, .cons _ _ l, e, nd => by
    simp at e
    subst e
    rw [List.nodup_cons] at nd
    exact .cons hb k (l.mono (fun _ _ e => e) fun p hp => hh p fun z => nd.1 (z ▸ hp))
  | b0 :: bs, ds0 :: dss, n + 1, .cons h0 k0 l, e, nd => by
    rw [List.nodup_cons] at nd
    have e : bs[n]? = some b := by simpa using e
    have ne : b0 ≠ b := fun z => nd.1 (z ▸ List.mem_of_getElem? e)
    exact .cons ((hh _ ne).trans h0) k0 (LsAll.put hb k hh l e nd.2)
theorem LsAll.length : ∀ {bs : List Addr} {dss : List (List D)}, LsAll c G H bs dss → bs.length = dss.length
  | _, _, .nil => rfl
  | _, _, .cons _ _ l => by rw [List.length_cons, List.length_cons, LsAll.length l]
theorem LsAll.snoc {b : Addr} {us : List V} {ds : List D} (hb : H b = some (.lst us)) (k : RpAll c G us ds) : ∀ {bs : List Addr} {dss : List (List D)}, LsAll c G H bs dss → LsAll c G H (bs ++ [b]) (dss ++ [ds])
  | _, _, .nil => .cons hb k .nil
  | _, _, .cons h0 k0 l => .cons h0 k0 (LsAll.snoc hb k l)
def insK : List D → Bool
  | .ins _ _ :: _ => true
  | .tup _ :: _ => true
  | _ => false
theorem QCell.dct {a : Addr} {ks : List D} {dss : List (List D)} {os : Owns} (hk : insK ks = false) (h : QCell c B G H a ks dss os) : QDct c G H a ks dss os := by
  rcases h with h | ⟨n, ds, p, dk, dv, dx, fs, b, o, kv, us, vs, rfl, _⟩ | ⟨ks', o, kv, bs, rfl, _⟩
  · exact h
  · cases hk
  · cases hk
theorem LsAll.all : ∀ {bs : List Addr} {dss : List (List D)}, LsAll c G H bs dss → ∀ {G' : Hp}, (∀ a o, G a = some o → G' a = some o) → (∀ b ∈ bs, G' b = H b) → RpAll c G' (bs.map V.ref) (dss.map D.lst)
  | _, _, .nil, _, _, _ => .nil
  | _, _, .cons h k l, G', s, e => .cons (.lst ((e _ List.mem_cons_self).trans h) (k.mono s)) (LsAll.all l s fun b hb => e b (List.mem_cons_of_mem _ hb))
end
end Fx
/-! sum, max, min of a list of ints -/
/-! t.index(x) of a tuple of tuples of numbers; min of a list or tuple of data that can be compared -/
namespace Fx
open PySem PySem.Spec PyProof.Rows L2 PySem.SeqAt
open PySem.W (AlikeAll minD alike dataLt min_list_data min_tuple_data readsAll_at)
/-! ### on data -/
/-- the place of x among the items -/
def placeD (ds : List D) (x : D) : Option Nat := ds.findIdx? fun y => eqD y x
end Fx
/-! xs.index(x), xs.count(x) of a list of data -/
namespace Fx
open PySem PySem.Spec PyProof.Rows L2 PySem.SeqAt
/-- a list of data and a datum -/
def ListOf (K : PySem.W.Frag) (H : Hp) (x : V) (xs : List V) (ds : List PyData) (d : PyData) : Prop := ∃ (a : Addr) (ys : List V) (y : V), x = .ref a ∧ xs = [y] ∧ SqL K H a ys ∧ Dp K H x (.list ds) ∧ Dp K H y d ∧ d.plain = true ∧ PyData.plainAll ds = true ∧ d.depth ≤ 64
def rIdxL (K : PySem.W.Frag) : V → List V → Hp → VK → Prop := fun x xs H Q => ∃ ds d j, ListOf K H x xs ds d ∧ ds.length ≤ sizeLine ∧ dataPlace ds d = some j ∧ Q (.int (j : Nat)) H
def rCntL (K : PySem.W.Frag) : V → List V → Hp → VK → Prop := fun x xs H Q => ∃ ds d, ListOf K H x xs ds d ∧ Q (.int ((ds.countP fun y => PyData.eqv y d : Nat) : Int)) H
section
variable {X : Cx}
theorem ListOf.reads {pins : List (Addr × Obj)} {s : Shared} {σ : L2.St} {H : Hp} {x : V} {xs : List V} {v : Value} {us : List Value} {ds : List PyData} {d : PyData} (I : Inv X pins σ H s) (rx : RelV x v) (rs : Vals xs us) (h : ListOf X.K H x xs ds d) :
    ∃ (a : Addr) (u : Value) (its : Array Value) (as bs : List Addr), v = .ref a ∧ us = [u] ∧ s.heap.IsList a its ∧ ReadsAll s.heap its.toList ds as ∧ Reads s.heap u d bs ∧ d.plain = true ∧ PyData.plainAll ds = true ∧ d.depth ≤ 64 := by
  obtain ⟨a, ys, y, rfl, rfl, sq, hx, hy, p1, p2, p3⟩ := h
  obtain ⟨u, rfl, ru⟩ := vals1 rs
  cases rx
  obtain ⟨bs, rd⟩ := Dp.reads I d _ _ hy ru
  obtain ⟨as, rl⟩ := Dp.reads I _ _ _ hx rfl
  cases rl with
  | list k1 k2 k3 k4 =>
    rename_i ob vs n _
    refine ⟨a, u, vs, _, bs, rfl, rfl, ⟨ob, k1, k2, n, k3⟩, k4, rd, p1, p2, p3⟩
theorem mt_idxL (hu : X.A.units + 66 < cLine) : MtR X "list.index" (rIdxL X.K) := by
  rintro pins s σ H x xs v us Q I rx rs ⟨ds, d, j, h, few, hp, q⟩
  obtain ⟨a, u, its, as, bs, rfl, rfl, hl, ra, rd, p1, p2, p3⟩ := h.reads I rx rs
  obtain ⟨⟨cls, dd, data, sl⟩, ho, hc, n, hd⟩ := hl
  simp only at hc hd
  subst hc hd
  obtain ⟨hj, hit, hno⟩ := hit_at ra p2 hp
  have sz := len_at ra
  rw [sizeLine_eq] at few
  exact call_meets PySem.F.slot_list_index ⟨_, ho, rfl⟩ PySem.F.entry_list_index (PySem.F.args_list_index_2 _ _) (list_indexAt a its n dd sl u (fun y => PyData.eqv (readOf s.heap y) d) j hj (by omega) hit hno)
    ⟨ho, items_plain ra rd p2 p1 (by have : min (PyData.depthAll ds) d.depth ≤ d.depth := Nat.min_le_right _ _; show X.A.units + 1 + _ < _; omega), ⟨.int (j : Nat), H, I.tok _, ⟨_, rfl⟩, q⟩⟩
theorem mt_cntL (hu : X.A.units + 66 < cLine) : MtR X "list.count" (rCntL X.K) := by
  rintro pins s σ H x xs v us Q I rx rs ⟨ds, d, h, q⟩
  obtain ⟨a, u, its, as, bs, rfl, rfl, hl, ra, rd, p1, p2, p3⟩ := h.reads I rx rs
  exact count_list_data hl ra rd p2 p1 (by have : min (PyData.depthAll ds) d.depth ≤ d.depth := Nat.min_le_right _ _; omega) ⟨.int ((ds.countP fun y => PyData.eqv y d : Nat) : Int), H, I.tok _, ⟨_, rfl⟩, q⟩
end
/-! ### on data -/
def countD (ds : List D) (x : D) : Nat := ds.countP fun y => eqD y x
end Fx
/-! in the suite: isinstance(e, X), e.f -/
/-! x(lambda: e), the lambda capturing names: x calls it first of all, in try: .. except .. as .. -/
namespace Fx
open PySem PySem.Spec PyProof.Rows L2
open C8 (Cal Mak pe_c pe_mk)
open LamX (Tabs TabS TabB ExtN CodeO codeO_ne GivesTo tLam lamCx lamEnv pe_lamcall)
/-- the values alone that stay -/
def dOnly : Option S → Option S
  | some (.d x) => some (.d x)
  | _ => none
section
variable {c : Cfg} {B B' : Base} {G H H1 : Hp} {ts ρ : En} {vs : List (Option V)} {σ : L2.St}
theorem Sl.only : ∀ {es : En} {vs : List (Option V)} {own : Owns}, Sl c B G H es vs own → Sl c B' G H (es.map dOnly) vs []
  | _, _, _, .nil => .nil
  | _, _, _, .skip k => .skip (Sl.only k)
  | _, _, _, .d h k => .d h (Sl.only k)
  | _, _, _, .o _ _ k => .skip (Sl.only k)
  | _, _, _, .q _ k => .skip (Sl.only k)
theorem Rep.noSlots (r : Rep c B ts vs ρ σ H) : Rep c B ts vs [] [] H := by
  obtain ⟨G, o1, o2, k, h1, h2⟩ := r
  exact ⟨G, o1, [], k.subO (fun p hp => List.mem_append_left _ (by simpa using hp)) (by rw [List.append_nil]; exact (List.nodup_append.mp k.nd).1), h1, .nil⟩
theorem Rep.extN (r : Rep c B ts vs ρ σ H) (x : ExtN H H1) (t : Tabs c.T H1) : Rep c B ts vs ρ σ H1 := by
  obtain ⟨G, o1, o2, k, h1, h2⟩ := r
  have same : ∀ p ∈ o1 ++ o2, H1 p = H p := fun p hp => by
    obtain ⟨u, e1, e2⟩ := (List.mem_append.mp hp).elim (h1.cellAt p) (h2.cellAt p)
    exact (x _ _ e1 (isCell_tbl e2)).trans e1.symm
  refine ⟨G, o1, o2, ⟨fun a o e => x _ _ (k.sub a o e) (isTbl_false (k.notbl a o e)), k.notbl, k.nd, fun p hp => ⟨(k.out p hp).1, by rw [same p hp]; exact (k.out p hp).2⟩, t, k.pint, fun a o e => ⟨x _ _ (k.pin a o e).1 (isTbl_false (k.pint a o e)), (k.pin a o e).2⟩⟩, h1.mono (fun _ _ e => e) fun p hp => same p (List.mem_append_left _ hp), h2.mono (fun _ _ e => e) fun p hp => same p (List.mem_append_right _ hp)⟩
end
section
variable {X : Cx} {c : Cfg} {W : WX} {F : Out S → Out S} {fb : M S} {t : XK → TE}
variable {x a : Str} {cc Pt : Addr} {k kk : Nat} {params : Arguments} {body : Expr} {scope : Scope} {p lpos pos : Pos}
/-! a lambda that changes one owned cell that it captures -/
theorem Rep.swap {B : Base} {s1 s2 : S} {v1 v2 : Option V} {T ρ : En} {V : List (Option V)} {σ : L2.St} {H : Hp} (r : Rep c B (some s1 :: some s2 :: T) (v1 :: v2 :: V) ρ σ H) : Rep c B (some s2 :: some s1 :: T) (v2 :: v1 :: V) ρ σ H := by
  obtain ⟨G, o1, o2, k, h1, h2⟩ := r
  obtain ⟨w1, os1, own1, rfl, e1, rfl, h3⟩ := h1.unone
  obtain ⟨w2, os2, own2, rfl, e2, rfl, h4⟩ := h3.unone
  have pm : (os2 ++ (os1 ++ own2) ++ o2).Perm (os1 ++ (os2 ++ own2) ++ o2) := by
    refine List.Perm.append_right _ ?_
    rw [← List.append_assoc, ← List.append_assoc]
    exact List.Perm.append_right _ List.perm_append_comm
  exact ⟨G, os2 ++ (os1 ++ own2), o2, k.subO (fun p hp => pm.subset hp) (pm.nodup_iff.mpr k.nd), Sl.one e2 (Sl.one e1 h4), h2⟩
end
end Fx
/-! a lambda of two parameters that captures names, handed to a def of two parameters that calls it -/
namespace Fx
open PySem PySem.Spec PyProof.Rows L2
open C8 (Cal Mak pe_c pe_mk)
open LamX (Tabs TabS TabB ExtN CodeO codeO_ne lamCx lamEnv pe_act)
/-- while the def holds the lambda at f; kn: what stays till then -/
def cF (c : Cfg) (f : Addr) (kn : Hp) : Cfg := { c with exc := some ⟨f, none, []⟩, kn := kn }
section
variable {c : Cfg} {fC : Addr} {kC : Hp} {G H : Hp} {B : Base}
mutual
theorem Rp.noF (h0 : c.exc = none) : ∀ {v : V} {d : D}, Rp c G v d → Fx.noX d = true ∧ Rp (cF c fC kC) G v d
  | _, _, .non => ⟨rfl, .non⟩
  | _, _, .bl b => ⟨rfl, .bl b⟩
  | _, _, .int i => ⟨rfl, .int i⟩
  | _, _, .str y => ⟨rfl, .str y⟩
  | _, _, .ty n => ⟨rfl, .ty n⟩
  | _, _, .tup h k n => ⟨by rw [Fx.noX]; exact (RpAll.noF h0 k).1, .tup h (RpAll.noF h0 k).2 n⟩
  | _, _, .lst h k => ⟨by rw [Fx.noX]; exact (RpAll.noF h0 k).1, .lst h (RpAll.noF h0 k).2⟩
  | _, _, .scr h => ⟨rfl, .scr h⟩
  | _, _, .ins h n k => ⟨by rw [Fx.noX]; exact (RpAll.noF h0 k).1, .ins h n (RpAll.noF h0 k).2⟩
  | _, _, .dct h k => ⟨by rw [Fx.noX]; exact (RpAll.noF h0 k).1, .dct h (RpAll.noF h0 k).2⟩
  | _, _, .dcx h o k1 k2 => ⟨by rw [Fx.noX, (RpAll.noF h0 k1).1, (RpAll.noF h0 k2).1]; rfl, .dcx h o (RpAll.noF h0 k1).2 (RpAll.noF h0 k2).2⟩
  | _, _, .xo h => ⟨rfl, .xo h⟩
  | _, _, .rng h => ⟨rfl, .rng h⟩
  | _, _, .fu h => ⟨rfl, .fu h⟩
  | _, _, .exc h _ _ => absurd (h.symm.trans h0) (by simp)
  | _, _, .fn h k => ⟨rfl, .fn h k⟩
termination_by structural _ _ h => h
theorem RpAll.noF (h0 : c.exc = none) : ∀ {vs : List V} {ds : List D}, RpAll c G vs ds → noXs ds = true ∧ RpAll (cF c fC kC) G vs ds
  | _, _, .nil => ⟨rfl, .nil⟩
  | _, _, .cons h k => ⟨by rw [noXs, (Rp.noF h0 h).1, (RpAll.noF h0 k).1]; rfl, .cons (Rp.noF h0 h).2 (RpAll.noF h0 k).2⟩
termination_by structural _ _ h => h
end
mutual
theorem Rp.offF : ∀ {v : V} {d : D}, Rp (cF c fC kC) G v d → Fx.noX d = true → Rp c G v d
  | _, _, .non, _ => .non
  | _, _, .bl b, _ => .bl b
  | _, _, .int i, _ => .int i
  | _, _, .str y, _ => .str y
  | _, _, .ty n, _ => .ty n
  | _, _, .tup h k n, e => .tup h (RpAll.offF k (by rw [Fx.noX] at e; exact e)) n
  | _, _, .lst h k, e => .lst h (RpAll.offF k (by rw [Fx.noX] at e; exact e))
  | _, _, .scr h, _ => .scr h
  | _, _, .ins h n k, e => .ins h n (RpAll.offF k (by rw [Fx.noX] at e; exact e))
  | _, _, .dct h k, e => .dct h (RpAll.offF k (by rw [Fx.noX] at e; exact e))
  | _, _, .dcx h o k1 k2, e => .dcx h o (RpAll.offF k1 (by rw [Fx.noX, Bool.and_eq_true] at e; exact e.1)) (RpAll.offF k2 (by rw [Fx.noX, Bool.and_eq_true] at e; exact e.2))
  | _, _, .xo h, _ => .xo h
  | _, _, .rng h, _ => .rng h
  | _, _, .fu h, _ => .fu h
  | _, _, .exc h _ _, e => by rw [Fx.noX] at e; cases e
  | _, _, .fn h k, _ => .fn h k
termination_by structural _ _ h => h
theorem RpAll.offF : ∀ {vs : List V} {ds : List D}, RpAll (cF c fC kC) G vs ds → noXs ds = true → RpAll c G vs ds
  | _, _, .nil, _ => .nil
  | _, _, .cons h k, e => by
    rw [noXs, Bool.and_eq_true] at e
    exact .cons (Rp.offF h e.1) (RpAll.offF k e.2)
termination_by structural _ _ h => h
end
theorem Cell.onF (h0 : c.exc = none) {a : Addr} {d : D} (h : Cell c G H a d) : noX d = true ∧ Cell (cF c fC kC) G H a d := by
  cases d with
  | lst ds =>
    obtain ⟨vs, h, k⟩ := h
    exact ⟨by rw [noX]; exact (k.noF (fC := fC) (kC := kC) h0).1, vs, h, (k.noF h0).2⟩
  | ins n ds =>
    obtain ⟨dx, fs, h, hn, k⟩ := h
    exact ⟨by rw [noX]; exact (k.noF (fC := fC) (kC := kC) h0).1, dx, fs, h, hn, (k.noF h0).2⟩
  | dct ks ds =>
    obtain ⟨o, kv, us, h, d, k1, k2⟩ := h
    exact ⟨by rw [noX, (k1.noF (fC := fC) (kC := kC) h0).1, (k2.noF (fC := fC) (kC := kC) h0).1]; rfl, o, kv, us, h, d, (k1.noF h0).2, (k2.noF h0).2⟩
  | xo b o => exact ⟨rfl, h⟩
  | tup ds =>
    obtain ⟨vs, o, h, d, k⟩ := h
    exact ⟨by rw [noX]; exact (k.noF (fC := fC) (kC := kC) h0).1, vs, o, h, d, (k.noF h0).2⟩
  | _ => exact h.elim
theorem Cell.offF {a : Addr} {d : D} (h : Cell (cF c fC kC) G H a d) (e : noX d = true) : Cell c G H a d := by
  cases d with
  | lst ds =>
    obtain ⟨vs, h, k⟩ := h
    rw [noX] at e
    exact ⟨vs, h, k.offF e⟩
  | ins n ds =>
    obtain ⟨dx, fs, h, hn, k⟩ := h
    rw [noX] at e
    exact ⟨dx, fs, h, hn, k.offF e⟩
  | dct ks ds =>
    obtain ⟨o, kv, us, h, d, k1, k2⟩ := h
    rw [noX, Bool.and_eq_true] at e
    exact ⟨o, kv, us, h, d, k1.offF e.1, k2.offF e.2⟩
  | xo b o => exact h
  | tup ds =>
    obtain ⟨vs, o, h, d, k⟩ := h
    rw [noX] at e
    exact ⟨vs, o, h, d, k.offF e⟩
  | _ => exact h.elim
theorem LsAll.onF (h0 : c.exc = none) : ∀ {bs : List Addr} {dss : List (List D)}, LsAll c G H bs dss → noXl dss = true ∧ LsAll (cF c fC kC) G H bs dss
  | _, _, .nil => ⟨rfl, .nil⟩
  | _, _, .cons h k l => by
    obtain ⟨e1, k1⟩ := k.noF (fC := fC) (kC := kC) h0
    obtain ⟨e2, k2⟩ := LsAll.onF h0 l
    exact ⟨by unfold noXl at e2 ⊢; rw [List.all_cons, e1, e2]; rfl, .cons h k1 k2⟩
theorem LsAll.offF : ∀ {bs : List Addr} {dss : List (List D)}, LsAll (cF c fC kC) G H bs dss → noXl dss = true → LsAll c G H bs dss
  | _, _, .nil, _ => .nil
  | _, _, .cons h k l, e => by
    unfold noXl at e
    rw [List.all_cons, Bool.and_eq_true] at e
    exact .cons h (k.offF e.1) (LsAll.offF l e.2)
theorem Sl.onF (h0 : c.exc = none) : ∀ {es : En} {vs : List (Option V)} {own : Owns}, Sl c B G H es vs own → es.all noXS = true ∧ Sl (cF c fC kC) B G H es vs own
  | _, _, _, .nil => ⟨rfl, .nil⟩
  | _, _, _, .skip k => by
    obtain ⟨e, k⟩ := Sl.onF h0 k
    exact ⟨by rw [List.all_cons, e]; rfl, .skip k⟩
  | _, _, _, .d h k => by
    obtain ⟨e, k⟩ := Sl.onF h0 k
    obtain ⟨e1, h1⟩ := h.noF (fC := fC) (kC := kC) h0
    exact ⟨by rw [List.all_cons, e]; show (noX _ && true) = true; rw [e1]; rfl, .d h1 k⟩
  | _, _, _, .o h hb k => by
    obtain ⟨e, k⟩ := Sl.onF h0 k
    obtain ⟨e1, h1⟩ := h.onF (fC := fC) (kC := kC) h0
    exact ⟨by rw [List.all_cons, e]; show (noX _ && true) = true; rw [e1]; rfl, .o h1 hb k⟩
  | _, _, _, .q h k => by
    obtain ⟨e, k⟩ := Sl.onF h0 k
    rcases h with ⟨kvs, bs, rfl, h1, rfl, h3, h4⟩ | ⟨n, ds, p, dk, dv, dx, fs, b, o, kv, us, vs, rfl, rfl, rfl, h1, h2, h3, h4, h5, h6, h7, h8, h9⟩ | ⟨ks', o, kv, bs, rfl, rfl, h1, h2, h3, h4⟩
    · obtain ⟨e1, h5⟩ := h4.onF (fC := fC) (kC := kC) h0
      exact ⟨by rw [List.all_cons, e]; show ((noXs _ && noXl _) && true) = true; rw [e1, noXs_key]; rfl, .q (.inl ⟨kvs, bs, rfl, h1, rfl, h3, h5⟩) k⟩
    · obtain ⟨e4, h4⟩ := h4.noF (fC := fC) (kC := kC) h0
      obtain ⟨e7, h7⟩ := h7.noF (fC := fC) (kC := kC) h0
      obtain ⟨e8, h8⟩ := h8.noF (fC := fC) (kC := kC) h0
      exact ⟨by rw [List.all_cons, e]; show (((noX (.ins n ds) && (noX (plD p) && true)) && ([dk, dv].all noXs)) && true) = true; rw [List.all_cons, List.all_cons, noX, e4, noX_pl, e7, e8]; rfl, .q (.inr (.inl ⟨n, ds, p, dk, dv, dx, fs, b, o, kv, us, vs, rfl, rfl, rfl, h1, h2, h3, h4, h5, h6, h7, h8, h9⟩)) k⟩
    · obtain ⟨e3, h3⟩ := h3.noF (fC := fC) (kC := kC) h0
      obtain ⟨e4, h4⟩ := h4.onF (fC := fC) (kC := kC) h0
      exact ⟨by rw [List.all_cons, e]; show (((noX (.tup ks') && true) && noXl _) && true) = true; rw [noX, e3, e4]; rfl, .q (.inr (.inr ⟨ks', o, kv, bs, rfl, rfl, h1, h2, h3, h4⟩)) k⟩
theorem Sl.offF : ∀ {es : En} {vs : List (Option V)} {own : Owns}, Sl (cF c fC kC) B G H es vs own → es.all noXS = true → Sl c B G H es vs own
  | _, _, _, .nil, _ => .nil
  | _, _, _, .skip k, e => .skip (Sl.offF k (by rw [List.all_cons, Bool.and_eq_true] at e; exact e.2))
  | _, _, _, .d h k, e => by
    rw [List.all_cons, Bool.and_eq_true] at e
    exact .d (h.offF e.1) (Sl.offF k e.2)
  | _, _, _, .o h hb k, e => by
    rw [List.all_cons, Bool.and_eq_true] at e
    exact .o (h.offF e.1) hb (Sl.offF k e.2)
  | _, _, _, .q h k, e => by
    rw [List.all_cons, Bool.and_eq_true] at e
    have e1 : (noXs _ && noXl _) = true := e.1
    rw [Bool.and_eq_true] at e1
    rcases h with ⟨kvs, bs, rfl, h1, rfl, h3, h4⟩ | ⟨n, ds, p, dk, dv, dx, fs, b, o, kv, us, vs, rfl, rfl, rfl, h1, h2, h3, h4, h5, h6, h7, h8, h9⟩ | ⟨ks', o, kv, bs, rfl, rfl, h1, h2, h3, h4⟩
    · exact .q (.inl ⟨kvs, bs, rfl, h1, rfl, h3, h4.offF e1.2⟩) (Sl.offF k e.2)
    · have e2 : (noX (.ins n ds) && (noX (plD p) && true)) = true := e1.1
      have e3 : (noXs dk && (noXs dv && true)) = true := e1.2
      rw [Bool.and_eq_true] at e2 e3
      rw [Bool.and_eq_true] at e3
      have e4 : noXs ds = true := by
        have := e2.1
        rw [noX] at this
        exact this
      exact .q (.inr (.inl ⟨n, ds, p, dk, dv, dx, fs, b, o, kv, us, vs, rfl, rfl, rfl, h1, h2, h3, h4.offF e4, h5, h6, h7.offF e3.1, h8.offF e3.2.1, h9⟩)) (Sl.offF k e.2)
    · have e2 : (noX (.tup ks') && true) = true := e1.1
      rw [Bool.and_true, noX] at e2
      exact .q (.inr (.inr ⟨ks', o, kv, bs, rfl, rfl, h1, h2, h3.offF e2, h4.offF e1.2⟩)) (Sl.offF k e.2)
end
section
variable {c : Cfg} {fC : Addr} {kC H : Hp} {B : Base} {ts ρ : En} {vs : List (Option V)} {σ : L2.St}
theorem Rep.letGoF (e1 : ts.all noXS = true) (e2 : ρ.all noXS = true) (r : Rep (cF c fC kC) B ts vs ρ σ H) : Rep c B ts vs ρ σ H := by
  obtain ⟨G, o1, o2, k, h1, h2⟩ := r
  exact ⟨G, o1, o2, ⟨k.sub, k.notbl, k.nd, k.out, k.tabs, k.pint, k.pin⟩, h1.offF e1, h2.offF e2⟩
end
/-- what a closure that a def got promises, while the def holds it (.exc) -/
def CloOk (c1 : Cfg) (c' : Addr) (q : Str) (tb : List V → Hp → VK → Prop) (Fcl : Fn) : Prop := ∀ (B : Base) (T : En) (v : V) (V' : List (Option V)) (ds : List D) (us : List V) (H : Hp) (Q : VK), us.length = ds.length →
  Rep c1 B (some (.d .exc) :: T) (some v :: V') (ds.map fun x => some (S.d x)) (us.map some) H →
  Post (fun s ρ' => ∀ w σ' H', Rep c1 B (some s :: some (.d .exc) :: T) (some w :: some v :: V') ρ' σ' H' → Q w H') (fun _ _ => False) (Fcl (ds.map .d)) →
  us.length = 2 ∧ H c' = some (CodeO c' q) ∧ tb us H Q
def tClo (i : Nat) (f c' : Addr) (q : Str) (tb : List V → Hp → VK → Prop) (tA : TA) : TE := fun σ H Q => σ[i]? = some (some (.ref f)) ∧ tA σ H fun vs H1 => vs.length = 2 ∧ H1 c' = some (CodeO c' q) ∧ tb vs H1 Q
def mClo (i : Nat) (Fcl : Fn) (fA : M (List D)) : M S := fun ρ => match ρ[i]? with
  | some (some (.d .exc)) => mCall Fcl fA ρ
  | _ => .stuck
theorem den_clo {c : Cfg} {f c' : Addr} {kn : Hp} {W : WX} {q : Str} {tb : List V → Hp → VK → Prop} {Fcl : Fn} {i : Nat} {tA : TA} {fA : M (List D)} (C : CloOk (cF c f kn) c' q tb Fcl) (h : DenA (cF c f kn) W tA fA) : Den (cF c f kn) W (tClo i f c' q tb tA) (mClo i Fcl fA) := fun B ts vs ρ σ H Q r qq => by
  unfold mClo at qq
  split at qq
  · rename_i e
    obtain ⟨v, ev, r1⟩ := r.var e
    obtain ⟨G, O, hv⟩ := r1.one
    cases hv with
    | @exc x hx hd hk =>
      cases hx
      refine ⟨ev, ?_⟩
      unfold mCall at qq
      rw [post_then] at qq
      refine h B _ _ ρ σ H _ r1 (qq.imp (fun ds ρ1 qq us H1 hl r2 => ?_) fun _ _ h => h.drop)
      have r3 := r2.dropN hl
      have ren : Rep (cF c f kn) ⟨fun _ => none, B.pin⟩ (some (.d .exc) :: (erE ts ++ erE ρ1)) (some (V.ref f) :: (vs ++ σ)) (ds.map fun x => some (S.d x)) (us.map some) H1 := r2.enter hl
      refine C _ _ _ _ ds us H1 Q hl ren ?_
      cases hf : Fcl (ds.map .d) with
      | stuck => rw [hf] at qq; exact qq.elim
      | err e ρ' => rw [hf] at qq; exact qq.elim
      | ok s ρ' =>
        rw [hf] at qq
        have qq : Post (OkP (cF c f kn) B ts vs σ Q) (ErrP (cF c f kn) W B ts vs σ) (if bare s then .ok s ρ1 else .stuck) := qq
        split at qq
        · rename_i hs
          refine fun w σ' H' r' => qq w H' ?_
          have r5 := Rep.leave hs r3 r'
          obtain ⟨G, o1, o2, kk, g1, g2⟩ := r5
          obtain ⟨w1, os, own', ew, e1, rfl, g3⟩ := g1.unone
          cases ew
          cases g3 with
          | d a g4 => exact ⟨G, _, o2, kk, Sl.one e1 g4, g2⟩
        · exact qq.elim
  · exact qq.elim
/-! ### the lambda's names -/
structure LamS2 (sc scope : Scope) (a b : Str) : Prop where
  kind : scope.kind = .function
  co : scope.isCoroutine = false
  gen : scope.isGenerator = false
  para : scope.names.lookup a = some .local
  parb : scope.names.lookup b = some .local
  ab : a ≠ b
  own : ∀ y ∈ scope.names, (y.2 = .local → y.1 = a ∨ y.1 = b) ∧ y.2 ≠ .cell
  free : ∀ y ∈ scope.names, y.2 = .free → sc.names.lookup y.1 = some .cell ∨ sc.names.lookup y.1 = some .free
def lamS2B (sc scope : Scope) (a b : Str) : Bool :=
  decide (scope.kind = .function) && !scope.isCoroutine && !scope.isGenerator && decide (scope.names.lookup a = some .local) && decide (scope.names.lookup b = some .local) && !decide (a = b) && scope.names.all fun y => (!decide (y.2 = .local) || decide (y.1 = a) || decide (y.1 = b)) && !decide (y.2 = .cell) && (!decide (y.2 = .free) || decide (sc.names.lookup y.1 = some .cell) || decide (sc.names.lookup y.1 = some .free))
theorem lamS2_by {sc scope : Scope} {a b : Str} (h : lamS2B sc scope a b = true) : LamS2 sc scope a b := by
  unfold lamS2B at h
  simp only [Bool.and_eq_true, Bool.or_eq_true, Bool.not_eq_true', decide_eq_true_eq, decide_eq_false_iff_not, List.all_eq_true] at h
  obtain ⟨⟨⟨⟨⟨⟨h1, h2⟩, h3⟩, h5⟩, h6⟩, h7⟩, h4⟩ := h
  refine ⟨h1, h2, h3, h5, h6, h7, fun y hy => ⟨fun e => ?_, (h4 y hy).1.2⟩, fun y hy e => ?_⟩
  · rcases (h4 y hy).1.1 with (z | z) | z
    · exact absurd e z
    · exact .inl z
    · exact .inr z
  · rcases (h4 y hy).2 with (z | z) | z
    · exact absurd e z
    · exact .inl z
    · exact .inr z
theorem LamS2.has {X : Cx} {scope : Scope} {a b : Str} (L : LamS2 X.env.scope scope a b) (ok : X.Ok) : ∀ y ∈ scope.names, y.2 = .free → ∃ c, X.env.cells.lookup y.1 = some c := fun y hy e => by
  rcases L.free y hy e with k | k
  · exact ok.has _ (.inl k)
  · exact ok.has _ (.inr k)
section
variable {X : Cx} {pins : List (Addr × Obj)} {σ : L2.St} {H HZ : Hp} {s s1 : Shared}
theorem lam_startP {A : Around} {outer : List Env} {E : XK} {scope : Scope} {f c' : Addr} {h₁ : Heap} {tk : Nat} {a b : Str} {j1 j2 : Nat} {x1 x2 : V} {u1 u2 : Value} (I : Inv X pins σ H s) (L : LamS2 X.env.scope scope a b) (e0 : Env0 X.prog X.w X.K X.mg X.base A outer s1 HZ) (hd : A.handled = none)
    (un : Un (frs X.stack) [] H HZ s.heap s1.heap) (hN : X.N.Nodup) (hj1 : X.N[j1]? = some a) (hj2 : X.N[j2]? = some b) (r1 : RelV x1 u1) (r2 : RelV x2 u2)
    (hns : h₁.Ns s1.heap.objs.size fun y => ([(a, u1), (b, u2)] : List (Str × Value)).reverse.lookup y) (kp : ∀ b o, s1.heap.get? b = some o → h₁.get? b = some o) :
    Inv (lamCx X A outer s1 HZ E scope f c') [] ((σ.set j1 (some x1)).set j2 (some x2)) HZ { s1 with heap := h₁, toks := tk } := by
  have hfree := L.has I.ok
  have cm : ∀ {y c}, (cloFrom X.env.cells scope.names []).lookup y = some c → X.env.cells.lookup y = some c := fun {y c} e => by
    rcases cloFrom_mem (PySem.mem_of_lookup e) with hm | ⟨h1, h2⟩
    · cases hm
    · obtain ⟨c1, hc⟩ := hfree _ h1 rfl
      have hc : X.env.cells.lookup y = some c1 := hc
      have e2 : c = c1 := by
        rw [h2, hc] <;> rfl
      rw [e2]
      exact hc
  have look : ∀ {y}, scope.names.lookup y = some .free → ∃ c, (cloFrom X.env.cells scope.names []).lookup y = some c := fun {y} hl => by
    have hy : (y, NameKind.free) ∈ scope.names := PySem.mem_of_lookup hl
    exact mem_lookup (cloFrom_has (cells := X.env.cells) (acc := []) hy)
  have cellK : ∀ {c : Addr} {v : Option Value}, H c = none → s.heap.IsCell c v → h₁.IsCell c v := fun {c v} n ⟨o, ho, hd⟩ => by
    obtain ⟨sl, q⟩ := un.any ho n (by simp)
    exact ⟨_, kp _ _ q, hd⟩
  have noA : ∀ b : Addr, b ∉ (lamCx X A outer s1 HZ E scope f c').ex := fun b z => absurd (show b ∈ ([] : List Addr) from z) (by simp)
  have l1 : j1 < σ.length := by
    rw [I.len]
    exact (List.getElem?_eq_some_iff.mp hj1).1
  have l2 : j2 < σ.length := by
    rw [I.len]
    exact (List.getElem?_eq_some_iff.mp hj2).1
  have j12 : j2 ≠ j1 := fun z => by
    subst z
    rw [hj1] at hj2
    exact L.ab (Option.some.inj hj2)
  have nba : (b == a) = false := by
    rw [beq_eq_false_iff_ne]
    exact fun z => L.ab z.symm
  have nab : (a == b) = false := by
    rw [beq_eq_false_iff_ne]
    exact L.ab
  refine ⟨⟨e0.mod, L.kind, rfl, rfl, Nat.le_refl _, fun y z c e1 e2 => I.ok.inj y z c (cm e1) (cm e2), fun y hy => ?_, fun y c z _ => ?_, fun _ => hd, Around.frames_deeper e0.frames, .inr ⟨rfl, rfl⟩, fun b z => absurd z (noA b), e0.bs, e0.bsz, fun b _ _ => noA b,
      fun b z => absurd z (noA b), e0.funs, e0.frf⟩,
    rfl, e0.bare, Un.kept kp, ⟨_, hns, fun i y v e1 e2 e3 => ?_⟩, fun y c e => ?_, e0.hok.fresh (Nat.le_refl _), fun y c e => ?_, fun q hq => absurd (show q ∈ ([] : List (Addr × Obj)) ++ [] from hq) (by simp), e0.hok.kept kp, by rw [List.length_set, List.length_set]; exact I.len⟩
  · have hy : scope.names.lookup y = some .cell ∨ scope.names.lookup y = some .free := hy
    rcases hy with hy | hy
    · exact absurd rfl (L.own _ (PySem.mem_of_lookup hy)).2
    · exact look hy
  · have z : false = true := z
    cases z
  · have e3 : Vis scope y := e3
    have e1 : X.N[i]? = some y := e1
    rcases e3 with k | k | k
    · rcases (L.own _ (PySem.mem_of_lookup k)).1 rfl with ya | ya
      · have ya : y = a := ya
        subst ya
        have ij : i = j1 := (List.getElem?_inj (List.getElem?_eq_some_iff.mp e1).1 hN).mp (e1.trans hj1.symm)
        subst ij
        rw [List.getElem?_set_ne j12, List.getElem?_set_self l1] at e2
        cases e2
        refine ⟨u1, r1, .inl ⟨k, ?_⟩⟩
        simp [List.lookup, nab]
      · have ya : y = b := ya
        subst ya
        have ij : i = j2 := (List.getElem?_inj (List.getElem?_eq_some_iff.mp e1).1 hN).mp (e1.trans hj2.symm)
        subst ij
        rw [List.getElem?_set_self (by rw [List.length_set]; exact l2)] at e2
        cases e2
        refine ⟨u2, r2, .inl ⟨k, ?_⟩⟩
        simp [List.lookup]
    · exact absurd rfl (L.own _ (PySem.mem_of_lookup k)).2
    · have ij1 : j1 ≠ i := fun z => by
        subst z
        rw [hj1] at e1
        cases e1
        rw [L.para] at k
        cases k
      have ij2 : j2 ≠ i := fun z => by
        subst z
        rw [hj2] at e1
        cases e1
        rw [L.parb] at k
        cases k
      rw [List.getElem?_set_ne ij2, List.getElem?_set_ne ij1] at e2
      obtain ⟨m, hn, hl⟩ := I.loc
      have hvis : Vis X.env.scope y := (L.free _ (PySem.mem_of_lookup k) rfl).elim (fun k => .inr (.inl k)) (fun k => .inr (.inr k))
      obtain ⟨w', r, q⟩ := hl i y v e1 e2 hvis
      obtain ⟨c2, h2⟩ := look k
      refine ⟨w', r, .inr ⟨.inr k, c2, h2, ?_⟩⟩
      have c1 := cm h2
      rcases q with ⟨k', _⟩ | ⟨_, c3, e', z⟩
      · have k' : X.env.scope.names.lookup y = some .local := k'
        rcases L.free _ (PySem.mem_of_lookup k) rfl with k2 | k2 <;> rw [show X.env.scope.names.lookup y = _ from k2] at k' <;> cases k'
      · rw [c1] at e'
        cases e'
        exact cellK (I.freeC y _ c1) z
  · obtain ⟨w', z⟩ := I.cell y c (cm e)
    exact ⟨w', cellK (I.freeC y c (cm e)) z⟩
  · obtain ⟨v, o, ho, hd⟩ := I.cell y c (cm e)
    exact un.free c o ho (I.freeC y c (cm e)) (by simp)
/-- the values at two slots -/
def put2 (σ : L2.St) (j1 j2 : Nat) : List V → L2.St
  | [x, y] => (σ.set j1 (some x)).set j2 (some y)
  | _ => σ
/-- a(e1, e2), in the def that got the lambda: Z is that def's context, entered at s -/
theorem pe_actP {CXg : CXT} {Eg : XK} {Ng : List Str} {qg : Str} {sg : Scope} {g f c' : Addr} {cdg pm ctv : Value} {params : Arguments} {body : Expr} {scope : Scope} {k i j1 j2 : Nat} {a b1 b2 : Str} {t : TE} {e1 : Expr} {es : List Expr} {tA : TA} {p1 p2 : Pos}
    (I : Inv X pins σ H s) (L : LamS2 X.env.scope scope b1 b2) (hf : s.heap.get? f = some (PySem.W.kla_obj "<lambda>" (X.env.qual ++ "<lambda>") params body scope (cloFrom X.env.cells scope.names []) pm c' ctv)) (hfn : H f = none) (hfr : f ∉ frs X.stack)
    (hbind : ∀ u1 u2 : Value, bindArgs (PySem.W.kla_fn "<lambda>" (X.env.qual ++ "<lambda>") params body scope (cloFrom X.env.cells scope.names []) pm (.ref c') ctv) ⟨[u1, u2], []⟩ = pure [(b1, u1), (b2, u2)])
    (hr : Room (k + 1) (X.A.deeper (envOfC qg sg s.heap.objs.size g cdg))) (hXN : X.N.Nodup) (hj1 : X.N[j1]? = some b1) (hj2 : X.N[j2]? = some b2)
    (hbody : ∀ (A : Around) (outer : List Env) (s : Shared) (H : Hp), Room k (A.deeper (lamEnv X scope s.heap.objs.size f c')) → PE (lamCx X A outer s H L2.E0 scope f c') body t)
    (hN : Ng[i]? = some a) (hv : Vis sg a) (hd : (a == ("__debug__" : Str)) = false) (hcd : (a == ("__classdict__" : Str)) = false)
    (ha : PA (cxOf CXg X.prog X.w X.K X.mg X.base Ng qg sg g cdg X.A X.stack s H Eg).nox (e1 :: es) tA)
    (he : starEach (e1 :: es) (envOfC qg sg s.heap.objs.size g cdg) = (false, eval e1 (envOfC qg sg s.heap.objs.size g cdg)) :: starEach es (envOfC qg sg s.heap.objs.size g cdg)) (hpl : (backTo p2 (starEach es (envOfC qg sg s.heap.objs.size g cdg))).any (·.1) = false) :
    PE (cxOf CXg X.prog X.w X.K X.mg X.base Ng qg sg g cdg X.A X.stack s H Eg).nox (.Call (.Name a p1) (e1 :: es) [] p2) (tClo i f c' (X.env.qual ++ "<lambda>") (fun vs H' Q' => t (put2 σ j1 j2 vs) H' Q') tA) := by
  refine ⟨fun pinsZ sZ σZ HZ Q IZ h => ?_⟩
  obtain ⟨hs, ht⟩ := h
  refine wpAny_Call_Name_kw (thn ((pe_var (pos := p1) (i := i) hN hv hd hcd).run pinsZ sZ σZ HZ (fun v H1 => v = .ref f ∧ H1 = HZ) IZ ⟨.ref f, hs, rfl, rfl⟩) fun u s1 ⟨v, H1, I1, r1, q1⟩ => ?_)
  obtain ⟨ev, eH⟩ := q1
  subst ev
  rw [eH] at I1
  obtain rfl : u = Value.ref f := r1
  have of1 : s1.heap.get? f = some (PySem.W.kla_obj "<lambda>" (X.env.qual ++ "<lambda>") params body scope (cloFrom X.env.cells scope.names []) pm c' ctv) := I1.base.keep f _ hf hfn hfr (fun z => nomatch (show f ∈ ([] : List Addr) from z))
  refine PySem.W.callWith_F ⟨_, _, _, _, of1⟩ (thn (ha.run p2 pinsZ s1 σZ _ _ I1 ht) ?_) he hpl
  rintro us s2 ⟨vs, H2, I2, r, hlen, hc, hq⟩
  have of2 : s2.heap.get? f = some (PySem.W.kla_obj "<lambda>" (X.env.qual ++ "<lambda>") params body scope (cloFrom X.env.cells scope.names []) pm c' ctv) := I2.base.keep f _ hf hfn hfr (fun z => nomatch (show f ∈ ([] : List Addr) from z))
  refine ⟨⟨_, _, _, _, of2⟩, ?_⟩
  match vs, hlen, r with
  | [x1, x2], _, r =>
  obtain ⟨u1, u2, rfl, ru1, ru2⟩ := Vals.two r
  have un : Un (frs X.stack) [] H H2 s.heap s2.heap := I2.base
  obtain ⟨⟨oc, vs, t', hoc, hdc, hvc⟩, _, _⟩ := I2.hok c' _ hc
  have rc : codeAny (model X.prog X.w) (X.A.deeper (envOfC qg sg s.heap.objs.size g cdg)) (.call (.ref f) ⟨[u1, u2], []⟩) (CR (L2.CX X.prog X.w) (envOfC qg sg s.heap.objs.size g cdg :: X.stack) X.prog X.w H2 s2 Q L2.E0) s2 := by
    refine PySem.W.kla_callFunE hr.depth of2 rfl L.co L.gen rfl ⟨c', oc, vs, t', rfl, hoc, hdc, hvc⟩ ?_
    rw [hbind]
    refine wpAny_pure (wpAny_newFunctionEnv (fun y hy => (L.own y hy).2) (fun y hy => ?_) (fun h₁ hns hsb => ⟨I2.nolimit.fresh _ hsb, ?_⟩) L.kind)
    · simp only [List.mem_cons, List.not_mem_nil, or_false] at hy
      rcases hy with rfl | rfl
      · exact L.para
      · exact L.parb
    show codeAny _ _ (.expr body (lamEnv X scope s2.heap.objs.size f c')) _ _
    have kp : ∀ b o, s2.heap.get? b = some o → h₁.get? b = some o := fun b o e => hsb.extBut b o (Nat.ne_of_lt (Heap.lt_size e)) (Heap.get?_push_of_some _ e)
    have J : Inv (lamCx X (X.A.deeper (envOfC qg sg s.heap.objs.size g cdg)) (envOfC qg sg s.heap.objs.size g cdg :: X.stack) s2 H2 L2.E0 scope f c') [] ((σ.set j1 (some x1)).set j2 (some x2)) H2 { s2 with heap := h₁, toks := s2.toks + ([(b1, u1), (b2, u2)] : List (Str × Value)).length } :=
      lam_startP I L I2.env0 hr.hd un hXN hj1 hj2 ru1 ru2 hns kp
    refine PySem.W.kla_codeExpr (wpAny_mono ((hbody _ _ s2 H2 (hr.deeper _)).run [] _ _ H2 Q J hq) (fun v s' hq => ?_) fun e s' hq => hq)
    obtain ⟨w', H', J', rv, q⟩ := hq
    exact ⟨w', H', J'.os, J'.bare, J'.base, J'.hok, rv, q⟩
  refine wpAny_call (codeAny_mono rc fun r s' hq => ?_)
  cases r with
  | error e =>
    obtain ⟨_, _, _, _, _, _, _, _, _, _, _, _, z⟩ := (show L2.CX X.prog X.w _ H2 s2 L2.E0 e s' from hq)
    exact z.elim
  | ok fl =>
    cases fl with
    | ret u => exact I2.after hq
    | next => exact False.elim hq
    | brk => exact False.elim hq
    | cont => exact False.elim hq
end
end Fx
/-! x(e, lambda a, b: ..): the site -/
namespace Fx
open PySem PySem.Spec PyProof.Rows L2
open C8 (Cal Mak pe_c pe_mk)
open LamX (Tabs TabS TabB ExtN CodeO codeO_ne lamCx lamEnv)
/-- what the lambda answers, by the names of its place -/
def cloF (j1 j2 : Nat) (fb : M S) (ρ : En) : Fn := fun args => match args with
  | [.d x, .d y] => fb (((ρ.map dOnly).set j1 (some (.d x))).set j2 (some (.d y)))
  | _ => .stuck
def mCallF (F : Fn → Fn) (j1 j2 : Nat) (fb fe : M S) : M S := fun ρ => (dv fe ρ).then fun d ρ1 => match F (cloF j1 j2 fb ρ1) [.d d, .d .exc] with
  | .ok s _ => if bare s && noXS (some s) then .ok s ρ1 else .stuck
  | _ => .stuck
def TTF (c : Cfg) (F : Fn → Fn) (q : Str) (tb : Addr → Hp → List V → Hp → VK → Prop) (v1 : V) (f c' : Addr) (H : Hp) (Q : VK) : Prop :=
  ∃ (kn : Hp) (B : Base) (ts : En) (ws : List (Option V)) (d1 : D) (Fcl : Fn), Rep (cF c f kn) B ts ws [some (.d d1), some (.d .exc)] [some v1, some (.ref f)] H ∧ CloOk (cF c f kn) c' q (tb f kn) Fcl ∧
    Post (fun s ρ' => ∀ v σ' H', Rep (cF c f kn) B (some s :: ts) (some v :: ws) ρ' σ' H' → Q v H') (fun _ _ => False) (F Fcl [.d d1, .d .exc])
def tCallF (T : List (Addr × Str)) (c : Cfg) (F : Fn → Fn) (q : Str) (j1 j2 : Nat) (t : Addr → Hp → TE) (te : TE) : TE := fun σ H Q => te σ H fun v1 H1 => Tabs T H1 ∧ ∀ (H2 : Hp) (f c' : Addr), ExtN H1 H2 → Tabs T H2 → H2 f = none → H2 c' = some (CodeO c' q) →
  TTF c F q (fun f kn vs H' Q' => t f kn (put2 σ j1 j2 vs) H' Q') v1 f c' H2 Q
theorem den_callF {c : Cfg} {W : WX} {F : Fn → Fn} {q : Str} {j1 j2 : Nat} {t : Addr → Hp → TE} {te : TE} {fb fe : M S} (h0 : c.exc = none) (hA : Den c W te fe) (hb : ∀ f kn, Den (cF c f kn) W0 (t f kn) fb) : Den c W (tCallF c.T c F q j1 j2 t te) (mCallF F j1 j2 fb fe) := fun B ts vs ρ σ H Q r qq => by
  unfold mCallF at qq
  rw [post_then] at qq
  refine hA.dv r (qq.imp1 fun d1 ρ1 qq v1 H1 r1 => ?_)
  refine ⟨?_, fun H2 f c' xN tN nf hc => ?_⟩
  · obtain ⟨G, o1, o2, k, h1, h2⟩ := r1
    exact k.tabs
  have r2 := r1.extN xN tN
  have r3 : Rep c B ts vs ρ1 σ H2 := r2.drop
  obtain ⟨G, o1, o2, k, h1, h2⟩ := r2
  cases h1 with
  | d hd h1 =>
  have nc : ∀ p ∈ o1 ++ o2, p ≠ c' := fun p hp z => by
    obtain ⟨u, e1, e2⟩ := (List.mem_append.mp hp).elim (h1.cellAt p) (h2.cellAt p)
    rw [z, hc] at e1
    cases e1
    exact isCell_code e2 rfl
  have sG : ∀ a o, G a = some o → upd G c' (CodeO c' q) a = some o := fun a o e => by
    by_cases ac : a = c'
    · rw [ac, upd_same]
      have e1 := k.sub a o e
      rw [ac, hc] at e1
      exact e1
    · rw [upd_ne ac]
      exact e
  have kk : OkB (cF c f (upd G c' (CodeO c' q))) ⟨fun _ => none, B.pin⟩ (upd G c' (CodeO c' q)) H2 (o1 ++ o2) := by
    refine ⟨fun a o e => ?_, fun a o e => ?_, k.nd, fun p hp => ⟨?_, (k.out p hp).2⟩, k.tabs, k.pint, k.pin⟩
    · by_cases ac : a = c'
      · rw [ac, upd_same] at e
        rw [ac, hc]
        exact e
      · rw [upd_ne ac] at e
        exact k.sub a o e
    · by_cases ac : a = c'
      · rw [ac, upd_same] at e
        rw [← Option.some.inj e]
        rfl
      · rw [upd_ne ac] at e
        exact k.notbl a o e
    · rw [upd_ne (nc p hp)]
      exact (k.out p hp).1
  have hwait : Sl c ⟨fun _ => none, B.pin⟩ G H2 (erE ts ++ erE ρ1) (vs ++ σ) (o1 ++ o2) := h1.er.app h2.er
  obtain ⟨ex, hw⟩ := hwait.onF (fC := f) (kC := upd G c' (CodeO c' q)) h0
  have hdF := (hd.noF (fC := f) (kC := upd G c' (CodeO c' q)) h0).2
  refine ⟨upd G c' (CodeO c' q), ⟨fun _ => none, B.pin⟩, erE ts ++ erE ρ1, vs ++ σ, d1, cloF j1 j2 fb ρ1, ?_, ?_, ?_⟩
  · exact ⟨_, o1 ++ o2, [], by rw [List.append_nil]; exact kk, hw.mono sG fun _ _ => rfl, .d (hdF.mono sG) (.d (.exc (x := ⟨f, none, []⟩) rfl (fun _ e => nomatch e) fun _ _ e => e) .nil)⟩
  · intro B2 T v V' ds us H3 Q3 hl rr pp
    unfold cloF at pp
    obtain ⟨G2, p1, p2, k2, g1, g2⟩ := rr
    have g1' := g1
    cases g1' with
    | d hx _ =>
    cases hx with
    | exc hxe _ hk =>
    match ds, us, hl, g2, pp with
    | [x, y], [u1, u2], _, g2, pp =>
      refine ⟨rfl, k2.sub _ _ (hk c' _ upd_same), ?_⟩
      have g3 : Sl (cF c f (upd G c' (CodeO c' q))) B2 G2 H3 [some (S.d x), some (S.d y)] [some u1, some u2] p2 := g2
      cases g3 with
      | d rx g3 =>
      cases g3 with
      | d ry g3 =>
      cases g3
      have so : Sl (cF c f (upd G c' (CodeO c' q))) B2 G2 H3 (ρ1.map dOnly) σ [] := by
        have s1 : Sl c B2 G H2 (ρ1.map dOnly) σ [] := h2.only
        have s2 := (s1.onF (fC := f) (kC := upd G c' (CodeO c' q)) h0).2
        exact s2.mono (fun a o e => hk a o (sG a o e)) fun p hp => absurd hp (by simp)
      have ra : Rep (cF c f (upd G c' (CodeO c' q))) B2 (some (.d x) :: some (.d y) :: some (.d .exc) :: T) (some u1 :: some u2 :: _ :: V') (ρ1.map dOnly) σ H3 := ⟨G2, p1, [], k2, .d rx (.d ry g1), so⟩
      exact hb f _ B2 _ _ _ _ H3 Q3 (ra.set (i := j1)).set (pp.imp (fun s ρ' h w H' r => h w _ H' r) fun _ _ h => h.elim)
    | [], _, _, _, pp => exact pp.elim
    | [_], _, _, _, pp => exact pp.elim
    | _ :: _ :: _ :: _, _, _, _, pp => exact pp.elim
    | [_, _], [], hl, _, _ => simp at hl
    | [_, _], [_], hl, _, _ => simp at hl
    | [_, _], _ :: _ :: _ :: _, hl, _, _ => simp at hl
  · cases hF : F (cloF j1 j2 fb ρ1) [.d d1, .d .exc] with
    | stuck => rw [hF] at qq; exact qq.elim
    | err e ρ' => rw [hF] at qq; exact qq.elim
    | ok s ρ' =>
      rw [hF] at qq
      have qq : Post (OkP c B ts vs σ Q) (ErrP c W B ts vs σ) (if bare s && noXS (some s) then .ok s ρ1 else .stuck) := qq
      split at qq
      · rename_i hs
        rw [Bool.and_eq_true] at hs
        intro w σ' H' r'
        have r4 := (r'.noSlots).letGoF (by rw [List.all_cons, Bool.and_eq_true]; exact ⟨hs.2, ex⟩) rfl
        exact qq w H' (Rep.leave hs.1 r3 r4)
      · exact qq.elim
/-- the call of such a parameter, by the name that holds it -/
def Act (Z : Cx) (a : Str) (i : Nat) (f c' : Addr) (q : Str) (tb : List V → Hp → VK → Prop) : Prop := ∀ (e1 : Expr) (es : List Expr) (tA : TA) (p1 p2 : Pos), PA Z (e1 :: es) tA → starEach (e1 :: es) Z.env = (false, eval e1 Z.env) :: starEach es Z.env → (backTo p2 (starEach es Z.env)).any (·.1) = false →
  PE Z (.Call (.Name a p1) (e1 :: es) [] p2) (tClo i f c' q tb tA)
/-- a def of two parameters, the second one to be called, by its name -/
structure CalF (P : Program) (w : World) (K : PySem.W.Frag) (mg : Str → Option Value) (base : Heap) (k : Nat) (x : Str) (c : Cfg) (F : Fn → Fn) : Prop where
  ex : ∃ (g : Addr) (pg : Arguments) (bg : List Stmt) (sg : Scope) (dV kV doc pm cdv ct oc : Value) (an od : Option Addr) (osl : Array (Option Value)) (Ng : List Str) (a1 a2 : Str) (bF : Fn → M Fl),
    mg x = some (.ref g) ∧ PySem.W.keepIn K (.ref g) = true ∧ K.lookup g = some ⟨oc, od, .func (PySem.W.fnOf x x pg bg sg dV kV doc pm an cdv ct), osl⟩ ∧ PySem.W.codeIn K cdv x = true ∧ L2.Binds K (PySem.W.fnOf x x pg bg sg dV kV doc pm an cdv ct) [a1, a2] [] ∧ FnScope Ng [a1, a2] sg ∧ Ng[1]? = some a2 ∧ Vis sg a2 ∧
      (a2 == ("__debug__" : Str)) = false ∧ (a2 == ("__classdict__" : Str)) = false ∧ (∀ Fcl, F Fcl = runF 2 Ng.length (bF Fcl)) ∧
      ∀ (A : Around) (stack : List Env) (s : Shared) (H : Hp), Room k (A.deeper (envOfC x sg s.heap.objs.size g cdv)) → ∀ (f c' : Addr) (kn : Hp) (q : Str) (tb : List V → Hp → VK → Prop) (Fcl : Fn),
        Act (cxOf C8.CX0 P w K mg base Ng x sg g cdv A stack s H C8.E0).nox a2 1 f c' q tb → CloOk (cF c f kn) c' q tb Fcl → ∃ t, PSs (cxOf C8.CX0 P w K mg base Ng x sg g cdv A stack s H C8.E0).nox bg t ∧ DenS (cF c f kn) W0 t (bF Fcl)
section
variable {X : Cx} {c : Cfg} {W : WX} {F : Fn → Fn}
theorem pe_callF {k kk j1 j2 : Nat} {x b1 b2 : Str} {cc Pt : Addr} {params : Arguments} {body e1 : Expr} {scope : Scope} {t : Addr → Hp → TE} {te : TE} {p lpos pos : Pos} (C : CalF X.prog X.w X.K X.mg X.base k x c F) (he : PE X e1 te) (hg : Gl X x)
    (TB : TabB X.base X.mg cc Pt) (hcode : X.env.code = .ref cc) (hmT : (Pt, X.env.qual ++ "<lambda>") ∈ c.T) (hu : ∀ p ∈ c.T, p.1 = Pt → p.2 = X.env.qual ++ "<lambda>") (hr : Room (kk + 2) X.A) (hk : k ≤ kk + 1) (L : LamS2 X.env.scope scope b1 b2) (hdef : defaultsOf params X.env = ([], []))
    (hbind : ∀ (q : Str) (cl : List (Str × Addr)) (pm cv ctv u1 u2 : Value), bindArgs (PySem.W.kla_fn "<lambda>" q params body scope cl pm cv ctv) ⟨[u1, u2], []⟩ = pure [(b1, u1), (b2, u2)]) (hXN : X.N.Nodup) (hj1 : X.N[j1]? = some b1) (hj2 : X.N[j2]? = some b2)
    (hbody : ∀ (A : Around) (outer : List Env) (s : Shared) (H : Hp) (f c' : Addr) (kn : Hp), Room kk (A.deeper (lamEnv X scope s.heap.objs.size f c')) → PE (lamCx X A outer s H L2.E0 scope f c') body (t f kn))
    (hdb : (x == ("__debug__" : Str)) = false) (hs1 : starEach [e1, .Lambda params body scope lpos] X.env = (false, eval e1 X.env) :: starEach [.Lambda params body scope lpos] X.env) :
    PE X (.Call (.Name x p) [e1, .Lambda params body scope lpos] [] pos) (tCallF c.T c F (X.env.qual ++ "<lambda>") j1 j2 t te) := by
  obtain ⟨g, pg, bg, sg, dV, kV, doc, pm, cdv, ct, oc, an, od, osl, Ng, a1, a2, bF, h1, h2, h3, h4, h5, h6, h7, h8, h9, h10, h11, h12⟩ := C.ex
  refine ⟨fun pins s σ H Q I h => ?_⟩
  refine wpAny_Call_Name_kw (ld_glob I hg h1 ?_ hdb)
  refine PySem.W.callWith_K (h₀ := X.base) I.ok.mod.kin h2 ?_ hs1 (by rfl)
  rw [hs1]
  show wpAny _ _ (spliced ((false, eval e1 X.env) :: (false, eval (.Lambda params body scope lpos) X.env) :: [])) _ _ s
  refine Calls.spliced_cons (thn (he.run pins s σ H _ I h) fun u1 s1 ⟨v1, H1, I1, r1, hT, q1⟩ => ?_)
  refine Calls.spliced_cons (LamX.lam_make2 I1 TB hcode hmT hu hT hdef (L.has I1.ok) fun f c' pm' ctv H2 s2 I2 eN T2 hf hfn hfr hco => ?_)
  refine Calls.spliced_nil ⟨I2.kIn, ?_⟩
  obtain ⟨kn, B, ts, ws, d1, Fcl, rr, hcl, pp⟩ := q1 H2 f c' eN T2 hfn hco
  have rc : codeAny (model X.prog X.w) X.A (.call (.ref g) ⟨[u1, .ref f], []⟩) (CR C8.CX0 X.stack X.prog X.w H2 s2 Q C8.E0) s2 := by
    refine LamX.run_ofS (k := kk + 1) (N := Ng) (ps := [a1, a2]) (us := [u1, .ref f]) (vs := [v1, .ref f]) h3 h4 h6 hr I2.env0 (h5 s2 [u1, .ref f] I2.kIn rfl) (.cons r1 (.cons rfl .nil)) rfl fun hr' => ?_
    have act : Act (cxOf C8.CX0 X.prog X.w X.K X.mg X.base Ng x sg g cdv X.A X.stack s2 H2 C8.E0).nox a2 1 f c' (X.env.qual ++ "<lambda>") (fun vs H' Q' => t f kn (put2 σ j1 j2 vs) H' Q') := fun e1 es tA p1 p2 ha hse hpl =>
      pe_actP I2 L hf hfn hfr (fun u1 u2 => hbind _ _ _ _ _ u1 u2) hr' hXN hj1 hj2 (fun A outer s H hr2 => hbody A outer s H f c' kn hr2) h7 h8 h9 h10 ha hse hpl
    obtain ⟨t', ht', hd'⟩ := h12 X.A X.stack s2 H2 (hr'.mono hk) f c' kn _ _ Fcl act hcl
    refine ⟨t', ht'.nox, ?_⟩
    rw [h11 Fcl] at pp
    unfold runF at pp
    rw [if_pos (by rfl)] at pp
    have r2 := rr.slots (Ng.length - 2)
    refine hd' B ts ws _ _ H2 _ r2 ?_
    cases hb : bF Fcl ([S.d d1, S.d .exc].map some ++ List.replicate (Ng.length - 2) none) with
    | stuck => rw [hb] at pp; exact pp.elim
    | err e ρ => rw [hb] at pp; exact pp.elim
    | ok fl ρ =>
      rw [hb] at pp
      have hb' : bF Fcl ([some (S.d d1), some (S.d .exc)] ++ List.replicate (Ng.length - 2) none) = .ok fl ρ := hb
      rw [hb']
      cases fl with
      | rt s => exact fun v σ' H' r' => pp v σ' H' r'
      | nx => exact fun σ' H' r' => pp .non σ' H' (Rep.repl (ds := []) (us := []) r' rfl fun G _ => .non)
      | bk => exact pp.elim
      | ct => exact pp.elim
  refine wpAny_call (codeAny_mono rc fun r s3 hq => ?_)
  cases r with
  | error e => exact (show False from hq).elim
  | ok fl =>
    cases fl with
    | ret u => exact I2.after hq
    | next => exact False.elim hq
    | brk => exact False.elim hq
    | cont => exact False.elim hq
/-- x(e, lambda a, b: body) -/
theorem q_callF {k kk j1 j2 : Nat} {x b1 b2 : Str} {cc Pt : Addr} {params : Arguments} {body e1 : Expr} {scope : Scope} {t : Addr → Hp → TE} {te : TE} {fb fe : M S} {p lpos pos : Pos} (C : CalF X.prog X.w c.K X.mg X.base k x c F) (h0 : c.exc = none) (he : QE X c W e1 te fe)
    (TB : TabB X.base X.mg cc Pt) (hmT : (Pt, X.env.qual ++ "<lambda>") ∈ c.T) (hu : ∀ p ∈ c.T, p.1 = Pt → p.2 = X.env.qual ++ "<lambda>") (hr : Room (kk + 2) X.A) (hk : k ≤ kk + 1) (L : LamS2 X.env.scope scope b1 b2) (hXN : X.N.Nodup)
    (hbody : ∀ (A : Around) (outer : List Env) (s : Shared) (H : Hp) (f c' : Addr) (kn : Hp), Room kk (A.deeper (lamEnv X scope s.heap.objs.size f c')) → QE (lamCx X A outer s H L2.E0 scope f c') (cF c f kn) W0 body (t f kn) fb)
    (hg : Gl X x := by rfl) (hK : X.K = c.K := by rfl) (hcode : X.env.code = .ref cc := by rfl) (hdef : defaultsOf params X.env = ([], []) := by rfl)
    (hbind : ∀ (q : Str) (cl : List (Str × Addr)) (pm cv ctv u1 u2 : Value), bindArgs (PySem.W.kla_fn "<lambda>" q params body scope cl pm cv ctv) ⟨[u1, u2], []⟩ = pure [(b1, u1), (b2, u2)] := by intros; rfl) (hj1 : X.N[j1]? = some b1 := by rfl) (hj2 : X.N[j2]? = some b2 := by rfl)
    (hdb : (x == ("__debug__" : Str)) = false := by decide) (hs1 : starEach [e1, .Lambda params body scope lpos] X.env = (false, eval e1 X.env) :: starEach [.Lambda params body scope lpos] X.env := by rfl) :
    QE X c W (.Call (.Name x p) [e1, .Lambda params body scope lpos] [] pos) (tCallF c.T c F (X.env.qual ++ "<lambda>") j1 j2 t te) (mCallF F j1 j2 fb fe) := by
  refine ⟨pe_callF (hK ▸ C) he.pe hg TB hcode hmT hu hr hk L hdef hbind hXN hj1 hj2 (fun A outer s H f c' kn hr' => (hbody A outer s H f c' kn hr').pe) hdb hs1, den_callF h0 he.dn fun f kn => (hbody X.A [] ({} : Shared) (fun _ => none) f 0 kn ?_).dn⟩
  exact (hr.mono (by omega : kk + 1 ≤ kk + 2)).deeper _
end
end Fx
/-! a def within a def, called there and handed to a def that calls it -/
namespace Fx
open PySem PySem.Spec PyProof.Rows L2
open C8 (Cal Mak pe_c pe_mk)
open LamX (Tabs TabS TabB ExtN CodeO codeO_ne)
open NdefX (NF FnO NOk NScope CellsAt Caps slotAt startF ncx envF tCallN tNdef TabsN TabN)
/-- a run of the inner def: its arguments, what it captured -/
def runN (nN : Nat) (b : M Fl) (ds : List D) (es : En) : Out S := match b (ds.map (fun x => some (S.d x)) ++ (es ++ List.replicate (nN - ds.length - es.length) none)) with
  | .ok (.rt s) ρ => .ok s ρ
  | .ok .nx ρ => .ok (.d .non) ρ
  | .err e ρ => .err e ρ
  | _ => .stuck
def spN (c1 : Cfg) (nN : Nat) (b : M Fl) : List (Option V) → Sp := fun ws vs H Q _ => ∃ (B : Base) (ts : En) (V' : List (Option V)) (ds : List D) (es : En), Rep c1 B ts V' (ds.map (fun x => some (S.d x)) ++ es) (vs.map some ++ ws) H ∧ vs.length = ds.length ∧ es.length = ws.length ∧ vs.length = 2 ∧
  Post (fun s ρ' => ∀ v σ' H', Rep c1 B (some s :: ts) (some v :: V') ρ' σ' H' → Q v H') (fun _ _ => False) (runN nN b ds es)
section
variable {P : Program} {w : World} {K : PySem.W.Frag} {mg : Str → Option Value} {base : Heap} {c1 : Cfg}
theorem nok_den {N fr : List Str} {a1 a2 : Str} {F : NF} {f : Addr} {k : Nat} {b : M Fl} (Sc : NScope N [a1, a2] fr F.scope) (hb : ∀ (doc pm ctv : Value) (us : List Value), us.length = 2 → bindArgs (F.fd doc pm ctv) ⟨us, []⟩ = pure ([a1, a2].zip us))
    (hbody : ∀ (A : Around) (outer : List Env) (s : Shared) (H : Hp) (E : XK), Room k (A.deeper (envF F f s.heap.objs.size)) → ∃ t, PSs (ncx L2.CX0 P w K mg base N F f A outer s H E) F.body t ∧ DenS c1 W0 t b) : NOk P w K mg base L2.CX0 (k + 1) f F [a1, a2] fr (spN c1 N.length b) := by
  refine NdefX.nok_of Sc (fun doc pm ctv us h => hb doc pm ctv us h) (fun ws vs H Q E h => ?_) fun A outer s H vs ws Q E hr hf hc hw h => ?_
  · obtain ⟨B, ts, V', ds, es, _, _, _, h2, _⟩ := h
    exact h2
  · obtain ⟨B, ts, V', ds, es, r, l1, l2, l3, p⟩ := h
    obtain ⟨t, h1, h2⟩ := hbody A outer s H E hr
    refine ⟨t, h1, ?_⟩
    unfold runN at p
    have r2 := r.slots (N.length - ds.length - es.length)
    have e1 : vs.map some ++ ws ++ List.replicate (N.length - ds.length - es.length) none = startF N vs ws := by
      unfold startF
      rw [List.append_assoc, ← l1, l2]
    rw [e1, List.append_assoc] at r2
    refine h2 B ts V' _ _ H _ r2 ?_
    cases hb2 : b (ds.map (fun x => some (S.d x)) ++ (es ++ List.replicate (N.length - ds.length - es.length) none)) with
    | stuck => rw [hb2] at p; exact p.elim
    | err e ρ => rw [hb2] at p; exact p.elim
    | ok fl ρ =>
      rw [hb2] at p
      cases fl with
      | rt s => exact fun v σ' H' r' => p v σ' H' r'
      | nx => exact fun σ' H' r' => p .non σ' H' (Rep.repl (ds := []) (us := []) r' rfl fun G _ => .non)
      | bk => exact p.elim
      | ct => exact p.elim
end
/-! ### the call, in the def that got it -/
def tClG (hd : Hp → Prop) (i : Nat) (f c' : Addr) (q : Str) (tb : List V → Hp → VK → Prop) (tA : TA) : TE := fun σ H Q => σ[i]? = some (some (.ref f)) ∧ hd H ∧ tA σ H fun vs H1 => vs.length = 2 ∧ H1 c' = some (CodeO c' q) ∧ tb vs H1 Q
theorem den_clG {c : Cfg} {f c' : Addr} {kn : Hp} {W : WX} {q : Str} {tb : List V → Hp → VK → Prop} {Fcl : Fn} {i : Nat} {tA : TA} {fA : M (List D)} {hd : Hp → Prop} (hh : ∀ H : Hp, (∀ a o, kn a = some o → H a = some o) → hd H) (C : CloOk (cF c f kn) c' q tb Fcl) (h : DenA (cF c f kn) W tA fA) :
    Den (cF c f kn) W (tClG hd i f c' q tb tA) (mClo i Fcl fA) := fun B ts vs ρ σ H Q r qq => by
  obtain ⟨h1, h2⟩ := den_clo (i := i) C h B ts vs ρ σ H Q r qq
  refine ⟨h1, hh H ?_, h2⟩
  unfold mClo at qq
  split at qq
  · rename_i e
    obtain ⟨v, ev, r1⟩ := r.var e
    obtain ⟨G, O, hv⟩ := r1.one
    cases hv with
    | @exc x hx hd hk => exact fun a o e => O.sub _ _ (hk a o e)
  · exact qq.elim
def ActG (Z : Cx) (a : Str) (i : Nat) (f c' : Addr) (q : Str) (hd : Hp → Prop) (tb : List V → Hp → VK → Prop) : Prop := ∀ (e1 : Expr) (es : List Expr) (tA : TA) (p1 p2 : Pos), PA Z (e1 :: es) tA → starEach (e1 :: es) Z.env = (false, eval e1 Z.env) :: starEach es Z.env → (backTo p2 (starEach es Z.env)).any (·.1) = false →
  PE Z (.Call (.Name a p1) (e1 :: es) [] p2) (tClG hd i f c' q tb tA)
theorem q_clG {X : Cx} {c : Cfg} {f c' : Addr} {kn : Hp} {W : WX} {a : Str} {i : Nat} {q : Str} {hd : Hp → Prop} {tb : List V → Hp → VK → Prop} {Fcl : Fn} {e : Expr} {es : List Expr} {tA : TA} {fA : M (List D)} {p pos : Pos} (ac : ActG X a i f c' q hd tb) (hh : ∀ H : Hp, (∀ a o, kn a = some o → H a = some o) → hd H) (C : CloOk (cF c f kn) c' q tb Fcl) (ha : QA X (cF c f kn) W (e :: es) tA fA)
    (he : starEach (e :: es) X.env = (false, eval e X.env) :: starEach es X.env := by rfl) (hpl : (backTo pos (starEach es X.env)).any (·.1) = false := by rfl) : QE X (cF c f kn) W (.Call (.Name a p) (e :: es) [] pos) (tClG hd i f c' q tb tA) (mClo i Fcl fA) :=
  ⟨ac e es tA p pos ha.pe he hpl, den_clG hh C ha.dn⟩
/-- a def of two parameters, the second one to be called, by its name -/
structure CalG (P : Program) (w : World) (K : PySem.W.Frag) (mg : Str → Option Value) (base : Heap) (k : Nat) (x : Str) (c : Cfg) (F : Fn → Fn) : Prop where
  ex : ∃ (g : Addr) (pg : Arguments) (bg : List Stmt) (sg : Scope) (dV kV doc pm cdv ct oc : Value) (an od : Option Addr) (osl : Array (Option Value)) (Ng : List Str) (a1 a2 : Str) (bF : Fn → M Fl),
    mg x = some (.ref g) ∧ PySem.W.keepIn K (.ref g) = true ∧ K.lookup g = some ⟨oc, od, .func (PySem.W.fnOf x x pg bg sg dV kV doc pm an cdv ct), osl⟩ ∧ PySem.W.codeIn K cdv x = true ∧ L2.Binds K (PySem.W.fnOf x x pg bg sg dV kV doc pm an cdv ct) [a1, a2] [] ∧ FnScope Ng [a1, a2] sg ∧ Ng[1]? = some a2 ∧ Vis sg a2 ∧
      (a2 == ("__debug__" : Str)) = false ∧ (a2 == ("__classdict__" : Str)) = false ∧ (∀ Fcl, F Fcl = runF 2 Ng.length (bF Fcl)) ∧
      ∀ (A : Around) (stack : List Env) (s : Shared) (H : Hp), Room k (A.deeper (envOfC x sg s.heap.objs.size g cdv)) → ∀ (f c' : Addr) (kn : Hp) (q : Str) (hd : Hp → Prop) (tb : List V → Hp → VK → Prop) (Fcl : Fn),
        (∀ H : Hp, (∀ a o, kn a = some o → H a = some o) → hd H) → ActG (cxOf C8.CX0 P w K mg base Ng x sg g cdv A stack s H C8.E0).nox a2 1 f c' q hd tb → CloOk (cF c f kn) c' q tb Fcl → ∃ t, PSs (cxOf C8.CX0 P w K mg base Ng x sg g cdv A stack s H C8.E0).nox bg t ∧ DenS (cF c f kn) W0 t (bF Fcl)
theorem CalG.toF {P : Program} {w : World} {K : PySem.W.Frag} {mg : Str → Option Value} {base : Heap} {k : Nat} {x : Str} {c : Cfg} {F : Fn → Fn} (C : CalG P w K mg base k x c F) : CalF P w K mg base k x c F := by
  obtain ⟨g, pg, bg, sg, dV, kV, doc, pm, cdv, ct, oc, an, od, osl, Ng, a1, a2, bF, h1, h2, h3, h4, h5, h6, h7, h8, h9, h10, h11, h12⟩ := C.ex
  refine ⟨g, pg, bg, sg, dV, kV, doc, pm, cdv, ct, oc, an, od, osl, Ng, a1, a2, bF, h1, h2, h3, h4, h5, h6, h7, h8, h9, h10, h11, fun A stack s H hr f c' kn q tb Fcl act C => ?_⟩
  refine h12 A stack s H hr f c' kn q (fun _ => True) tb Fcl (fun _ _ => trivial) (fun e1 es tA p1 p2 ha hs hp => ?_) C
  have h0 := act e1 es tA p1 p2 ha hs hp
  exact ⟨fun pins s σ H Q I h => h0.run pins s σ H Q I ⟨h.1, h.2.2⟩⟩
end Fx
/-! a def within a def: its call there, its handing on, its statement -/
namespace Fx
open PySem PySem.Spec PyProof.Rows L2
open C8 (Cal Mak pe_c pe_mk)
open LamX (Tabs TabS TabB ExtN CodeO codeO_ne)
open NdefX (NF FnO NOk NScope CellsAt Caps slotAt startF ncx envF tCallN tNdef TabsN TabN)
theorem Rp.excE {c : Cfg} {f : Addr} {kn G : Hp} {v : V} (h : Rp (cF c f kn) G v .exc) : v = .ref f ∧ ∀ a o, kn a = some o → G a = some o := by
  cases h with
  | @exc x hx hd hk =>
    cases hx
    exact ⟨rfl, hk⟩
/-- what an inner def captured, by the names of its place -/
def capE (js : List Nat) (ρ : En) : En := js.map fun j => match ρ[j]? with
  | some o => dOnly o
  | none => none
theorem Sl.caps {c : Cfg} {B B' : Base} {G H : Hp} {ρ : En} {σ : L2.St} {own : Owns} (h : Sl c B G H ρ σ own) : ∀ js : List Nat, Sl c B' G H (capE js ρ) (js.map (slotAt σ)) []
  | [] => .nil
  | j :: js => by
    show Sl c B' G H ((match ρ[j]? with
      | some z => dOnly z
      | none => none) :: capE js ρ) (slotAt σ j :: js.map (slotAt σ)) []
    cases e : ρ[j]? with
    | none => exact .skip (Sl.caps h js)
    | some o =>
      cases o with
      | none => exact .skip (Sl.caps h js)
      | some s =>
        cases s with
        | d x =>
          obtain ⟨v, ev, hv⟩ := h.getD e
          rw [NdefX.slotAt_of ev]
          exact .d hv (Sl.caps h js)
        | o b x => exact .skip (Sl.caps h js)
        | q ks dss => exact .skip (Sl.caps h js)
def nFn (js : List Nat) (nN : Nat) (b : M Fl) (ρ : En) : Fn := fun args => match args with
  | [.d x, .d y] => runN nN b [x, y] (capE js ρ)
  | _ => .stuck
def mNC (i : Nat) (js : List Nat) (nN : Nat) (b : M Fl) (fA : M (List D)) : M S := fun ρ => match ρ[i]? with
  | some (some (.d .exc)) => (fA ρ).then fun ds ρ1 => match nFn js nN b ρ1 (ds.map .d) with
    | .ok s _ => if bare s then .ok s ρ1 else .stuck
    | _ => .stuck
  | _ => .stuck
theorem capE_len {js : List Nat} {ρ : En} : (capE js ρ).length = js.length := List.length_map _
/-- one call's promise, from what the frame holds -/
theorem spN_of {c1 : Cfg} {B : Base} {ts : En} {vs : List (Option V)} {ρ1 : En} {σ : L2.St} {H1 : Hp} {v0 : V} {ds : List D} {us : List V} {js : List Nat} {nN : Nat} {b : M Fl} {Q : VK} (r2 : Rep c1 B (tmp ds ++ some (.d .exc) :: ts) (tmv us ++ some v0 :: vs) ρ1 σ H1) (hl : us.length = ds.length)
    (qq : Post (fun s _ => bare s = true ∧ ∀ v H', Rep c1 B (some s :: ts) (some v :: vs) ρ1 σ H' → Q v H') (fun _ _ => False) (nFn js nN b ρ1 (ds.map .d))) : spN c1 nN b (js.map (slotAt σ)) us H1 Q L2.E0 := by
  have r3 := r2.dropN hl
  obtain ⟨G, o1, o2, k, h1, h2⟩ := id r2
  obtain ⟨a1, a2⟩ := h1.tmp hl
  match ds, us, hl, qq, r3 with
  | [x, y], [u1, u2], hl, qq, r3 =>
    refine ⟨⟨fun _ => none, B.pin⟩, some (.d .exc) :: (erE ts ++ erE ρ1), some v0 :: (vs ++ σ), [x, y], capE js ρ1, ?_, rfl, by rw [capE_len, List.length_map], rfl, ?_⟩
    · refine ⟨G, o1 ++ o2, [] ++ [], by rw [List.append_nil, List.append_nil]; exact k.anyB, (a2.er).app h2.er, (a1.slot).app (h2.caps js)⟩
    · have qq : Post _ (fun _ _ => False) (runN nN b [x, y] (capE js ρ1)) := qq
      refine qq.imp (fun s ρ' ⟨hs, q⟩ v σ' H' r' => ?_) fun _ _ h => h
      have r5 := Rep.leave hs r3 r'
      refine q v H' ?_
      obtain ⟨G, o1, o2, kk, g1, g2⟩ := r5
      obtain ⟨w1, os, own', ew, e1, rfl, g3⟩ := g1.unone
      cases ew
      cases g3 with
      | d a g4 => exact ⟨G, _, o2, kk, Sl.one e1 g4, g2⟩
  | [], _, _, qq, _ => exact qq.elim
  | [_], _, _, qq, _ => exact qq.elim
  | _ :: _ :: _ :: _, _, _, qq, _ => exact qq.elim
  | [_, _], [], hl, _, _ => simp at hl
  | [_, _], [_], hl, _, _ => simp at hl
  | [_, _], _ :: _ :: _ :: _, hl, _, _ => simp at hl
section
variable {c : Cfg} {f c' : Addr} {kn : Hp} {W : WX} {i nN : Nat} {js : List Nat} {b : M Fl} {mk : Addr → NF} {tA : TA} {fA : M (List D)}
theorem den_nc (hf : kn f = some (FnO f (mk c'))) (hc : kn (mk c').c = some (CodeO (mk c').c (mk c').qual)) (h : DenA (cF c f kn) W tA fA) : Den (cF c f kn) W (tCallN mk i js (fun _ _ => spN (cF c f kn) nN b) L2.E0 tA) (mNC i js nN b fA) := fun B ts vs ρ σ H Q r qq => by
  unfold mNC at qq
  split at qq
  · rename_i e
    obtain ⟨v, ev, r1⟩ := r.var e
    obtain ⟨G, O, hv⟩ := r1.one
    cases hv with
    | @exc x hx hd hk =>
      cases hx
      refine ⟨f, c', ev, O.sub _ _ (hk _ _ hf), ?_⟩
      rw [post_then] at qq
      refine h B _ _ ρ σ H _ r1 (qq.imp (fun ds ρ1 qq us H1 hl r2 => ?_) fun _ _ h => h.drop)
      have r3 := r2.dropN hl
      obtain ⟨G2, O2, hv2⟩ := r3.one
      have hk2 := hv2.excE.2
      · refine ⟨O2.sub _ _ (hk2 _ _ hf), O2.sub _ _ (hk2 _ _ hc), spN_of r2 hl ?_⟩
        cases hF : nFn js nN b ρ1 (ds.map .d) with
        | stuck => rw [hF] at qq; exact qq.elim
        | err e ρ' => rw [hF] at qq; exact qq.elim
        | ok s ρ' =>
          rw [hF] at qq
          have qq : Post (OkP (cF c f kn) B ts vs σ Q) (ErrP (cF c f kn) W B ts vs σ) (if bare s then .ok s ρ1 else .stuck) := qq
          split at qq
          · rename_i hs
            exact ⟨hs, fun v H' r' => qq v H' r'⟩
          · exact qq.elim
  · exact qq.elim
end
/-! ### more known of what stays -/
section
variable {c : Cfg} {f : Addr} {k1 k2 : Hp} {G H : Hp} {B : Base}
mutual
theorem Rp.reF (hk : ∀ a o, k2 a = some o → G a = some o) : ∀ {v : V} {d : D}, Rp (cF c f k1) G v d → Rp (cF c f k2) G v d
  | _, _, .non => .non
  | _, _, .bl b => .bl b
  | _, _, .int i => .int i
  | _, _, .str x => .str x
  | _, _, .ty n => .ty n
  | _, _, .tup h k n => .tup h (RpAll.reF hk k) n
  | _, _, .lst h k => .lst h (RpAll.reF hk k)
  | _, _, .scr h => .scr h
  | _, _, .ins h n k => .ins h n (RpAll.reF hk k)
  | _, _, .dct h k => .dct h (RpAll.reF hk k)
  | _, _, .dcx h o q1 q2 => .dcx h o (RpAll.reF hk q1) (RpAll.reF hk q2)
  | _, _, .xo h => .xo h
  | _, _, .rng h => .rng h
  | _, _, .fu h => .fu h
  | _, _, .exc h d _ => .exc h d hk
  | _, _, .fn h k => .fn h k
termination_by structural _ _ h => h
theorem RpAll.reF (hk : ∀ a o, k2 a = some o → G a = some o) : ∀ {vs : List V} {ds : List D}, RpAll (cF c f k1) G vs ds → RpAll (cF c f k2) G vs ds
  | _, _, .nil => .nil
  | _, _, .cons h k => .cons (Rp.reF hk h) (RpAll.reF hk k)
termination_by structural _ _ h => h
end
theorem Cell.reF (hk : ∀ a o, k2 a = some o → G a = some o) {a : Addr} {d : D} (h : Cell (cF c f k1) G H a d) : Cell (cF c f k2) G H a d := by
  cases d with
  | lst ds =>
    obtain ⟨vs, h, k⟩ := h
    exact ⟨vs, h, k.reF hk⟩
  | ins n ds =>
    obtain ⟨dx, fs, h, hn, k⟩ := h
    exact ⟨dx, fs, h, hn, k.reF hk⟩
  | dct ks ds =>
    obtain ⟨o, kv, us, h, d, q1, q2⟩ := h
    exact ⟨o, kv, us, h, d, q1.reF hk, q2.reF hk⟩
  | xo b o => exact h
  | tup ds =>
    obtain ⟨vs, o, h, d, k⟩ := h
    exact ⟨vs, o, h, d, k.reF hk⟩
  | _ => exact h.elim
theorem LsAll.reF (hk : ∀ a o, k2 a = some o → G a = some o) : ∀ {bs : List Addr} {dss : List (List D)}, LsAll (cF c f k1) G H bs dss → LsAll (cF c f k2) G H bs dss
  | _, _, .nil => .nil
  | _, _, .cons h k l => .cons h (k.reF hk) (LsAll.reF hk l)
theorem Sl.reF (hk : ∀ a o, k2 a = some o → G a = some o) : ∀ {es : En} {vs : List (Option V)} {own : Owns}, Sl (cF c f k1) B G H es vs own → Sl (cF c f k2) B G H es vs own
  | _, _, _, .nil => .nil
  | _, _, _, .skip k => .skip (Sl.reF hk k)
  | _, _, _, .d h k => .d (h.reF hk) (Sl.reF hk k)
  | _, _, _, .o h hb k => .o (h.reF hk) hb (Sl.reF hk k)
  | _, _, _, .q h k => by
    refine .q ?_ (Sl.reF hk k)
    rcases h with ⟨kvs, bs, rfl, h1, rfl, h3, h4⟩ | ⟨n, ds, p, dk, dv, dx, fs, b, o, kv, us, vs, rfl, rfl, rfl, h1, h2, h3, h4, h5, h6, h7, h8, h9⟩ | ⟨ks', o, kv, bs, rfl, rfl, h1, h2, h3, h4⟩
    · exact .inl ⟨kvs, bs, rfl, h1, rfl, h3, h4.reF hk⟩
    · exact .inr (.inl ⟨n, ds, p, dk, dv, dx, fs, b, o, kv, us, vs, rfl, rfl, rfl, h1, h2, h3, h4.reF hk, h5, h6, h7.reF hk, h8.reF hk, h9⟩)
    · exact .inr (.inr ⟨ks', o, kv, bs, rfl, rfl, h1, h2, h3.reF hk, h4.reF hk⟩)
end
/-- the second that waits is forgotten -/
theorem Rep.dropTop2 {c : Cfg} {B : Base} {s1 s2 : S} {v1 v2 : Option V} {ts : En} {vs : List (Option V)} {ρ : En} {σ : L2.St} {H : Hp} (r : Rep c B (some s1 :: some s2 :: ts) (v1 :: v2 :: vs) ρ σ H) : Rep c B (some s1 :: ts) (v1 :: vs) ρ σ H := by
  have r1 := Rep.swap r
  exact r1.drop
/-! ### handing it on -/
def mHand (i : Nat) (js : List Nat) (nN : Nat) (b : M Fl) (F : Fn → Fn) (fe : M S) : M S := fun ρ => (dv fe ρ).then fun d ρ1 => match ρ1[i]? with
  | some (some (.d .exc)) => (match F (nFn js nN b ρ1) [.d d, .d .exc] with
    | .ok s _ => if bare s then .ok s ρ1 else .stuck
    | _ => .stuck)
  | _ => .stuck
def tHand (c : Cfg) (mk : Addr → NF) (nN : Nat) (b : M Fl) (F : Fn → Fn) (i : Nat) (js : List Nat) (te : TE) : TE := fun σ H Q => te σ H fun v1 H1 => ∃ (kn : Hp) (f c' : Addr) (B : Base) (ts : En) (ws : List (Option V)) (d1 : D) (Fcl : Fn), σ[i]? = some (some (.ref f)) ∧ H1 f = some (FnO f (mk c')) ∧ H1 (mk c').c = some (CodeO (mk c').c (mk c').qual) ∧ kn f = some (FnO f (mk c')) ∧
  Rep (cF c f kn) B ts ws [some (.d d1), some (.d .exc)] [some v1, some (.ref f)] H1 ∧ CloOk (cF c f kn) (mk c').c (mk c').qual (fun vs H' Q' => H' f = some (FnO f (mk c')) ∧ spN (cF c f kn) nN b (js.map (slotAt σ)) vs H' Q' L2.E0) Fcl ∧
  Post (fun s ρ' => ∀ v σ' H', Rep (cF c f kn) B (some s :: ts) (some v :: ws) ρ' σ' H' → Q v H') (fun _ _ => False) (F Fcl [.d d1, .d .exc])
section
variable {c : Cfg} {f c' : Addr} {kn : Hp} {W : WX} {i nN : Nat} {js : List Nat} {b : M Fl} {mk : Addr → NF} {te : TE} {fe : M S} {F : Fn → Fn}
theorem den_hand (hf : kn f = some (FnO f (mk c'))) (hc : kn (mk c').c = some (CodeO (mk c').c (mk c').qual)) (h : Den (cF c f kn) W te fe) : Den (cF c f kn) W (tHand c mk nN b F i js te) (mHand i js nN b F fe) := fun B ts vs ρ σ H Q r qq => by
  unfold mHand at qq
  rw [post_then] at qq
  refine h.dv r (qq.imp1 fun d1 ρ1 qq v1 H1 r1 => ?_)
  split at qq
  · rename_i e
    obtain ⟨v, ev, r2⟩ := r1.var e
    have r2' := r2
    obtain ⟨G, o1, o2, k, h1, h2⟩ := r2
    cases h1 with
    | d hx1 h1 =>
    cases h1 with
    | d hd1 h1 =>
    cases hx1 with
    | @exc x hx hd hk =>
      cases hx
      have hG : ∀ a o, G a = some o → G a = some o := fun _ _ z => z
      have hxe : Rp (cF c f G) G (.ref f) .exc := .exc (x := ⟨f, none, []⟩) rfl (fun _ z => nomatch z) hG
      have kk : OkB (cF c f G) ⟨fun _ => none, B.pin⟩ G H1 (o1 ++ o2) := ⟨k.sub, k.notbl, k.nd, k.out, k.tabs, k.pint, k.pin⟩
      have wt : Sl (cF c f G) ⟨fun _ => none, B.pin⟩ G H1 (erE ts ++ erE ρ1) (vs ++ σ) (o1 ++ o2) := ((h1.er (B' := ⟨fun _ => none, B.pin⟩)).app h2.er).reF hG
      refine ⟨G, f, c', ⟨fun _ => none, B.pin⟩, some (.d .exc) :: (erE ts ++ erE ρ1), some (.ref f) :: (vs ++ σ), d1, nFn js nN b ρ1, ev, k.sub _ _ (hk _ _ hf), k.sub _ _ (hk _ _ hc), hk _ _ hf, ?_, ?_, ?_⟩
      · exact ⟨G, o1 ++ o2, [], by rw [List.append_nil]; exact kk, .d hxe wt, .d (hd1.reF hG) (.d hxe .nil)⟩
      · intro B2 T v V' ds us H3 Q3 hl rr pp
        obtain ⟨G2, p1, p2, k2, g1, g2⟩ := rr
        have g1' := g1
        cases g1' with
        | d hx2 _ =>
        cases hx2 with
        | exc hxe _ hk2 =>
        have hlen : ds.length = 2 := by
          match ds, pp with
          | [_, _], _ => rfl
          | [], pp => exact pp.elim
          | [_], pp => exact pp.elim
          | _ :: _ :: _ :: _, pp => exact pp.elim
        have cap0 : Sl (cF c f kn) B2 G H3 (capE js ρ1) (js.map (slotAt σ)) [] := (h2.caps (B' := B2) js).mono (fun _ _ z => z) fun p hp => absurd hp (by simp)
        have cap1 : Sl (cF c f G) B2 G2 H3 (capE js ρ1) (js.map (slotAt σ)) [] := (cap0.reF hG).mono hk2 fun _ _ => rfl
        refine ⟨by rw [hl, hlen], k2.sub _ _ (hk2 _ _ (hk _ _ hc)), k2.sub _ _ (hk2 _ _ (hk _ _ hf)), B2, _, _, ds, capE js ρ1, ⟨G2, p1, p2 ++ [], by rw [List.append_nil]; exact k2, g1, g2.app cap1⟩, hl, by rw [capE_len, List.length_map], by rw [hl, hlen], ?_⟩
        match ds, pp with
        | [x, y], pp => exact pp
        | [], pp => exact pp.elim
        | [_], pp => exact pp.elim
        | _ :: _ :: _ :: _, pp => exact pp.elim
      · cases hF : F (nFn js nN b ρ1) [.d d1, .d .exc] with
        | stuck => rw [hF] at qq; exact qq.elim
        | err e ρ' => rw [hF] at qq; exact qq.elim
        | ok s ρ' =>
          rw [hF] at qq
          have qq : Post (OkP (cF c f kn) B ts vs σ Q) (ErrP (cF c f kn) W B ts vs σ) (if bare s then .ok s ρ1 else .stuck) := qq
          split at qq
          · rename_i hs
            intro w σ' H' r'
            refine qq w H' ?_
            obtain ⟨G3, p1, p2, k3, g1, g2⟩ := r'.noSlots
            have g1s := g1
            obtain ⟨w1, os, own', ew, e1, rfl, g3⟩ := g1s.unone
            have hk3 : ∀ a o, G a = some o → G3 a = some o := by
              cases g3 with
              | d hx3 _ => exact hx3.excE.2
            have hkn : ∀ a o, kn a = some o → G3 a = some o := fun a o z => hk3 _ _ (hk _ _ z)
            have r4 : Rep (cF c f kn) ⟨fun _ => none, B.pin⟩ (some s :: some (.d .exc) :: (erE ts ++ erE ρ1)) (some w :: some (.ref f) :: (vs ++ σ)) [] [] H' := ⟨G3, _, p2, ⟨k3.sub, k3.notbl, k3.nd, k3.out, k3.tabs, k3.pint, k3.pin⟩, g1.reF hkn, g2.reF hkn⟩
            have r5 := Rep.leave hs (Rep.dropTop2 r2') r4
            obtain ⟨G, o1, o2, kk, g1, g2⟩ := r5
            obtain ⟨w1, os, own', ew, e1, rfl, g3⟩ := g1.unone
            cases ew
            cases g3 with
            | d a g4 => exact ⟨G, _, o2, kk, Sl.one e1 g4, g2⟩
          · exact qq.elim
  · exact qq.elim
end
end Fx
/-! a def within a def: the rules -/
namespace Fx
open PySem PySem.Spec PyProof.Rows L2
open C8 (Cal Mak pe_c pe_mk)
open LamX (Tabs TabS TabB ExtN CodeO codeO_ne)
open NdefX (NF FnO NOk NScope CellsAt Caps slotAt startF ncx envF tCallN tNdef TabsN TabN)
section
variable {X : Cx} {pins : List (Addr × Obj)} {σ : L2.St} {H : Hp} {s : Shared}
theorem pe_actN {CXg : CXT} {Eg : XK} {Ng : List Str} {qg : Str} {sg : Scope} {g f : Addr} {cdg : Value} {F : NF} {ps fr : List Str} {ws : List (Option V)} {sp : List (Option V) → Sp} {k i : Nat} {a : Str} {e1 : Expr} {es : List Expr} {tA : TA} {p1 p2 : Pos}
    (I : Inv X pins σ H s) (C : CellsAt F.cl fr ws s.heap H) (Fn : NOk X.prog X.w X.K X.mg X.base L2.CX0 k f F ps fr sp) (hr : Room k (X.A.deeper (envOfC qg sg s.heap.objs.size g cdg)))
    (hN : Ng[i]? = some a) (hv : Vis sg a) (hd : (a == ("__debug__" : Str)) = false) (hcd : (a == ("__classdict__" : Str)) = false)
    (ha : PA (cxOf CXg X.prog X.w X.K X.mg X.base Ng qg sg g cdg X.A X.stack s H Eg).nox (e1 :: es) tA)
    (he : starEach (e1 :: es) (envOfC qg sg s.heap.objs.size g cdg) = (false, eval e1 (envOfC qg sg s.heap.objs.size g cdg)) :: starEach es (envOfC qg sg s.heap.objs.size g cdg)) (hpl : (backTo p2 (starEach es (envOfC qg sg s.heap.objs.size g cdg))).any (·.1) = false) :
    PE (cxOf CXg X.prog X.w X.K X.mg X.base Ng qg sg g cdg X.A X.stack s H Eg).nox (.Call (.Name a p1) (e1 :: es) [] p2) (tClG (fun H' => H' f = some (FnO f F)) i f F.c F.qual (fun vs H' Q' => H' f = some (FnO f F) ∧ sp ws vs H' Q' L2.E0) tA) := by
  refine ⟨fun pinsZ sZ σZ HZ Q IZ h => ?_⟩
  obtain ⟨hs, hfz, ht⟩ := h
  refine wpAny_Call_Name_kw (thn ((pe_var (pos := p1) (i := i) hN hv hd hcd).run pinsZ sZ σZ HZ (fun v H1 => v = .ref f ∧ H1 = HZ) IZ ⟨.ref f, hs, rfl, rfl⟩) fun u s1 ⟨v, H1, I1, r1, q1⟩ => ?_)
  obtain ⟨ev, eH⟩ := q1
  subst ev
  rw [eH] at I1
  obtain rfl : u = Value.ref f := r1
  refine PySem.W.callWith_F (NdefX.fnAt_of I1 hfz) (thn (ha.run p2 pinsZ s1 σZ _ _ I1 ht) ?_) he hpl
  rintro us s2 ⟨vs, H2, I2, r, hlen, hc2, hf2, hq⟩
  refine ⟨NdefX.fnAt_of I2 hf2, ?_⟩
  have un : Un (frs X.stack) [] H H2 s.heap s2.heap := I2.base
  have cellK : ∀ {c : Addr} {v : Option Value}, H c = none → s.heap.IsCell c v → s2.heap.IsCell c v := fun {c v} n ⟨o, ho, hd⟩ => by
    obtain ⟨sl, q⟩ := un.any ho n (by simp)
    exact ⟨_, q, hd⟩
  have C2 : CellsAt F.cl fr ws s2.heap H2 := by
    refine ⟨C.len, fun y c e => ?_, C.inj, fun i y e => ?_⟩
    · obtain ⟨n, v, z⟩ := C.all y c e
      refine ⟨?_, v, cellK n z⟩
      obtain ⟨o, ho, _⟩ := z
      exact un.free c o ho n (by simp)
    · obtain ⟨c, hc, hv⟩ := C.has i y e
      refine ⟨c, hc, fun v ev => ?_⟩
      obtain ⟨u, r, z⟩ := hv v ev
      exact ⟨u, r, cellK (C.all y c hc).1 z⟩
  refine wpAny_call (codeAny_mono (Fn.run _ _ s2 H2 us vs ws Q L2.E0 hr I2.env0 hf2 hc2 C2 r hq) fun r s' hq => ?_)
  cases r with
  | error e => exact (show False from hq).elim
  | ok fl =>
    cases fl with
    | ret u => exact I2.after hq
    | next => exact False.elim hq
    | brk => exact False.elim hq
    | cont => exact False.elim hq
end
section
variable {X : Cx} {c : Cfg} {W : WX} {F : Fn → Fn} {mk : Addr → NF} {cl : List (Str × Addr)} {fr : List Str} {b1 b2 : Str} {nN i : Nat} {js : List Nat} {b : M Fl} {x a : Str}
theorem pe_hand {k kk : Nat} {e1 : Expr} {te : TE} {p p1 pos : Pos} (C : CalG X.prog X.w X.K X.mg X.base k x c F) (he : PE X e1 te) (hg : Gl X x) (hr : Room (kk + 1) X.A) (hk : k ≤ kk)
    (Fn : ∀ (f c' fq : Addr) (kq : Hp), NOk X.prog X.w X.K X.mg X.base L2.CX0 kk f (mk c') [b1, b2] fr (spN (cF c fq kq) nN b)) (hcl : ∀ c', (mk c').cl = cl) (cp : X.Ok → Caps X cl fr js) (hN : X.N[i]? = some a) (hv : Vis X.env.scope a)
    (hd : (a == ("__debug__" : Str)) = false) (hcd : (a == ("__classdict__" : Str)) = false) (hdb : (x == ("__debug__" : Str)) = false) (hs1 : starEach [e1, .Name a p1] X.env = (false, eval e1 X.env) :: starEach [.Name a p1] X.env) :
    PE X (.Call (.Name x p) [e1, .Name a p1] [] pos) (tHand c mk nN b F i js te) := by
  obtain ⟨g, pg, bg, sg, dV, kV, doc, pm, cdv, ct, oc, an, od, osl, Ng, a1, a2, bF, h1, h2, h3, h4, h5, h6, h7, h8, h9, h10, h11, h12⟩ := C.ex
  refine ⟨fun pins s σ H Q I h => ?_⟩
  refine wpAny_Call_Name_kw (ld_glob I hg h1 ?_ hdb)
  refine PySem.W.callWith_K (h₀ := X.base) I.ok.mod.kin h2 ?_ hs1 (by rfl)
  rw [hs1]
  show wpAny _ _ (spliced ((false, eval e1 X.env) :: (false, eval (.Name a p1) X.env) :: [])) _ _ s
  refine Calls.spliced_cons (thn (he.run pins s σ H _ I h) fun u1 s1 ⟨v1, H1, I1, r1, q1⟩ => ?_)
  obtain ⟨kn, f, c', B, ts, ws, d1, Fcl, hs, hf, hc, hkf, rr, hcl2, pp⟩ := q1
  refine Calls.spliced_cons (thn ((pe_var (pos := p1) hN hv hd hcd).run pins s1 σ H1 (fun v H2 => v = .ref f ∧ H2 = H1) I1 ⟨.ref f, hs, rfl, rfl⟩) fun u2 s2 ⟨v2, H2, I2, r2, e2, e3⟩ => ?_)
  subst e2 e3
  obtain rfl : u2 = Value.ref f := r2
  refine Calls.spliced_nil ⟨I2.kIn, ?_⟩
  have C1 : CellsAt (mk c').cl fr (js.map (slotAt σ)) s2.heap H2 := by
    rw [hcl c']
    exact NdefX.cells_of I2 (cp I2.ok)
  have rc : codeAny (model X.prog X.w) X.A (.call (.ref g) ⟨[u1, .ref f], []⟩) (CR C8.CX0 X.stack X.prog X.w H2 s2 Q C8.E0) s2 := by
    refine LamX.run_ofS (k := kk) (N := Ng) (ps := [a1, a2]) (us := [u1, .ref f]) (vs := [v1, .ref f]) h3 h4 h6 hr I2.env0 (h5 s2 [u1, .ref f] I2.kIn rfl) (.cons r1 (.cons rfl .nil)) rfl fun hr' => ?_
    have act : ActG (cxOf C8.CX0 X.prog X.w X.K X.mg X.base Ng x sg g cdv X.A X.stack s2 H2 C8.E0).nox a2 1 f (mk c').c (mk c').qual (fun H' => H' f = some (FnO f (mk c'))) (fun vs H' Q' => H' f = some (FnO f (mk c')) ∧ spN (cF c f kn) nN b (js.map (slotAt σ)) vs H' Q' L2.E0) := fun e1 es tA p1 p2 ha hse hpl =>
      pe_actN I2 C1 (Fn f c' f kn) hr' h7 h8 h9 h10 ha hse hpl
    obtain ⟨t', ht', hd'⟩ := h12 X.A X.stack s2 H2 (hr'.mono hk) f (mk c').c kn (mk c').qual _ _ Fcl (fun H' z => z _ _ hkf) act hcl2
    refine ⟨t', ht'.nox, ?_⟩
    rw [h11 Fcl] at pp
    unfold runF at pp
    rw [if_pos (by rfl)] at pp
    have r2 := rr.slots (Ng.length - 2)
    refine hd' B ts ws _ _ H2 _ r2 ?_
    cases hb : bF Fcl ([S.d d1, S.d .exc].map some ++ List.replicate (Ng.length - 2) none) with
    | stuck => rw [hb] at pp; exact pp.elim
    | err e ρ => rw [hb] at pp; exact pp.elim
    | ok fl ρ =>
      rw [hb] at pp
      have hb' : bF Fcl ([some (S.d d1), some (S.d .exc)] ++ List.replicate (Ng.length - 2) none) = .ok fl ρ := hb
      rw [hb']
      cases fl with
      | rt s => exact fun v σ' H' r' => pp v σ' H' r'
      | nx => exact fun σ' H' r' => pp .non σ' H' (Rep.repl (ds := []) (us := []) r' rfl fun G _ => .non)
      | bk => exact pp.elim
      | ct => exact pp.elim
  refine wpAny_call (codeAny_mono rc fun r s3 hq => ?_)
  cases r with
  | error e => exact (show False from hq).elim
  | ok fl =>
    cases fl with
    | ret u => exact I2.after hq
    | next => exact False.elim hq
    | brk => exact False.elim hq
    | cont => exact False.elim hq
/-- what is told of an inner def -/
structure NdOk (X : Cx) (c : Cfg) (kk : Nat) (mk : Addr → NF) (b1 b2 : Str) (fr : List Str) (js : List Nat) (nN : Nat) (b : M Fl) : Prop where
  fn : ∀ (f c' fq : Addr) (kq : Hp), NOk X.prog X.w X.K X.mg X.base L2.CX0 kk f (mk c') [b1, b2] fr (spN (cF c fq kq) nN b)
  cl : ∀ c' c'', (mk c').cl = (mk c'').cl
  cp : X.Ok → ∀ c', Caps X (mk c').cl fr js
variable {f c' : Addr} {kn : Hp} {kk : Nat}
theorem q_nc {j : Nat} {e : Expr} {es : List Expr} {tA : TA} {fA : M (List D)} {p pos : Pos} (O : NdOk X c kk mk b1 b2 fr js nN b) (hf : kn f = some (FnO f (mk c'))) (hc : kn (mk c').c = some (CodeO (mk c').c (mk c').qual)) (hr : Room j X.A) (hk : kk ≤ j) (ha : QA X (cF c f kn) W (e :: es) tA fA)
    (hN : X.N[i]? = some a := by rfl) (hv : Vis X.env.scope a := by first | exact Or.inl rfl | exact Or.inr (Or.inl rfl) | exact Or.inr (Or.inr rfl)) (hd : (a == ("__debug__" : Str)) = false := by decide) (hcd : (a == ("__classdict__" : Str)) = false := by decide)
    (he : starEach (e :: es) X.env = (false, eval e X.env) :: starEach es X.env := by rfl) (hpl : (backTo pos (starEach es X.env)).any (·.1) = false := by rfl) :
    QE X (cF c f kn) W (.Call (.Name a p) (e :: es) [] pos) (tCallN mk i js (fun _ _ => spN (cF c f kn) nN b) L2.E0 tA) (mNC i js nN b fA) :=
  ⟨NdefX.pe_calln (CX := L2.CX0) (fun f' c'' => O.fn f' c'' f kn) (cl := (mk c').cl) (fun c'' => O.cl c'' c') (fun ok => O.cp ok c') hr hk (fun _ _ _ _ _ _ _ h => (show False from h).elim) hN hv ha.pe hd hcd he hpl, den_nc hf hc ha.dn⟩
theorem q_hand {k : Nat} {e1 : Expr} {te : TE} {fe : M S} {p p1 pos : Pos} (C : CalG X.prog X.w c.K X.mg X.base k x c F) (O : NdOk X c kk mk b1 b2 fr js nN b) (hf : kn f = some (FnO f (mk c'))) (hc : kn (mk c').c = some (CodeO (mk c').c (mk c').qual)) (hr : Room (kk + 1) X.A) (hk : k ≤ kk) (he : QE X (cF c f kn) W e1 te fe)
    (hg : Gl X x := by rfl) (hK : X.K = c.K := by rfl) (hN : X.N[i]? = some a := by rfl) (hv : Vis X.env.scope a := by first | exact Or.inl rfl | exact Or.inr (Or.inl rfl) | exact Or.inr (Or.inr rfl)) (hd : (a == ("__debug__" : Str)) = false := by decide) (hcd : (a == ("__classdict__" : Str)) = false := by decide) (hdb : (x == ("__debug__" : Str)) = false := by decide)
    (hs1 : starEach [e1, .Name a p1] X.env = (false, eval e1 X.env) :: starEach [.Name a p1] X.env := by rfl) :
    QE X (cF c f kn) W (.Call (.Name x p) [e1, .Name a p1] [] pos) (tHand c mk nN b F i js te) (mHand i js nN b F fe) :=
  ⟨pe_hand (hK ▸ C) he.pe hg hr hk O.fn (cl := (mk c').cl) (fun c'' => O.cl c'' c') (fun ok => O.cp ok c') hN hv hd hcd hdb hs1, den_hand hf hc he.dn⟩
end
/-! ### the statement -/
theorem Rep.forgetS {c : Cfg} {B : Base} {ts ρ : En} {vs : List (Option V)} {σ : L2.St} {H : Hp} {i : Nat} (r : Rep c B ts vs ρ σ H) : Rep c B ts vs (ρ.set i none) σ H := by
  have h := r.forget (i := i) (σ[i]?.getD none)
  have e : σ.set i (σ[i]?.getD none) = σ := by
    refine List.ext_getElem? fun j => ?_
    by_cases hj : i = j
    · subst hj
      by_cases hl : i < σ.length
      · rw [List.getElem?_set_self hl, List.getElem?_eq_getElem hl]
        rfl
      · rw [List.getElem?_eq_none (by rw [List.length_set]; omega), List.getElem?_eq_none (by omega)]
    · rw [List.getElem?_set_ne hj]
  rwa [e] at h
def mNdef (i : Nat) (Fr : M Fl) : M Fl := fun ρ => match Fr (ρ.set i (some (.d .exc))) with
  | .ok fl ρ' => if flNoX fl && (ρ'.set i none).all noXS then .ok fl (ρ'.set i none) else .stuck
  | _ => .stuck
def tabN (T : List (Addr × Str)) : List NdefX.NTab := T.map fun p => (p.1, fun _ _ => p.2)
theorem tabsN_of {T : List (Addr × Str)} {H : Hp} (h : Tabs T H) : TabsN (tabN T) H := fun p hp => by
  obtain ⟨q, hq, rfl⟩ := List.mem_map.mp hp
  exact TabN.of (h q hq)
theorem tabsN_to {T : List (Addr × Str)} {H : Hp} (h : TabsN (tabN T) H) : Tabs T H := fun p hp => TabN.to (h (p.1, fun _ _ => p.2) (List.mem_map.mpr ⟨p, hp, rfl⟩))
section
variable {X : Cx} {c : Cfg} {W : WX} {mk : Addr → NF} {i : Nat} {rest : List Stmt} {Fr : M Fl} {u : Addr → Addr → Hp → TS}
theorem den_ndef (h0 : c.exc = none) (hrest : ∀ (f c' : Addr) (kn : Hp), kn f = some (FnO f (mk c')) → kn (mk c').c = some (CodeO (mk c').c (mk c').qual) → DenS (cF c f kn) W (u f c' kn) Fr) (hmk : ∀ c', (mk c').c = c') :
    DenS c W (tSeq (tNdef (tabN c.T) i mk) fun D σ H => ∃ (f c' : Addr) (kn : Hp), kn f = some (FnO f (mk c')) ∧ kn (mk c').c = some (CodeO (mk c').c (mk c').qual) ∧ u f c' kn D σ H) (mNdef i Fr) := fun B ts vs ρ σ H D r q => by
  have tb : Tabs c.T H := by
    obtain ⟨G, o1, o2, k, h1, h2⟩ := r
    exact k.tabs
  refine ⟨tabsN_of tb, fun f c' H1 x t1 nf hf hc => ?_⟩
  have r0 := r.forget (i := i) (some (.ref f))
  obtain ⟨G, o1, o2, kk, h1, h2⟩ := r0
  have hcell : ∀ p ∈ o1 ++ o2, ∃ u, H p = some u ∧ isCell u := fun p hp => (List.mem_append.mp hp).elim (h1.cellAt p) (h2.cellAt p)
  have hH1 : ∀ p ∈ o1 ++ o2, H1 p = H p ∧ p ≠ f ∧ p ≠ c' := fun p hp => by
    obtain ⟨u, e1, e2⟩ := hcell p hp
    have e3 := x _ _ e1 (isCell_tbl e2)
    refine ⟨e3.trans e1.symm, fun z => ?_, fun z => ?_⟩
    · rw [z, nf] at e1; cases e1
    · rw [z, hc] at e3
      exact isCell_code e2 (Option.some.inj e3).symm
  have gs : ∀ a o, G a = some o → H1 a = some o := fun a o e => x _ _ (kk.sub a o e) (isTbl_false (kk.notbl a o e))
  have sG : ∀ a o, G a = some o → upd (upd G c' (CodeO c' (mk c').qual)) f (FnO f (mk c')) a = some o := fun a o e => by
    have e1 := gs a o e
    by_cases af : a = f
    · rw [af, upd_same]
      rw [af, hf] at e1
      exact e1
    · rw [upd_ne af]
      by_cases ac : a = c'
      · rw [ac, upd_same]
        rw [ac, hc] at e1
        exact e1
      · rw [upd_ne ac]
        exact e
  have kf : upd (upd G c' (CodeO c' (mk c').qual)) f (FnO f (mk c')) f = some (FnO f (mk c')) := upd_same
  have kc : upd (upd G c' (CodeO c' (mk c').qual)) f (FnO f (mk c')) (mk c').c = some (CodeO (mk c').c (mk c').qual) := by
    rw [hmk]
    by_cases cf : c' = f
    · have e := hc
      rw [cf, ← cf] at e
      have e2 : H1 c' = some (FnO f (mk c')) := by rw [cf]; exact cf ▸ hf
      rw [hc] at e2
      rw [show upd (upd G c' (CodeO c' (mk c').qual)) f (FnO f (mk c')) c' = some (FnO f (mk c')) from by
        have : upd (upd G c' (CodeO c' (mk c').qual)) f (FnO f (mk c')) f = some (FnO f (mk c')) := upd_same
        exact (congrArg (upd (upd G c' (CodeO c' (mk c').qual)) f (FnO f (mk c'))) cf).trans this]
      exact e2.symm
    · rw [upd_ne cf, upd_same]
  generalize hkn : upd (upd G c' (CodeO c' (mk c').qual)) f (FnO f (mk c')) = kn at sG kf kc
  have hsub : ∀ a o, kn a = some o → H1 a = some o ∧ isTbl o = false := fun a o e => by
    rw [← hkn] at e
    by_cases af : a = f
    · rw [af, upd_same] at e
      rw [af]
      exact ⟨hf.trans e, by rw [← Option.some.inj e]; rfl⟩
    · rw [upd_ne af] at e
      by_cases ac : a = c'
      · rw [ac, upd_same] at e
        rw [ac]
        exact ⟨hc.trans e, by rw [← Option.some.inj e]; rfl⟩
      · rw [upd_ne ac] at e
        exact ⟨gs a o e, kk.notbl a o e⟩
  have ok : OkB (cF c f kn) B kn H1 (o1 ++ o2) := by
    refine ⟨fun a o e => (hsub a o e).1, fun a o e => (hsub a o e).2, kk.nd, fun p hp => ⟨?_, by rw [(hH1 p hp).1]; exact (kk.out p hp).2⟩, tabsN_to t1, kk.pint, fun a o e => ⟨x _ _ (kk.pin a o e).1 (isTbl_false (kk.pint a o e)), (kk.pin a o e).2⟩⟩
    rw [← hkn, upd_ne (hH1 p hp).2.1, upd_ne (hH1 p hp).2.2]
    exact (kk.out p hp).1
  have g1 := h1.mono sG fun p hp => (hH1 p (List.mem_append_left _ hp)).1
  have g2 := h2.mono sG fun p hp => (hH1 p (List.mem_append_right _ hp)).1
  obtain ⟨ex, w1⟩ := g1.onF (fC := f) (kC := kn) h0
  have w2 := (g2.onF (fC := f) (kC := kn) h0).2
  have rr : Rep (cF c f kn) B (some (.d .exc) :: ts) (some (.ref f) :: vs) (ρ.set i none) (σ.set i (some (.ref f))) H1 := ⟨kn, o1, o2, ok, .d (.exc (x := ⟨f, none, []⟩) rfl (fun _ z => nomatch z) fun _ _ z => z) w1, w2⟩
  have rs := rr.set (i := i)
  rw [List.set_set, List.set_set] at rs
  refine ⟨f, c', kn, kf, kc, hrest f c' kn kf kc B ts vs _ _ H1 D rs ?_⟩
  unfold mNdef at q
  cases hF : Fr (ρ.set i (some (.d .exc))) with
  | stuck => rw [hF] at q; exact q.elim
  | err e ρ' => rw [hF] at q; exact q.elim
  | ok fl ρ' =>
    rw [hF] at q
    have q : Post (EndP c B ts vs D) (ErrS c W B ts vs) (if flNoX fl && (ρ'.set i none).all noXS then .ok fl (ρ'.set i none) else .stuck) := q
    by_cases hn : (flNoX fl && (ρ'.set i none).all noXS) = true
    case neg => rw [if_neg hn] at q; exact q.elim
    rw [if_pos hn] at q
    rw [Bool.and_eq_true] at hn
    show EndP (cF c f kn) B ts vs D fl ρ'
    cases fl with
    | nx => exact fun σ3 H3 r3 => q _ _ ((r3.forgetS (i := i)).letGoF ex hn.2)
    | bk => exact fun σ3 H3 r3 => q _ _ ((r3.forgetS (i := i)).letGoF ex hn.2)
    | ct => exact fun σ3 H3 r3 => q _ _ ((r3.forgetS (i := i)).letGoF ex hn.2)
    | rt s2 => exact fun v σ3 H3 r3 => q v _ _ ((r3.forget (i := i) none).letGoF (by rw [List.all_cons, Bool.and_eq_true]; exact ⟨hn.1, ex⟩) hn.2)
/-- def name(a, b): .. and what follows -/
theorem ss_ndef {st : Stmt} {name b1 b2 : Str} {cc Pt : Addr} {pos : Pos} {kk nN : Nat} {js : List Nat} {fr : List Str} {b : M Fl} (i : Nat) (hnd : X.N.Nodup) (hst : st = .FunctionDef name (C8.fnArgs st) (C8.fnBody st) [] none [] (C8.fnScope st) none name pos) (h0 : c.exc = none) (TB : TabB X.base X.mg cc Pt) (hmT : (Pt, X.env.qual ++ name) ∈ c.T) (hu : ∀ p ∈ c.T, p.1 = Pt → p.2 = X.env.qual ++ name)
    (hb : NdefX.ndefB X.env.scope (C8.fnScope st) fr = true) (O : NdOk X c kk (NF.of st name (X.env.qual ++ name) (cloFrom X.env.cells (C8.fnScope st).names [])) b1 b2 fr js nN b)
    (hrest : ∀ (f c' : Addr) (kn : Hp), kn f = some (FnO f (NF.of st name (X.env.qual ++ name) (cloFrom X.env.cells (C8.fnScope st).names []) c')) → kn c' = some (CodeO c' (X.env.qual ++ name)) → QSs X (cF c f kn) W rest (u f c' kn) Fr)
    (hcode : X.env.code = .ref cc := by rfl) (hd0 : (C8.fnArgs st).defaults = [] := by rfl) (hk0 : (C8.fnArgs st).kw_defaults = [] := by rfl) (ha : annTrees (C8.fnArgs st) none X.env = [] := by rfl)
    (hi : X.N[i]? = some name := by rfl) (hx : Loc X.env.scope name := by first | exact Or.inl rfl | exact Or.inr rfl) (hl : X.env.scope.names.lookup name = some .local := by rfl) :
    QSs X c W (st :: rest) (tSeq (tNdef (tabN c.T) i (NF.of st name (X.env.qual ++ name) (cloFrom X.env.cells (C8.fnScope st).names []))) fun D σ H => ∃ (f c' : Addr) (kn : Hp), kn f = some (FnO f (NF.of st name (X.env.qual ++ name) (cloFrom X.env.cells (C8.fnScope st).names []) c')) ∧ kn c' = some (CodeO c' (X.env.qual ++ name)) ∧ u f c' kn D σ H) (mNdef i Fr) := by
  refine ⟨pss_cons (NdefX.ps_ndefS hst TB hcode (nm := fun _ _ => X.env.qual ++ name) (List.mem_map.mpr ⟨_, hmT, rfl⟩) rfl (fun p hp e => ?_) (NdefX.ndef_free hb) hd0 hk0 ha hnd hi hx (.inr hl)) ⟨fun pins s σ H D I h => ?_⟩, den_ndef h0 (fun f c' kn h1 h2 => (hrest f c' kn h1 h2).dn) fun _ => rfl⟩
  · obtain ⟨p0, hp0, rfl⟩ := List.mem_map.mp hp
    funext _ _
    exact hu p0 hp0 e
  · obtain ⟨f, c', kn, h1, h2, h⟩ := h
    exact (hrest f c' kn h1 h2).pe.run pins s σ H D I h
/-- .. by the inner def's body -/
theorem ndOk {st : Stmt} {name b1 b2 : Str} {kk : Nat} {js : List Nat} {N fr : List Str} {b : M Fl} (Sc : NScope N [b1, b2] fr (C8.fnScope st)) (hb : NdefX.ndefB X.env.scope (C8.fnScope st) fr = true) (hjs : js.map (fun j => X.N[j]?) = fr.map some)
    (hbind : ∀ (c' : Addr) (doc pm ctv : Value) (us : List Value), us.length = 2 → bindArgs ((NF.of st name (X.env.qual ++ name) (cloFrom X.env.cells (C8.fnScope st).names []) c').fd doc pm ctv) ⟨us, []⟩ = pure ([b1, b2].zip us))
    (hbody : ∀ (f c' fq : Addr) (kq : Hp) (A : Around) (outer : List Env) (s : Shared) (H : Hp) (E : XK), Room kk (A.deeper (envF (NF.of st name (X.env.qual ++ name) (cloFrom X.env.cells (C8.fnScope st).names []) c') f s.heap.objs.size)) →
      ∃ t, PSs (ncx L2.CX0 X.prog X.w X.K X.mg X.base N (NF.of st name (X.env.qual ++ name) (cloFrom X.env.cells (C8.fnScope st).names []) c') f A outer s H E) (C8.fnBody st) t ∧ DenS (cF c fq kq) W0 t b) :
    NdOk X c (kk + 1) (NF.of st name (X.env.qual ++ name) (cloFrom X.env.cells (C8.fnScope st).names [])) b1 b2 fr js N.length b :=
  ⟨fun f c' fq kq => nok_den Sc (hbind c') fun A outer s H E hr => hbody f c' fq kq A outer s H E hr, fun _ _ => rfl, fun ok c' => Caps.made ok (NdefX.ndef_free hb) (NdefX.ndef_fr hb) hjs⟩
end
end Fx
/-! a def within a def: the rule as it is printed -/
namespace Fx
open PySem PySem.Spec PyProof.Rows L2
open LamX (Tabs TabS TabB ExtN CodeO codeO_ne)
open NdefX (NF FnO NOk NScope CellsAt Caps slotAt startF ncx envF tCallN tNdef TabsN TabN)
theorem ss_ndef2 {X : Cx} {c : Cfg} {W : WX} {rest : List Stmt} {Fr : M Fl} {u : Addr → Addr → Hp → TS} {st : Stmt} {name b1 b2 : Str} {cc Pt : Addr} {pos : Pos} {kk nN : Nat} {js : List Nat} {fr : List Str} {b : M Fl} (i : Nat) (hnd : X.N.Nodup) (hst : st = .FunctionDef name (C8.fnArgs st) (C8.fnBody st) [] none [] (C8.fnScope st) none name pos) (h0 : c.exc = none) (TB : TabB X.base X.mg cc Pt) (hmT : (Pt, X.env.qual ++ name) ∈ c.T) (hu : ∀ p ∈ c.T, p.1 = Pt → p.2 = X.env.qual ++ name)
    (hb : NdefX.ndefB X.env.scope (C8.fnScope st) fr = true) (O : NdOk X c kk (NF.of st name (X.env.qual ++ name) (cloFrom X.env.cells (C8.fnScope st).names [])) b1 b2 fr js nN b)
    (hrest : ∀ (f c' : Addr) (kn : Hp), NdOk X c kk (NF.of st name (X.env.qual ++ name) (cloFrom X.env.cells (C8.fnScope st).names [])) b1 b2 fr js nN b → kn f = some (FnO f (NF.of st name (X.env.qual ++ name) (cloFrom X.env.cells (C8.fnScope st).names []) c')) → kn (NF.of st name (X.env.qual ++ name) (cloFrom X.env.cells (C8.fnScope st).names []) c').c = some (CodeO (NF.of st name (X.env.qual ++ name) (cloFrom X.env.cells (C8.fnScope st).names []) c').c (NF.of st name (X.env.qual ++ name) (cloFrom X.env.cells (C8.fnScope st).names []) c').qual) → QSs X (cF c f kn) W rest (u f c' kn) Fr)
    (hcode : X.env.code = .ref cc := by rfl) (hd0 : (C8.fnArgs st).defaults = [] := by rfl) (hk0 : (C8.fnArgs st).kw_defaults = [] := by rfl) (ha : annTrees (C8.fnArgs st) none X.env = [] := by rfl)
    (hi : X.N[i]? = some name := by rfl) (hx : Loc X.env.scope name := by first | exact Or.inl rfl | exact Or.inr rfl) (hl : X.env.scope.names.lookup name = some .local := by rfl) :
    QSs X c W (st :: rest) (tSeq (tNdef (tabN c.T) i (NF.of st name (X.env.qual ++ name) (cloFrom X.env.cells (C8.fnScope st).names []))) fun D σ H => ∃ (f c' : Addr) (kn : Hp), kn f = some (FnO f (NF.of st name (X.env.qual ++ name) (cloFrom X.env.cells (C8.fnScope st).names []) c')) ∧ kn c' = some (CodeO c' (X.env.qual ++ name)) ∧ u f c' kn D σ H) (mNdef i Fr) :=
  ss_ndef i hnd hst h0 TB hmT hu hb O (fun f c' kn h1 h2 => hrest f c' kn O h1 h2) hcode hd0 hk0 ha hi hx hl
end Fx
/-! for x in zip(t, u), x a name, t and u tuples -/
namespace Fx
open PySem PySem.Spec PyProof.Rows L2 RZ
section
variable {prog : Program} {w : World} {A : Around} {E : Value → Shared → Prop} {s : Shared} {z TI TO i1 i2 l1 l2 : Addr} {k1 k2 : Nat} {xs ys : Array Value} {x y v : Value} {f : Bool}
theorem next_turn {Q : Option Value → Shared → Prop} (D : ZipApart z TI TO i1 i2 l1 l2) (g : ZAt s.heap z TI TO v f) (hv : Old v) (t1 : IsPair s.heap TI (.ref i1) (.ref i2)) (t2 : ∃ a b, IsPair s.heap TO a b)
    (j1 : s.heap.IsTupleIter i1 l1 k1) (j2 : s.heap.IsTupleIter i2 l2 k2) (c1 : s.heap.IsTuple l1 xs) (c2 : s.heap.IsTuple l2 ys) (ex : xs[k1]? = some x) (ey : ys[k2]? = some y)
    (q : ∀ h' v' f', Old v' → ZAt h' z TI TO v' f' → (∃ a b, IsPair h' TO a b) → h'.IsTupleIter i1 l1 (k1 + 1) → h'.IsTupleIter i2 l2 (k2 + 1) → IsPair h' s.heap.objs.size x y → h'.objs.size = s.heap.objs.size + 1 →
      (∀ c o, c ≠ z → c ≠ TO → c ≠ i1 → c ≠ i2 → s.heap.get? c = some o → h'.get? c = some o) → Q (some (.ref s.heap.objs.size)) { s with heap := h' }) : wpAny (model prog w) A (pyNext (Value.ref z)) Q E s := by
  have ty : s.TypeIs (Value.ref z) "zip" := ⟨_, g, rfl⟩
  unfold pyNext
  apply wpAny_bind
  apply wpAny_attempt
  refine wpAny_callSpecial?_slot (name := Str.ofString "__next__") ty F.slot_zip_next ?_
  refine wpAny_call_entry F.slot_zip_next ty F.entry_zip_next ?_ (F.args_zip_next_1 _)
  exact zip_turn D g hv t1 t2 j1 j2 c1 c2 ex ey fun h' v' f' b1 b2 b3 b4 b5 b6 b7 b8 => wpAny_pure (q h' v' f' b1 b2 b3 b4 b5 b6 b7 b8)
theorem next_over {Q : Option Value → Shared → Prop} (hh : A.handled = none) (D : ZipApart z TI TO i1 i2 l1 l2) (g : ZAt s.heap z TI TO v f) (hv : Old v) (t1 : IsPair s.heap TI (.ref i1) (.ref i2)) (t2 : ∃ a b, IsPair s.heap TO a b)
    (j1 : s.heap.IsTupleIter i1 l1 k1) (j2 : s.heap.IsTupleIter i2 l2 k2) (c1 : s.heap.IsTuple l1 xs) (c2 : s.heap.IsTuple l2 ys) (ee : xs[k1]? = none ∨ ys[k2]? = none)
    (q : ∀ h', (∀ c o, c ≠ z → c ≠ TO → c ≠ i1 → c ≠ i2 → s.heap.get? c = some o → h'.get? c = some o) → Q none { s with heap := h' }) : wpAny (model prog w) A (pyNext (Value.ref z)) Q E s := by
  have ty : s.TypeIs (Value.ref z) "zip" := ⟨_, g, rfl⟩
  unfold pyNext
  apply wpAny_bind
  apply wpAny_attempt
  refine wpAny_callSpecial?_slot (name := Str.ofString "__next__") ty F.slot_zip_next ?_
  refine wpAny_call_entry F.slot_zip_next ty F.entry_zip_next ?_ (F.args_zip_next_1 _)
  refine zip_over hh D g hv t1 t2 j1 j2 c1 c2 ee fun h' e kp ⟨o, ho, hc⟩ => ?_
  apply wpAny_bind
  refine wpAny_isInstance (T := "StopIteration") (b := true) ⟨o, ho, hc⟩ isSubtype_stop ?_
  exact wpAny_pure (q _ kp)
end
/-- the state of such a zip -/
def ZSt (a b z TI TO i1 i2 : Addr) (i : Nat) (h : Heap) : Prop := (∃ v f, Old v ∧ ZAt h z TI TO v f) ∧ IsPair h TI (.ref i1) (.ref i2) ∧ (∃ x y, IsPair h TO x y) ∧ h.IsTupleIter i1 a i ∧ h.IsTupleIter i2 b i
theorem in5 {c z TI TO i1 i2 : Addr} (h : c ∈ [z, TI, TO, i1, i2]) : c = z ∨ c = TI ∨ c = TO ∨ c = i1 ∨ c = i2 := by simpa using h
theorem turn_zipN {P : Program} {w : World} {K : PySem.W.Frag} {nm : Str} {np : Pos} {a b z TI TO i1 i2 : Addr} (D : ZipApart z TI TO i1 i2 a b) : Turn P w K (.Name nm np) (ItzT K a b) [z, TI, TO, i1, i2] z (ZSt a b z TI TO i1 i2) where
  mem := List.mem_cons_self
  obj := by
    rintro i h ⟨⟨v, f, _, g⟩, t1, ⟨x, y, t2⟩, ⟨o1, e1, _, d1⟩, o2, e2, _, d2⟩ c hc
    rcases in5 hc with rfl | rfl | rfl | rfl | rfl
    · exact ⟨_, g, fun v q => nomatch q⟩
    · exact ⟨_, t1, fun v q => nomatch q⟩
    · exact ⟨_, t2, fun v q => nomatch q⟩
    · exact ⟨o1, e1, fun v q => by rw [d1] at q; cases q⟩
    · exact ⟨o2, e2, fun v q => by rw [d2] at q; cases q⟩
  keep := by
    rintro i h h' ⟨⟨v, f, hv, g⟩, t1, ⟨x, y, t2⟩, j1, j2⟩ k
    exact ⟨⟨v, f, hv, k z (by simp) _ g⟩, k TI (by simp) _ t1, ⟨x, y, k TO (by simp) _ t2⟩, j1.at fun o q => k i1 (by simp) o q, j2.at fun o q => k i2 (by simp) o q⟩
  item := by
    rintro X rfl rfl rfl hc i pins s σ H E I hf ⟨⟨v, f, hv, g⟩, t1, t2, j1, j2⟩ ⟨xs, ys, x, y, sx, sy, ex, ey⟩
    obtain ⟨us, rx, px, _⟩ := I.tuple sx
    obtain ⟨ws, ry, py, _⟩ := I.tuple sy
    obtain ⟨u, eu, ru⟩ := rx.get ex
    obtain ⟨u', eu', ru'⟩ := ry.get ey
    refine next_turn D g hv t1 t2 j1 j2 (show s.heap.IsTuple a us.toArray from px) (show s.heap.IsTuple b ws.toArray from py) (x := u) (y := u') (by simpa using eu) (by simpa using eu') fun h' v' f' hv' g' t2' j1' j2' new len kp => ⟨_, rfl, ?_⟩
    show wpAny _ _ (pure ()) _ _ _
    have ok : ObjOk X.prog X.w (upd H s.heap.objs.size (.tup [x, y])) h' s.heap.objs.size (.tup [x, y]) := ⟨(by decide : 2 ≤ sizeLine), [u, u'], .cons ru (.cons ru' .nil), ⟨_, new, rfl, _, rfl⟩⟩
    have off : ∀ c o, c ∉ [z, TI, TO, i1, i2] → s.heap.get? c = some o → h'.get? c = some o := fun c o n e => kp c o (fun q => n (by simp [q])) (fun q => n (by simp [q])) (fun q => n (by simp [q])) (fun q => n (by simp [q])) e
    have I' : Inv X pins σ (upd H s.heap.objs.size (.tup [x, y])) { s with heap := h' } := I.turnedNew (t' := s.toks) (ch := [z, TI, TO, i1, i2]) off hf (Nat.le_refl _) ok
    have young : ∀ c, c ∈ [z, TI, TO, i1, i2] → c < s.heap.objs.size := by
      obtain ⟨x0, y0, t2⟩ := t2
      obtain ⟨_, e1, _⟩ := j1
      obtain ⟨_, e2, _⟩ := j2
      intro c hc
      rcases in5 hc with rfl | rfl | rfl | rfl | rfl
      · exact Heap.lt_size g
      · exact Heap.lt_size t1
      · exact Heap.lt_size t2
      · exact Heap.lt_size e1
      · exact Heap.lt_size e2
    refine wpAny_pure ⟨.ref s.heap.objs.size, _, I', rfl, ⟨_, x, y, rfl, I.hok.fresh (Nat.le_refl _), rfl, fun l hl => ?_, fun l hl => ?_⟩, ⟨⟨v', f', hv', g'⟩, kp _ _ D.TIz D.TITO D.TIi1 D.TIi2 t1, t2', j1', j2'⟩, fun c hc => ?_⟩
    · rw [I.tuple_inj hl sx]
      exact ex
    · rw [I.tuple_inj hl sy]
      exact ey
    · rw [upd_ne (Nat.ne_of_lt (young c hc))]
      exact (hf c hc).1
  done := by
    rintro X rfl rfl rfl hc i pins s σ H E I hf ⟨⟨v, f, hv, g⟩, t1, t2, j1, j2⟩ ⟨xs, ys, sx, sy, he⟩
    obtain ⟨us, rx, px, _⟩ := I.tuple sx
    obtain ⟨ws, ry, py, _⟩ := I.tuple sy
    have n1 := rx.length
    have n2 := ry.length
    refine next_over (I.ok.hd hc) D g hv t1 t2 j1 j2 (show s.heap.IsTuple a us.toArray from px) (show s.heap.IsTuple b ws.toArray from py) ?_ fun h' kp => ⟨rfl, I.turnedL (t' := s.toks) (ch := [z, TI, TO, i1, i2]) (fun c o n e => kp c o (fun q => n (by simp [q])) (fun q => n (by simp [q])) (fun q => n (by simp [q])) (fun q => n (by simp [q])) e) hf⟩
    rcases he with q | q
    · exact .inl (by simp; omega)
    · exact .inr (by simp; omega)
  self := by
    rintro A i s Q E ⟨⟨v, f, _, g⟩, _⟩ h
    have ty : s.TypeIs (Value.ref z) "zip" := ⟨_, g, rfl⟩
    refine wpAny_pyIter_slot ty F.slot_zip_iter ?_
    refine wpAny_call_entry F.slot_zip_iter ty F.entry_zip_iter ?_ (F.args_zip_iter_1 _)
    show wpAny _ _ (ret (Value.ref z)) _ _ s
    exact wpAny_pure ⟨_, rfl, "zip", _, ty, F.slot_zip_next.lookup, h⟩
/-! ### on data -/
end Fx
/-! itertools.combinations: the iterator -/
namespace Fx
open PySem PySem.Spec PyProof.Rows L2
namespace Cb
theorem slot_next : Slot "itertools.combinations" "__next__" "itertools.combinations.__next__" :=
  .of (owner := "itertools.combinations") (n := "__next__") (by rw [typeLookup_type, builtinLookup_eq_fast]; kernel_rfl) (by decide +kernel) (by decide +kernel) (by decide +kernel)
    (by first | exact .inl (by decide +kernel) | exact .inr (by decide +kernel)) (by rw [isSubtype_type]; kernel_rfl)
theorem entry_next : entryFor table "itertools.combinations.__next__" = some Builtin.«itertools.combinations.__next__» := entryFor_of_tree (by kernel_rfl)
theorem args_next (a : Value) : argsOk "itertools.combinations.__next__" ⟨[a], []⟩ := by unfold argsOk; kernel_rfl
end Cb
/-- the next combination's places -/
def stepC (n : Nat) (idx : List Nat) : Option (List Nat) :=
  match (List.range idx.length).reverse.find? fun i => idx.getD i 0 != i + n - idx.length with
  | none => none
  | some i => some (idx.take i ++ (List.range (idx.length - i)).map (idx.getD i 0 + 1 + ·))
def cbVals (pool : Value) (st : Int) (last : Value) (idx : List Nat) : Array Value := (pool :: rawInt st :: last :: idx.map fun (n : Nat) => rawInt n).toArray
def cbObj (pool : Value) (st : Int) (last : Value) (idx : List Nat) : Obj := { cls := .type "itertools.combinations", data := .fields (cbVals pool st last idx) }
theorem cb_key {pool last : Value} {st : Int} {idx : List Nat} {f : Value → Nat} (hf : ∀ n : Nat, f (rawInt n) = n) : List.map f (List.drop 3 (cbVals pool st last idx).toList) = idx := by
  unfold cbVals
  show List.map f (idx.map fun (n : Nat) => rawInt n) = idx
  rw [List.map_map]
  have : (f ∘ fun (n : Nat) => rawInt n) = id := funext fun n => hf n
  rw [this, List.map_id]
theorem cb_put {pool last : Value} {st : Int} {idx nx : List Nat} : (cbVals pool st last idx).extract 0 3 ++ (nx.map fun (n : Nat) => rawInt n).toArray = cbVals pool st last nx := by
  unfold cbVals
  apply Array.ext'
  simp
theorem cb_line {pool last : Value} {st : Int} {idx : List Nat} (hz : idx.length ≤ sizeLine) : (Data.fields (cbVals pool st last idx)).pastItsLine = none := by
  unfold cbVals Data.pastItsLine
  simp
  omega
def tupObj (vs : Array Value) : Obj := { cls := .type "tuple", data := .seq vs }
structure CbTurn (z : Addr) (h h' : Heap) (pool : Value) (nx : List Nat) (xs : Array Value) : Prop where
  it : h'.get? z = some (cbObj pool 1 (.ref h.objs.size) nx)
  new : h'.get? h.objs.size = some (tupObj (nx.map fun i => xs.getD i .none).toArray)
  size : h'.objs.size = h.objs.size + 1
  keep : ∀ b o, b ≠ z → h.get? b = some o → h'.get? b = some o
theorem cb_fin {z : Addr} {hp h1 : Heap} {pool last : Value} {idx : List Nat} {xs : Array Value} (s1 : h1.objs.size = hp.objs.size) (k1 : ∀ b o, b ≠ z → hp.get? b = some o → h1.get? b = some o) (g1 : h1.get? z = some (cbObj pool 1 last idx)) :
    CbTurn z hp ((h1.push { cls := .type "tuple", data := .seq (idx.map fun i => xs.getD i .none).toArray }).update z (Obj.mapFields fun x => x.setIfInBounds 2 (.ref h1.objs.size))) pool idx xs := by
  have zl := Heap.lt_size g1
  have g2 : (h1.push { cls := .type "tuple", data := .seq (idx.map fun i => xs.getD i .none).toArray }).get? z = some (cbObj pool 1 last idx) := Heap.get?_push_of_some _ g1
  refine ⟨?_, ?_, ?_, fun b o n e => ?_⟩
  · rw [← s1]
    rw [Heap.get?_update_self _ g2 rfl]
    rfl
  · rw [← s1, Heap.get?_update_ne _ _ _ _ (Nat.ne_of_gt zl)]
    exact Heap.get?_push_size _ rfl
  · rw [Heap.size_update, Heap.size_push, s1]
  · rw [Heap.get?_update_ne _ _ _ _ n]
    exact Heap.get?_push_of_some _ (k1 b o n e)
def MeetsW (t : Sem Fin) (S : Around → (Result → Shared → Prop) → Shared → Prop) : Prop := ∀ (prog : Program) (w : World) (A : Around) (R : Result → Shared → Prop) (s : Shared), S A R s →
  wpAny (model prog w) A.in1 t (fun fin s' => ∃ v, fin = .done (.ret v) ∧ R (.ok (.ret v)) s') (fun e s' => R (.error e) s') s
theorem next0_meets (z : Addr) : MeetsW (Builtin.«itertools.combinations.__next__» ⟨[.ref z], []⟩) (fun A R s => ∃ (p : Addr) (cl : Value) (od : Option Addr) (sl : Array (Option Value)) (xs : Array Value) (k : Nat) (idx : List Nat), s.heap.get? z = some (cbObj (.ref p) 0 .none idx) ∧ s.heap.get? p = some { cls := cl, dict := od, data := .seq xs k, slots := sl } ∧ idx.length ≤ sizeLine ∧
    ∀ h', CbTurn z s.heap h' (.ref p) idx xs → R (.ok (.ret (.ref s.heap.objs.size))) { s with heap := h' }) :=
  fun prog w A R s h => by
    obtain ⟨hp, g, d, tk, os⟩ := s
    obtain ⟨p, cl, od, sl, xs, k, idx, hz, hpo, hl, q⟩ := h
    have hz : hp.get? z = some (cbObj (.ref p) 0 .none idx) := hz
    have hpo : hp.get? p = some { cls := cl, dict := od, data := .seq xs k, slots := sl } := hpo
    unfold cbObj at hz
    wp_walk
    rw [cb_key]
    rotate_left
    · exact fun n => rfl
    have npz : p ≠ z := fun e => by
      rw [e, hz] at hpo
      have := congrArg (Option.map Obj.data) hpo
      simp at this
    generalize hh1 : hp.update z (Obj.mapFields fun x => x.setIfInBounds 1 (rawInt 1)) = h1
    have s1 : h1.objs.size = hp.objs.size := by rw [← hh1, Heap.size_update]
    have k1 : ∀ b o, b ≠ z → hp.get? b = some o → h1.get? b = some o := fun b o n e => by
      rw [← hh1, Heap.get?_update_ne _ _ _ _ n]
      exact e
    have g1 : h1.get? z = some { cls := Value.type "itertools.combinations", data := Data.fields (cbVals (Value.ref p) 1 Value.none idx) } := by
      rw [← hh1]
      exact Heap.get?_update_self _ hz rfl
    have hpo1 := k1 _ _ npz hpo
    wp_walk
    refine ⟨_, rfl, ?_⟩
    have := q _ (cb_fin s1 k1 g1)
    rw [s1]
    rw [s1] at this
    exact this
theorem next1_meets (z : Addr) : MeetsW (Builtin.«itertools.combinations.__next__» ⟨[.ref z], []⟩) (fun A R s => ∃ (p : Addr) (cl : Value) (od : Option Addr) (sl : Array (Option Value)) (xs : Array Value) (k : Nat) (last : Value) (idx nx : List Nat), s.heap.get? z = some (cbObj (.ref p) 1 last idx) ∧ s.heap.get? p = some { cls := cl, dict := od, data := .seq xs k, slots := sl } ∧ stepC xs.size idx = some nx ∧ nx.length ≤ sizeLine ∧
    ∀ h', CbTurn z s.heap h' (.ref p) nx xs → R (.ok (.ret (.ref s.heap.objs.size))) { s with heap := h' }) :=
  fun prog w A R s h => by
    obtain ⟨hp, g, d, tk, os⟩ := s
    obtain ⟨p, cl, od, sl, xs, k, last, idx, nx, hz, hpo, hs, hl, q⟩ := h
    have hz : hp.get? z = some (cbObj (.ref p) 1 last idx) := hz
    have hpo : hp.get? p = some { cls := cl, dict := od, data := .seq xs k, slots := sl } := hpo
    have npz : p ≠ z := fun e => by
      rw [e, hz] at hpo
      have := congrArg (Option.map Obj.data) hpo
      simp [cbObj] at this
    unfold cbObj at hz
    wp_walk
    rw [cb_key]
    rotate_left
    · exact fun n => rfl
    split
    · rename_i nx' heq
      have heq : stepC xs.size idx = some nx' := heq
      obtain rfl : nx = nx' := Option.some.inj (hs.symm.trans heq)
      wp_walk
      have el : (Obj.mapFields (fun fs => fs.extract 0 3 ++ (List.map (fun (n : Nat) => rawInt n) nx).toArray) { cls := Value.type "itertools.combinations", data := Data.fields (cbVals (Value.ref p) 1 last idx) }).data.pastItsLine = none := by
        show (Data.fields ((cbVals (Value.ref p) 1 last idx).extract 0 3 ++ (List.map (fun (n : Nat) => rawInt n) nx).toArray)).pastItsLine = none
        rw [cb_put]
        exact cb_line hl
      rw [el]
      generalize hh1 : hp.update z (Obj.mapFields fun fs => fs.extract 0 3 ++ (List.map (fun (n : Nat) => rawInt n) nx).toArray) = h1
      have s1 : h1.objs.size = hp.objs.size := by rw [← hh1, Heap.size_update]
      have k1 : ∀ b o, b ≠ z → hp.get? b = some o → h1.get? b = some o := fun b o n e => by
        rw [← hh1, Heap.get?_update_ne _ _ _ _ n]
        exact e
      have g1 : h1.get? z = some { cls := Value.type "itertools.combinations", data := Data.fields (cbVals (Value.ref p) 1 last nx) } := by
        rw [← hh1, Heap.get?_update_self _ hz rfl]
        show some ({ cls := Value.type "itertools.combinations", data := Data.fields ((cbVals (Value.ref p) 1 last idx).extract 0 3 ++ (List.map (fun (n : Nat) => rawInt n) nx).toArray) } : Obj) = _
        rw [cb_put]
      have hpo1 := k1 _ _ npz hpo
      wp_walk
      refine ⟨_, rfl, ?_⟩
      have := q _ (cb_fin s1 k1 g1)
      rw [s1]
      rw [s1] at this
      exact this
    · rename_i heq
      have heq : stepC xs.size idx = none := heq
      rw [heq] at hs
      cases hs
theorem over_meets (z : Addr) : MeetsW (Builtin.«itertools.combinations.__next__» ⟨[.ref z], []⟩) (fun A R s => A.handled = none ∧ ∃ (p : Addr) (cl : Value) (od : Option Addr) (sl : Array (Option Value)) (xs : Array Value) (k : Nat) (last : Value) (idx : List Nat), s.heap.get? z = some (cbObj (.ref p) 1 last idx) ∧ s.heap.get? p = some { cls := cl, dict := od, data := .seq xs k, slots := sl } ∧ stepC xs.size idx = none ∧
    ∀ h' e, (∀ b o, b ≠ z → s.heap.get? b = some o → h'.get? b = some o) → (∃ o, h'.get? e = some o ∧ o.cls = .type "StopIteration") → R (.error (.ref e)) { s with heap := h' }) :=
  fun prog w A R s h => by
    obtain ⟨hp, g, d, tk, os⟩ := s
    obtain ⟨hh, p, cl, od, sl, xs, k, last, idx, hz, hpo, hs, q⟩ := h
    have hz : hp.get? z = some (cbObj (.ref p) 1 last idx) := hz
    have hpo : hp.get? p = some { cls := cl, dict := od, data := .seq xs k, slots := sl } := hpo
    have npz : p ≠ z := fun e => by
      rw [e, hz] at hpo
      have := congrArg (Option.map Obj.data) hpo
      simp [cbObj] at this
    unfold cbObj at hz
    wp_walk
    rw [cb_key]
    rotate_left
    · exact fun n => rfl
    split
    · rename_i nx' heq
      have heq : stepC xs.size idx = some nx' := heq
      rw [hs] at heq
      cases heq
    · generalize hh1 : hp.update z (Obj.mapFields fun x => x.setIfInBounds 1 (rawInt 2)) = h1
      wp_walk
      refine wpAny_raiseNew_none hh ?_
      refine q _ _ (fun b o n e => ?_) ⟨_, Heap.get?_push_size _ rfl, rfl⟩
      refine Heap.get?_push_of_some _ (Heap.get?_push_of_some _ ?_)
      rw [Heap.get?_update_ne _ _ _ _ n]
      exact e
end Fx
/-! itertools.combinations: made -/
namespace Fx
open PySem PySem.Spec PyProof.Rows L2
theorem new_meets (l : Addr) (r : Nat) (t : Tok) : Meets (Builtin.«itertools.combinations.__new__» ⟨[.type "itertools.combinations", .ref l, .int r t], []⟩) (fun A R s => ∃ (xs : Array Value), s.heap.IsList l xs ∧ xs.size ≤ 1000 ∧ r ≤ xs.size ∧
    ∀ h', h'.get? (s.heap.objs.size + 1) = some (tupObj xs) → h'.get? (s.heap.objs.size + 2) = some (cbObj (.ref (s.heap.objs.size + 1)) 0 .none (List.range r)) → h'.objs.size = s.heap.objs.size + 3 → (∀ b o, s.heap.get? b = some o → h'.get? b = some o) → R (.ok (.ret (.ref (s.heap.objs.size + 2)))) { s with heap := h' }) :=
  .of_wp fun prog w A R s h => by
    obtain ⟨hp, g, d, tk, os⟩ := s
    obtain ⟨xs, ho, hsz, hr, q⟩ := h
    have ho : hp.IsList l xs := ho
    have isub : isSubtype (.type "itertools.combinations") (.type ("itertools." ++ "combinations")) = pure true := by
      show isSubtype (.type "itertools.combinations") (.type "itertools.combinations") = pure true
      rw [isSubtype_type]
      kernel_rfl
    wp_walk
    rw [if_neg (by rw [Bool.or_eq_true, decide_eq_true_eq, decide_eq_true_eq]; omega)]
    apply wpAny_pure
    apply wpAny_bind
    have hx : (xs.toList).toArray = xs := by simp
    refine collect_list (vs := xs.toList) (by rw [hx]; exact ho) ?_ (by unfold sizeLine; simp; omega)
    have too : Builtin.Itertools.itTooMany (r : Int) = false := by
      unfold Builtin.Itertools.itTooMany
      rw [decide_eq_false_iff_not]
      omega
    have nn : ¬ ((r : Int) < 0) := by omega
    rw [if_neg nn, too]
    wp_walk
    rw [if_neg (by rw [hx]; unfold sizeLine; omega), hx]
    have er : (if (r : Int).toNat > xs.toList.length then (2 : Int) else 0) = 0 := if_neg (by simp; omega)
    wp_walk
    have h1s : ((hp.push (seqObj "list" #[] 0)).update hp.objs.size (Obj.mapSeq fun x => x ++ xs)).objs.size = hp.objs.size + 1 := by rw [Heap.size_update, Heap.size_push]
    have h1k : ∀ b o, hp.get? b = some o → ((hp.push (seqObj "list" #[] 0)).update hp.objs.size (Obj.mapSeq fun x => x ++ xs)).get? b = some o := fun b o e => by
      rw [Heap.get?_update_ne _ _ _ _ (Nat.ne_of_lt (Heap.lt_size e))]
      exact Heap.get?_push_of_some _ e
    show wpAny _ _ (if ([Value.ref ((hp.push (seqObj "list" #[] 0)).update hp.objs.size (Obj.mapSeq fun x => x ++ xs)).objs.size, rawInt (if (r : Int).toNat > xs.toList.length then 2 else 0), Value.none] ++ List.map (fun (i : Nat) => rawInt i) (List.range (r : Int).toNat)).toArray.size > sizeLine + 2 then _ else _) _ _ _
    generalize hh1 : (hp.push (seqObj "list" #[] 0)).update hp.objs.size (Obj.mapSeq fun x => x ++ xs) = h1 at h1s h1k ⊢
    rw [if_neg (by unfold sizeLine; simp; omega), er, Int.toNat_natCast]
    show wpAny (model prog w) A.in1 (newObjAsIs (Value.type "itertools.combinations") (Data.fields (cbVals (.ref h1.objs.size) 0 .none (List.range r)))) _ _ _
    wp_walk
    refine ⟨_, rfl, ?_⟩
    have s2 : (h1.push { cls := Value.type "tuple", data := Data.seq xs }).objs.size = hp.objs.size + 2 := by rw [Heap.size_push, h1s]
    have fin := q ((h1.push { cls := Value.type "tuple", data := Data.seq xs }).push (cbObj (.ref h1.objs.size) 0 .none (List.range r))) (by
        show Heap.get? _ (hp.objs.size + 1) = _
        rw [← h1s]
        exact Heap.get?_push_of_some _ (Heap.get?_push_size _ rfl)) (by
        show Heap.get? _ (hp.objs.size + 2) = some (cbObj (.ref (hp.objs.size + 1)) 0 .none (List.range r))
        rw [← s2, h1s]
        exact Heap.get?_push_size _ rfl) (by
        show Array.size _ = hp.objs.size + 3
        rw [Heap.size_push, s2]) fun b o e => Heap.get?_push_of_some _ (Heap.get?_push_of_some _ (h1k b o e))
    rw [s2]
    exact fin
end Fx
/-! for x in combinations(xs, r), x a name, xs a list of ints -/
namespace Fx
open PySem PySem.Spec PyProof.Rows L2 RZ
namespace Cb
theorem entry_iter : entryFor table "itertools.combinations.__iter__" = some Builtin.«dict_keyiterator.__iter__» :=
  entryFor_alias (id' := "dict_keyiterator.__iter__") (by kernel_rfl) (by first | rfl | decide +kernel | (unfold String.splitOn; simp +decide [String.splitOnAux])) (by decide +kernel) (by kernel_rfl)
theorem slot_iter : Slot "itertools.combinations" "__iter__" "itertools.combinations.__iter__" :=
  .of (owner := "itertools.combinations") (n := "__iter__") (by rw [typeLookup_type, builtinLookup_eq_fast]; kernel_rfl) (by decide +kernel) (by decide +kernel) (by decide +kernel)
    (by first | exact .inl (by decide +kernel) | exact .inr (by decide +kernel)) (by rw [isSubtype_type]; kernel_rfl)
theorem args_iter (a : Value) : argsOk "itertools.combinations.__iter__" ⟨[a], []⟩ := by unfold argsOk; kernel_rfl
theorem mro_cb : mroOf (.type "itertools.combinations") = pure [.type "itertools.combinations", .type "object"] := by rw [mroOf_type]; kernel_rfl
theorem lookup_new : typeLookup (.type "itertools.combinations") "__new__" = pure (some (.builtin "itertools.combinations.__new__")) := by rw [typeLookup_type, builtinLookup_eq_fast]; kernel_rfl
theorem slot_init : Slot "itertools.combinations" "__init__" "object.__init__" :=
  .of (owner := "object") (n := "__init__") (by rw [typeLookup_type, builtinLookup_eq_fast]; kernel_rfl) (by decide +kernel) (by decide +kernel) (by decide +kernel)
    (by first | exact .inl (by decide +kernel) | exact .inr (by decide +kernel)) (by rw [isSubtype_type]; kernel_rfl)
theorem called : TypeCalled "itertools.combinations" "itertools.combinations.__new__" "object.__init__" :=
  ⟨by decide +kernel, by decide +kernel, ⟨_, _, mro_cb⟩, madeBy_type mro_cb lookup_new (by decide +kernel), by decide +kernel, by rw [isSubtype_type]; kernel_rfl, slot_init⟩
theorem typeCall_2 (a b : Value) : checkTypeCall "itertools.combinations" ⟨[a, b], []⟩ = pure () := by kernel_rfl
theorem newCall_2 (a b : Value) : checkBuiltinCall "itertools.combinations.__new__" ⟨[.type "itertools.combinations", a, b], []⟩ = pure () := by kernel_rfl
theorem entry_new : entryFor table "itertools.combinations.__new__" = some Builtin.«itertools.combinations.__new__» := entryFor_of_tree (by kernel_rfl)
end Cb
section
variable {prog : Program} {w : World} {A : Around} {E : Value → Shared → Prop} {s : Shared} {l z p : Addr} {xs : Array Value}
theorem call_comb {r : Nat} {t : Tok} {Q : Value → Shared → Prop} (hl : s.heap.IsList l xs) (hs : xs.size ≤ 1000) (hr : r ≤ xs.size)
    (h : ∀ h', h'.get? (s.heap.objs.size + 1) = some (tupObj xs) → h'.get? (s.heap.objs.size + 2) = some (cbObj (.ref (s.heap.objs.size + 1)) 0 .none (List.range r)) → h'.objs.size = s.heap.objs.size + 3 → (∀ b o, s.heap.get? b = some o → h'.get? b = some o) → Q (.ref (s.heap.objs.size + 2)) { s with heap := h' }) :
    wpAny (model prog w) A (call (.type "itertools.combinations") [.ref l, .int r t]) Q E s := by
  refine callType_new Cb.called (by decide) (Cb.typeCall_2 _ _) (Cb.newCall_2 _ _) (fun obj => F.args_object_init_3 obj _ _) Cb.entry_new (new_meets l r t) ⟨xs, hl, hs, hr, fun h' h1 h2 h3 h4 => ?_⟩
  exact ⟨⟨_, h2, rfl⟩, h h' h1 h2 h3 h4⟩
theorem cb_next {R : Option Value → Shared → Prop} {last pool : Value} {st : Int} {idx : List Nat} (g : s.heap.get? z = some (cbObj pool st last idx)) {S : Around → (Result → Shared → Prop) → Shared → Prop} (m : MeetsW (Builtin.«itertools.combinations.__next__» ⟨[.ref z], []⟩) S)
    (h : S A (fun r s' => match r with
      | .ok (.ret v) => R (some v) s'
      | .ok _ => False
      | .error e => ∃ a, e = .ref a ∧ (∃ o, s'.heap.get? a = some o ∧ o.cls = .type "StopIteration") ∧ R none s') s) : wpAny (model prog w) A (pyNext (Value.ref z)) R E s := by
  have ty : s.TypeIs (Value.ref z) "itertools.combinations" := ⟨_, g, rfl⟩
  unfold pyNext
  apply wpAny_bind
  apply wpAny_attempt
  refine wpAny_callSpecial?_slot (name := Str.ofString "__next__") ty Cb.slot_next ?_
  refine wpAny_call_entry Cb.slot_next ty Cb.entry_next ?_ (Cb.args_next _)
  refine wpAny_mono (m prog w A _ s h) (fun fin s' hq => ?_) fun e s' hq => ?_
  · obtain ⟨v, e, hq⟩ := hq
    exact ⟨v, e, wpAny_pure hq⟩
  · obtain ⟨a, rfl, ⟨o, ho, hc⟩, hq⟩ := hq
    apply wpAny_bind
    refine wpAny_isInstance (T := "StopIteration") (b := true) ⟨o, ho, hc⟩ isSubtype_stop ?_
    exact wpAny_pure hq
end
/-! ### the runs of places -/
def runC (n : Nat) : Nat → List Nat → List (List Nat)
  | 0, _ => []
  | k + 1, idx => idx :: (match stepC n idx with
    | none => []
    | some nx => runC n k nx)
/-- the combinations' places, in their order -/
def combL (n r : Nat) : List (List Nat) := runC n 200 (List.range r)
def okEnd (n : Nat) (l : List (List Nat)) : Bool := match l.getLast? with
  | some idx => (stepC n idx).isNone
  | none => false
theorem runC_step {n : Nat} : ∀ {k : Nat} {idx : List Nat} {i : Nat} {a b : List Nat}, (runC n k idx)[i]? = some a → (runC n k idx)[i + 1]? = some b → stepC n a = some b
  | 0, idx, i, a, b, h, _ => by simp [runC] at h
  | k + 1, idx, 0, a, b, h, h2 => by
    rw [runC] at h h2
    simp only [List.getElem?_cons_zero, Option.some.injEq, List.getElem?_cons_succ] at h h2
    subst h
    cases e : stepC n idx with
    | none => rw [e] at h2; simp at h2
    | some nx =>
      rw [e] at h2
      cases k with
      | zero => simp [runC] at h2
      | succ k =>
        have h2 : (nx :: _)[0]? = some b := h2
        simp at h2
        rw [h2]
  | k + 1, idx, i + 1, a, b, h, h2 => by
    rw [runC] at h h2
    simp only [List.getElem?_cons_succ] at h h2
    cases e : stepC n idx with
    | none => rw [e] at h; simp at h
    | some nx =>
      rw [e] at h h2
      exact runC_step h h2
theorem runC_zero {n k : Nat} {idx a : List Nat} (h : (runC n k idx)[0]? = some a) : a = idx := by
  cases k with
  | zero => simp [runC] at h
  | succ k => simp [runC] at h; exact h.symm
theorem end_step {n : Nat} {l : List (List Nat)} (h : okEnd n l = true) : l ≠ [] ∧ ∀ i a, i + 1 = l.length → l[i]? = some a → stepC n a = none := by
  unfold okEnd at h
  cases e : l.getLast? with
  | none => rw [e] at h; cases h
  | some idx =>
    rw [e] at h
    refine ⟨fun z => (by rw [z] at e; cases e), fun i a hi ha => ?_⟩
    rw [List.getLast?_eq_getElem?, show l.length - 1 = i from by omega, ha] at e
    cases e
    simpa using h
/-- the state of the iterator -/
def CSt (n : Nat) (l : List (List Nat)) (z p : Addr) (r : Nat) (i : Nat) (h : Heap) : Prop := (i = 0 ∧ h.get? z = some (cbObj (.ref p) 0 .none (List.range r))) ∨ ∃ j last idx, i = j + 1 ∧ l[j]? = some idx ∧ h.get? z = some (cbObj (.ref p) 1 last idx)
def ItC (K : PySem.W.Frag) (n : Nat) (l : List (List Nat)) (p : Addr) : It where
  go i H := i < l.length ∧ ∃ us, SqT K H p us ∧ us.length = n
  stop i H := i = l.length ∧ ∃ us, SqT K H p us ∧ us.length = n
  yld i H y H' := ∃ T idx ws, y = .ref T ∧ H T = none ∧ l[i]? = some idx ∧ H' = upd H T (.tup ws) ∧ ∀ us, SqT K H p us → ws = idx.map fun j => us.getD j .non
end Fx
/-! for x in combinations(xs, r): the rule -/
namespace Fx
open PySem PySem.Spec PyProof.Rows L2 RZ
theorem pick_vals {us : List V} {its : List Value} (r : Vals us its) : ∀ idx : List Nat, Vals (idx.map fun j => us.getD j .non) (idx.map fun j => its.getD j .none)
  | [] => .nil
  | j :: js => .cons (by
      cases e : us[j]? with
      | none =>
        have e2 : its[j]? = none := by
          rw [List.getElem?_eq_none_iff] at e ⊢
          rw [← r.length]
          exact e
        show RelV (us.getD j .non) (its.getD j .none)
        rw [List.getD_eq_getElem?_getD, List.getD_eq_getElem?_getD, e, e2]
        rfl
      | some v =>
        obtain ⟨u, eu, ru⟩ := r.get e
        show RelV (us.getD j .non) (its.getD j .none)
        rw [List.getD_eq_getElem?_getD, List.getD_eq_getElem?_getD, e, eu]
        exact ru) (pick_vals r js)
theorem turn_comb {P : Program} {w : World} {K : PySem.W.Frag} {nm : Str} {np : Pos} {n r : Nat} {z p : Addr} (hs : ∀ idx ∈ combL n r, idx.length ≤ sizeLine) (he : okEnd n (combL n r) = true) : Turn P w K (.Name nm np) (ItC K n (combL n r) p) [z] z (CSt n (combL n r) z p r) where
  mem := List.mem_cons_self
  obj := by
    rintro i h (⟨_, g⟩ | ⟨j, last, idx, _, _, g⟩) c hc
    · rw [List.mem_singleton.mp hc]
      exact ⟨_, g, fun v q => nomatch q⟩
    · rw [List.mem_singleton.mp hc]
      exact ⟨_, g, fun v q => nomatch q⟩
  keep := by
    rintro i h h' (⟨e, g⟩ | ⟨j, last, idx, e1, e2, g⟩) k
    · exact .inl ⟨e, k z (by simp) _ g⟩
    · exact .inr ⟨j, last, idx, e1, e2, k z (by simp) _ g⟩
  item := by
    rintro X rfl rfl rfl hc i pins s σ H E I hf st ⟨hi, us, sq, hn⟩
    obtain ⟨its, rv, pt, hz⟩ := I.tuple sq
    obtain ⟨o, ho, hcl, k, hd⟩ := pt
    obtain ⟨cl, od, dt, sl⟩ := o
    simp only at hd hcl
    subst hd
    obtain ⟨nx, hx⟩ : ∃ nx, (combL n r)[i]? = some nx := ⟨_, List.getElem?_eq_getElem hi⟩
    have hl := hs nx (List.mem_of_getElem? hx)
    have hsz : its.toArray.size = n := by
      rw [List.size_toArray, ← rv.length]
      exact hn
    -- what a turn gives
    have turn : ∀ h', CbTurn z s.heap h' (.ref p) nx its.toArray → wpAny (model X.prog X.w) X.A (letOwnedTupleGo (.Name nm np) (.ref z) (.ref s.heap.objs.size)) (fun _ s2 => ∃ x H', Inv X pins σ H' s2 ∧ RelV x (.ref s.heap.objs.size) ∧ (ItC X.K n (combL n r) p).yld i H x H' ∧ CSt n (combL n r) z p r (i + 1) s2.heap ∧ ∀ b ∈ [z], H' b = none) E { s with heap := h' } := fun h' ct => by
      refine go_of ct.it rfl rfl (by decide) ?_
      have pv := pick_vals rv nx
      have e2 : (nx.map fun i => its.toArray.getD i .none) = nx.map fun j => its.getD j .none := by
        refine List.map_inj_left.mpr fun j _ => ?_
        simp [Array.getD_eq_getD_getElem?, List.getD_eq_getElem?_getD]
      have hnew := ct.new
      rw [e2] at hnew
      have ok : ObjOk X.prog X.w (upd H s.heap.objs.size (.tup (nx.map fun j => us.getD j .non))) h' s.heap.objs.size (.tup (nx.map fun j => us.getD j .non)) :=
        ⟨by rw [List.length_map]; exact hl, _, pv, ⟨_, hnew, rfl, _, rfl⟩⟩
      have I' := I.turnedNew (t' := s.toks) (ch := [z]) (fun b o nb e => ct.keep b o (fun q => nb (by simp [q])) e) hf (Nat.le_refl _) ok
      refine ⟨.ref s.heap.objs.size, _, I', rfl, ⟨_, nx, _, rfl, I.hok.fresh (Nat.le_refl _), hx, rfl, fun us' h' => ?_⟩, .inr ⟨i, _, nx, rfl, hx, ct.it⟩, fun c hc => ?_⟩
      · rw [I.tuple_inj h' sq]
      · rw [List.mem_singleton.mp hc]
        have zl : z < s.heap.objs.size := by
          rcases st with ⟨_, g⟩ | ⟨_, _, _, _, _, g⟩ <;> exact Heap.lt_size g
        rw [upd_ne (Nat.ne_of_lt zl)]
        exact (hf z (by simp)).1
    rcases st with ⟨rfl, g⟩ | ⟨j, last, idx, rfl, hj, g⟩
    · have e0 : nx = List.range r := runC_zero hx
      subst e0
      refine cb_next g (next0_meets z) ⟨p, cl, od, sl, its.toArray, k, _, g, ho, hl, fun h' ct => ⟨_, rfl, turn h' ct⟩⟩
    · refine cb_next g (next1_meets z) ⟨p, cl, od, sl, its.toArray, k, last, idx, nx, g, ho, by rw [hsz]; exact runC_step hj hx, hl, fun h' ct => ⟨_, rfl, turn h' ct⟩⟩
  done := by
    rintro X rfl rfl rfl hc i pins s σ H E I hf st ⟨hi, us, sq, hn⟩
    obtain ⟨its, rv, pt, hz⟩ := I.tuple sq
    obtain ⟨o, ho, hcl, k, hd⟩ := pt
    obtain ⟨cl, od, dt, sl⟩ := o
    simp only at hd hcl
    subst hd
    have hsz : its.toArray.size = n := by
      rw [List.size_toArray, ← rv.length]
      exact hn
    obtain ⟨ne, last⟩ := end_step he
    rcases st with ⟨e0, g⟩ | ⟨j, lv, idx, rfl, hj, g⟩
    · exfalso
      rw [e0] at hi
      exact ne (List.eq_nil_of_length_eq_zero hi.symm)
    · refine cb_next g (over_meets z) ⟨I.ok.hd hc, p, cl, od, sl, its.toArray, k, lv, idx, g, ho, by rw [hsz]; exact last j idx hi hj, fun h' e kp ⟨o, ho, hco⟩ => ⟨e, rfl, ⟨o, ho, hco⟩, rfl, ?_⟩⟩
      exact I.turnedL (t' := s.toks) (ch := [z]) (fun c o nc e => kp c o (fun q => nc (by simp [q])) e) hf
  self := by
    rintro A i s Q E st h
    have g : ∃ o, s.heap.get? z = some o ∧ o.cls = .type "itertools.combinations" := by
      rcases st with ⟨_, g⟩ | ⟨_, _, _, _, _, g⟩ <;> exact ⟨_, g, rfl⟩
    have ty : s.TypeIs (Value.ref z) "itertools.combinations" := g
    refine wpAny_pyIter_slot ty Cb.slot_iter ?_
    refine wpAny_call_entry Cb.slot_iter ty Cb.entry_iter ?_ (Cb.args_iter _)
    show wpAny _ _ (ret (Value.ref z)) _ _ s
    exact wpAny_pure ⟨_, rfl, "itertools.combinations", _, ty, Cb.slot_next.lookup, h⟩
end Fx
/-! for x in combinations(xs, r): by its name, on data -/
namespace Fx
open PySem PySem.Spec PyProof.Rows L2 RZ
def okComb (n r : Nat) : Bool := decide (n ≤ 1000) && decide (r ≤ n) && okEnd n (combL n r) && (combL n r).all fun idx => decide (idx.length ≤ 1000)
theorem okComb_out {n r : Nat} (h : okComb n r = true) : n ≤ 1000 ∧ r ≤ n ∧ okEnd n (combL n r) = true ∧ ∀ idx ∈ combL n r, idx.length ≤ sizeLine := by
  unfold okComb at h
  simp only [Bool.and_eq_true, decide_eq_true_eq, List.all_eq_true] at h
  exact ⟨h.1.1.1, h.1.1.2, h.1.2, fun idx hi => Nat.le_trans (h.2 idx hi) (by unfold sizeLine; decide)⟩
def iCombT (K : PySem.W.Frag) (ta : TA) : TI := fun σ H R => ta σ H fun vs H1 => ∃ (a : Addr) (us : List V) (r : Nat), vs = [.ref a, .int r] ∧ SqL K H1 a us ∧ okComb us.length r = true ∧ ∀ p, H1 p = none → R (ItC K us.length (combL us.length r) p) (upd H1 p (.tup us))
theorem pi_comb {X : Cx} {e : Expr} {es : List Expr} {ta : TA} {p pos np : Pos} {nm : Str} (hg : Gl X "combinations") (hm : X.mg "combinations" = some (.type "itertools.combinations")) (ha : PA X (e :: es) ta)
    (hs : starEach (e :: es) X.env = (false, eval e X.env) :: starEach es X.env := by rfl) (hpl : (backTo pos (starEach es X.env)).any (·.1) = false := by rfl) :
    PI X (.Name nm np) (.Call (.Name "combinations" p) (e :: es) [] pos) (iCombT X.K ta) := by
  constructor
  intro pins s σ H R I h
  refine Call_ (ld_glob I hg hm ?_)
  refine PyProof.Rows.callWith_type1 (thn (ha.run pos pins s σ H _ I h) fun us s1 ⟨vs, H1, I1, r1, a, xs, r, ev, sx, hok, q⟩ => ?_) hs hpl
  subst ev
  obtain ⟨u, u', rfl, ru, ru'⟩ := Vals.two r1
  cases ru
  obtain ⟨t, rfl⟩ := ru'
  obtain ⟨its, rv, ⟨o, n, ho, hc, hd, hdata⟩, hz⟩ := I1.list sx
  obtain ⟨h1, h2, h3, h4⟩ := okComb_out hok
  have hn := rv.length
  have hl : s1.heap.IsList a its.toArray := ⟨o, ho, hc, n, hdata⟩
  refine call_comb hl (by simp; omega) (by simp; omega) fun h' g1 g2 g3 kp => ?_
  have hp : H1 (s1.heap.objs.size + 1) = none := I1.hok.fresh (Nat.le_succ _)
  have ok : ObjOk X.prog X.w (upd H1 (s1.heap.objs.size + 1) (.tup xs)) h' (s1.heap.objs.size + 1) (.tup xs) := ⟨hz, its, rv, ⟨_, g1, rfl, _, rfl⟩⟩
  have I2 := I1.laid (t' := s1.toks) kp (Nat.le_succ _) ok
  have hz2 : upd H1 (s1.heap.objs.size + 1) (.tup xs) (s1.heap.objs.size + 2) = none := by
    rw [upd_ne (show s1.heap.objs.size + 2 ≠ s1.heap.objs.size + 1 from by omega)]
    exact I1.hok.fresh (by omega)
  have ty : ({ s1 with heap := h' } : Shared).TypeIs (Value.ref (s1.heap.objs.size + 2)) "itertools.combinations" := ⟨_, g2, rfl⟩
  refine wpAny_pyIter_slot ty Cb.slot_iter ?_
  refine wpAny_call_entry Cb.slot_iter ty Cb.entry_iter ?_ (Cb.args_iter _)
  show wpAny _ _ (ret (Value.ref _)) _ _ _
  refine wpAny_pure ⟨_, rfl, "itertools.combinations", _, ty, Cb.slot_next.lookup, ?_⟩
  refine ⟨s1.heap.objs.size + 2, [s1.heap.objs.size + 2], CSt xs.length (combL xs.length r) _ (s1.heap.objs.size + 1) r, _, _, rfl, I2, turn_comb h4 h3, .inl ⟨rfl, g2⟩, fun c hcm => ?_, q _ hp⟩
  rw [List.mem_singleton.mp hcm]
  exact I1.fpOk (by omega) hz2
/-! ### on data -/
def iComb (fA : M (List D)) : M (List D) := fun ρ => (fA ρ).then fun ds ρ' => match ds with
  | [.lst xs, .int r] => if xs.all isIntD && decide (0 ≤ r) && okComb xs.length r.toNat then .ok ((combL xs.length r.toNat).map fun idx => .tup (idx.map fun j => xs.getD j .non)) ρ' else .stuck
  | _ => .stuck
theorem pick_rp {c : Cfg} {G : Hp} {us : List V} {ds : List D} (r : RpAll c G us ds) : ∀ idx : List Nat, RpAll c G (idx.map fun j => us.getD j .non) (idx.map fun j => ds.getD j .non)
  | [] => .nil
  | j :: js => .cons (by
      cases e : ds[j]? with
      | none =>
        have e2 : us[j]? = none := by
          rw [List.getElem?_eq_none_iff] at e ⊢
          rw [r.length]
          exact e
        show Rp c G (us.getD j .non) (ds.getD j .non)
        rw [List.getD_eq_getElem?_getD, List.getD_eq_getElem?_getD, e, e2]
        exact .non
      | some d =>
        obtain ⟨v, ev, hv⟩ := r.get e
        show Rp c G (us.getD j .non) (ds.getD j .non)
        rw [List.getD_eq_getElem?_getD, List.getD_eq_getElem?_getD, e, ev]
        exact hv) (pick_rp r js)
theorem int_arcy {xs : List D} (h : xs.all isIntD = true) : arcy xs = false := by
  cases xs with
  | nil => rfl
  | cons x r =>
    rw [List.all_cons, Bool.and_eq_true] at h
    cases x <;> first | (cases h.1; done) | rfl
theorem pick_arcy {xs : List D} (h : xs.all isIntD = true) (idx : List Nat) : arcy (idx.map fun j => xs.getD j .non) = false := by
  cases idx with
  | nil => rfl
  | cons j r =>
    show (pairy (xs.getD j .non) && _ && _) = false
    have : pairy (xs.getD j .non) = false := by
      rw [List.getD_eq_getElem?_getD]
      cases e : xs[j]? with
      | none => rfl
      | some d =>
        have := List.all_eq_true.mp h d (List.mem_of_getElem? e)
        cases d <;> first | (cases this; done) | rfl
    rw [this]
    rfl
section
variable {c : Cfg} {W : WX} {tA : TA} {fA : M (List D)}
theorem walk_comb {p : Addr} {xs : List D} {n r : Nat} (hx : xs.all isIntD = true) (hn : xs.length = n) : IsWalk c [.tup xs] [.ref p] (ItC c.K n (combL n r) p) ((combL n r).map fun idx => .tup (idx.map fun j => xs.getD j .non)) := by
  refine ⟨(combL n r).length, SrcAt c false n p, fun i H y H' => ∃ T idx ws, y = .ref T ∧ H T = none ∧ (combL n r)[i]? = some idx ∧ H' = upd H T (.tup ws) ∧ ∀ us, SqT c.K H p us → ws = idx.map fun j => us.getD j .non, ⟨?_, ?_, ?_⟩, (List.length_map _).symm, fun B ts vs ρ σ H r => ?_, ?_⟩
  · rintro i H hi ⟨us, h1, h2⟩
    exact ⟨hi, us, h1, h2⟩
  · rintro H ⟨us, h1, h2⟩
    exact ⟨rfl, us, h1, h2⟩
  · intro i H y H' _ _ h
    exact h
  · have := src_of (x := .tup xs) (ds := xs) rfl r
    rw [hn] at this
    exact this
  · rintro B ts vs ρ σ H i y H' hk r ⟨T, idx, ws, rfl, hT, hi, rfl, t⟩
    obtain ⟨G, O, h⟩ := r.top
    obtain ⟨a', us, e1, h1, kk⟩ := h.seq O.sub (x := .tup xs) rfl
    cases e1
    have ew := t us h1
    subst ew
    refine ⟨.tup (idx.map fun j => xs.getD j .non), by rw [List.getElem?_map, hi]; rfl, O.new hT rfl fun G' m e' => .tup (.inl (.inl e')) ((pick_rp kk idx).mono m) fun z => ?_⟩
    rw [pick_arcy hx] at z
    cases z
theorem di_comb (h : DenA c W tA fA) : DenI c W (iCombT c.K tA) (iComb fA) := fun B ts vs ρ σ H R r q => by
  unfold iComb at q
  rw [post_then] at q
  refine h B ts vs ρ σ H _ r (q.imp1 fun ds ρ' p us H' hlen r' => ?_)
  split at p
  · rename_i xs k
    split at p
    · rename_i hh
      simp only [Bool.and_eq_true, decide_eq_true_eq] at hh
      obtain ⟨⟨hx, hk⟩, hok⟩ := hh
      match us, hlen with
      | [v, w], _ =>
        have r1 : Rep c B (some (.d (.int k)) :: some (.d (.lst xs)) :: ts) (some w :: some v :: vs) ρ' σ H' := r'
        obtain ⟨G, O, hv, hw⟩ := r1.top2
        obtain ⟨a, us, rfl, h1, k1⟩ := hv.seq O.sub (x := .lst xs) rfl
        have hwe : w = .int k := by cases hw; rfl
        have hln : us.length = xs.length := k1.length
        refine ⟨a, us, k.toNat, by rw [hwe, Int.toNat_of_nonneg hk], h1, by rw [hln]; exact hok, fun pp hp => ?_⟩
        rw [hln]
        have r2 : Rep c B (some (.d (.tup xs)) :: ts) (some (.ref pp) :: vs) ρ' σ (upd H' pp (.tup us)) := by
          have r3 := O.new hp rfl fun G' m e' => .tup (.inl (.inl e')) (k1.mono m) fun z => by
            rw [int_arcy hx] at z
            cases z
          obtain ⟨G3, o1, o2, k3, g1, g2⟩ := r3
          cases g1 with
          | d a1 g1 =>
          cases g1 with
          | d a2 g1 =>
          cases g1 with
          | d a3 g1 => exact ⟨G3, o1, o2, k3, .d a1 g1, g2⟩
        exact p _ [.tup xs] [.ref pp] _ rfl r2 (walk_comb hx rfl)
    · exact p.elim
  · exact p.elim
end
section
variable {X : Cx} {c : Cfg} {W : WX} {a : Expr} {es : List Expr} {fA : M (List D)} {tA : TA} {pos p np : Pos} {nm : Str}
theorem i_comb (hm : X.mg "combinations" = some (.type "itertools.combinations")) (h : QA X c W (a :: es) tA fA) (hg : Gl X "combinations" := by rfl) (hK : X.K = c.K := by rfl) (hs : starEach (a :: es) X.env = (false, eval a X.env) :: starEach es X.env := by rfl)
    (hpl : ((backTo pos (starEach es X.env)).any fun x => x.fst) = false := by rfl) : QI X c W (.Name nm np) (.Call (.Name "combinations" p) (a :: es) [] pos) (iCombT c.K tA) (iComb fA) := by
  obtain ⟨h1, h2⟩ := h
  exact ⟨hK ▸ pi_comb hg hm h1 hs hpl, di_comb h2⟩
end
end Fx
/-! sorted(set(x)) of a list of ints -/
namespace Fx
open PySem PySem.Spec PyProof.Rows L2
section
variable {P : Program} {w : World} {A : Around} {E : Value → Shared → Prop} {s : Shared}
/-- a set without members, as set() makes it -/
abbrev set0 (w : World) : Obj := { cls := .type "set", dict := none, data := .set #[] 0 (.fresh 0 0 (!w.params.followText "set-order")) }
/-- what is left of the heap, and the set of ns in it -/
def SetMade (w : World) (s : Shared) (ns : List Int) (h' : Heap) (c : Nat) : Prop :=
  SetR w h' s.heap.objs.size (fun j => decide (j ∈ ns)) c ∧ c ≤ ns.length ∧ ∀ b o, s.heap.get? b = some o → h'.get? b = some o
set_option maxHeartbeats 3200000 in
theorem call_set_lst {l : Addr} {vs : Array Value} (ns : List Int) {Q : Value → Shared → Prop} (hh : A.handled = none) (hl : s.heap.IsList l vs) (hi : IntsAre vs.toList ns) (hb : ns.length + 1 < scanBound)
    (q : ∀ (h' : Heap) (tk c : Nat), SetMade w s ns h' c → Q (.ref s.heap.objs.size) { s with heap := h', toks := tk }) : wpAny (model P w) A (call (.type "set") [.ref l]) Q E s := by
  have n : vs.size = ns.length := by
    rw [← IntsAre.length hi, Array.length_toList]
  obtain ⟨_, _, hmro⟩ := F.called_set.mro
  have hm := F.called_set.made
  have hs := F.called_set.sub
  have hn := F.called_set.notType
  have hc := F.called_set.canCreate
  have ht := F.typeCall_set_1 (.ref l)
  apply wpAny_call
  apply codeAny_of_tree
  show wpAny _ _ (callAny (.type "set") _) _ _ _
  apply wpAny_pure
  refine ⟨Code.quiet_builtin _ (by decide +kernel), codeAny_builtin F.entry_type_call ?_⟩
  rw [Around.under_plain (weight_type_call_type "set" [Value.ref l] []) rfl]
  repeat (any_goals (first | wp_step | assumption))
  let h1 := s.heap.push (set0 w)
  refine codeAny_mono (code_set_led1 (Value.ref l) (E := E) (Q₁ := fun x s1 => x = .ref s.heap.objs.size ∧ s1 = { s with heap := h1 }) ⟨rfl, rfl⟩) fun r s1 hr => ?_
  rcases r with _ | fl
  · exact hr
  cases fl with
  | ret x =>
    obtain ⟨e1, e2⟩ := hr
    subst e1 e2
    have g1 : h1.get? s.heap.objs.size = some (set0 w) := Heap.get?_push_size _ rfl
    have ty : Shared.TypeIs { s with heap := h1 } (.ref s.heap.objs.size) "set" := ⟨_, g1, rfl⟩
    have k1 := F.called_set.init.lookup
    have k2 := F.called_set.init.bind (.ref s.heap.objs.size)
    repeat (any_goals (first | wp_step | assumption))
    refine codeAny_mono (codeAny_call_builtin (R := wants (fun x s2 => x = .none ∧ ∃ h' tk c, s2 = { s with heap := h', toks := tk } ∧ SetMade w s ns h' c) E) F.called_set.init.plain F.entry_set_init (check_set_init_1 ty ?_)) fun r2 s2 hr2 => ?_
    · obtain ⟨⟨cls, dct, dat, sl⟩, ho, e3, m, e4⟩ := hl
      simp only at e3 e4
      subst e3 e4
      have ho1 : h1.get? l = some { cls := .type "list", dict := dct, data := .seq vs m, slots := sl } := Heap.get?_push_of_some _ ho
      have n1 := F.sub_list_set
      have n2 := F.sub_list_frozenset
      have n3 : (Value.type "list" == Value.type "dict") = false := by decide
      have il : h1.IsList l vs := ⟨_, ho1, rfl, m, rfl⟩
      have lt : l < s.heap.objs.size := Heap.lt_size ho
      have sz : h1.objs.size = s.heap.objs.size + 1 := Heap.size_push ..
      unfold Builtin.«set.__init__» noKeywords Builtin.Frozenset.updateFrom
      generalize epi : pyIter = pi
      wp_walk
      subst epi
      apply wpAny_pyIter_list il
      apply wpAny_bind
      apply wpAny_runValue
      have far : l ≠ h1.objs.size := fun z => Nat.ne_of_lt (Nat.lt_succ_of_lt lt) (z.trans sz)
      have off : s.heap.objs.size ∉ [h1.objs.size, l] := fun z => by
        rcases List.mem_cons.mp z with z | z
        · exact Nat.ne_of_lt (Nat.lt_succ_self _) (z.trans sz)
        · exact Nat.ne_of_gt lt (List.mem_singleton.mp z)
      refine set_update_ints ((Walks.list (by simp [hh] : A.in1.in1.in1.handled = none) _ l far vs).toS) s.heap.objs.size off ns n hb (fun i v hv => ?_) (vs.size - 0) 0 _ (by omega) (Nat.zero_le _) ⟨⟨_, Heap.get?_push_size _ rfl, rfl, rfl⟩, il.push _⟩ ⟨0, Nat.le_refl 0, setR_new_at (Heap.get?_push_of_some _ g1)⟩ ?_
      · have hlt : i < ns.length := by rw [← n]; exact (Array.getElem?_eq_some_iff.mp hv).1
        obtain ⟨t, e⟩ := IntsAre.int_at hi i v (by rw [Array.getElem?_toList]; exact hv)
        rw [List.getD_eq_getElem?_getD, List.getElem?_eq_getElem hlt] at e
        exact ⟨_, t, List.getElem?_eq_getElem hlt, e⟩
      · rintro ⟨h', g2, d2, t2, o2⟩ c mv hc' hS
        have a1 : g2 = s.gens := mv.gens
        have a2 : d2 = s.drawn := mv.drawn
        have a3 : o2 = s.os := mv.os
        subst a1 a2 a3
        apply wpAny_pure
        show wpAny _ _ (ret Value.none) _ _ _
        refine wpAny_pure ⟨rfl, h', t2, c, rfl, hS, n ▸ hc', fun b o e => ?_⟩
        have lt2 : b < s.heap.objs.size := Heap.lt_size e
        refine mv.heap b o (fun z => ?_) (Heap.get?_push_of_some _ (Heap.get?_push_of_some _ e))
        rcases List.mem_cons.mp z with z | z
        · exact Nat.ne_of_lt lt2 z
        · exact Nat.ne_of_lt (Nat.lt_succ_of_lt lt2) ((List.mem_singleton.mp z).trans sz)
    · rcases r2 with _ | fl2
      · exact hr2
      cases fl2 with
      | ret x =>
        obtain ⟨e1, h', tk, c, e2, mk⟩ := hr2
        subst e1 e2
        repeat (any_goals (first | wp_step | assumption))
        exact q _ _ _ mk
      | _ => exact hr2.elim
  | _ => exact hr.elim
end
end Fx
/-! sorted(set(x)) of a list of ints: the rule, on data -/
namespace Fx
open PySem PySem.Spec PyProof.Rows L2
section
variable {X : Cx}
def rSetL (K : PySem.W.Frag) (w : World) : List V → Hp → VK → Prop := fun xs H Q => ∃ (p : Addr) (ns : List Int), xs = [.ref p] ∧ SqL K H p (ns.map V.int) ∧ ns.length ≤ 1000 ∧
  ∀ a c, H a = none → c ≤ ns.length → Rw.Card ns c → Q (.ref a) (upd H a (SetO w a (fun j => decide (j ∈ ns)) c))
theorem cr_setL (hc : X.calm = true) : CallR X (.type "set") (rSetL X.K X.w) := by
  rintro pins s σ H xs us Q I r ⟨p, ns, rfl, hS, hn, q⟩
  obtain ⟨u, rfl, ru⟩ := vals1 r
  cases ru
  obtain ⟨its, rv, pl, _⟩ := I.list hS
  refine call_set_lst ns (I.ok.hd hc) pl.isList (ints_of_vals rv) (by unfold scanBound; omega) fun h' tk c ⟨R, le, kp⟩ => ?_
  have cd : Rw.Card ns c := by
    obtain ⟨o, es, ep, t, _, _, _, _, nd, mem, _, _, sz, _⟩ := R
    exact ⟨es.toList.map keyOf, nd, fun j => (mem j).symm.trans (by rw [decide_eq_true_eq]), by rw [List.length_map, Array.length_toList, sz]⟩
  exact ⟨.ref s.heap.objs.size, _, I.laid (t' := tk) kp (Nat.le_refl _) (setO_new R), rfl, q _ c (I.hok.fresh (Nat.le_refl _)) le cd⟩
end
def gSetSL (x : D) : Option S := match x with
  | .lst ds => (intsD ds).bind fun ns => if ns.length < 64 then some (.o none (.lst ((Rw.uniq ns).map D.int))) else none
  | _ => none
def tSetL (K : PySem.W.Frag) (w : World) (te : TE) : TE := tCB (rSetL K w) (tCons te tNil)
theorem den_setSL {c : Cfg} {W : WX} {w : World} {te : TE} {fe : M S} (h : Den c W te fe) : Den c W (tCB (rSortedSet w) (tCons (tSetL c.K w te) tNil)) (mUn gSetSL fe) := fun B ts vs ρ σ H Q r q => by
  unfold mUn at q
  rw [post_then] at q
  refine h.dv r (q.imp1 fun x ρ1 q v H1 r1 => ?_)
  cases x with
  | lst ds =>
    cases en : intsD ds with
    | none =>
      have e : gSetSL (.lst ds) = none := by
        show (intsD ds).bind _ = none
        rw [en]
        rfl
      rw [e] at q
      exact q.elim
    | some ns =>
      have e : gSetSL (.lst ds) = if ns.length < 64 then some (.o none (.lst ((Rw.uniq ns).map D.int))) else none := by
        show (intsD ds).bind _ = _
        rw [en]
        rfl
      rw [e] at q
      by_cases hn : ns.length < 64
      · rw [if_pos hn] at q
        obtain ⟨G, O, hv⟩ := r1.one
        obtain ⟨a, us, rfl, ha, ka⟩ := hv.lstE
        rw [RpAll.ints en ka] at ha
        refine ⟨a, ns, rfl, SqL.of (O.sub _ _ ha), by omega, fun p n hp hl hc => ?_⟩
        obtain ⟨G2, O2, _⟩ := (r1.foreign (o := SetO w p (fun j => decide (j ∈ ns)) n) hp).one
        refine ⟨p, _, n, rfl, upd_same, by omega, fun ns' p2 pw hm _ hp2 => ?_⟩
        have e2 : ns' = Rw.uniq ns := Rw.srt_inj pw (Rw.srt_uniq ns).1 fun k => by rw [hm k, (Rw.srt_uniq ns).2 k, decide_eq_true_eq]
        subst e2
        exact q _ _ (O2.newO hp2 fun H' e => ⟨_, e, RpAll.ofInts _⟩)
      · rw [if_neg hn] at q
        exact q.elim
  | _ => exact q.elim
section
variable {X : Cx} {c : Cfg} {W : WX} {e : Expr} {te : TE} {fe : M S} {p p2 p3 pos : Pos}
theorem q_setSL (hm1 : X.mg "sorted" = none) (hm2 : X.mg "set" = none) (he : QE X c W e te fe) (hc : X.calm = true := by rfl) (hg1 : Gl X "sorted" := by rfl) (hg2 : Gl X "set" := by rfl)
    (hs : starEach [.Call (.Name "set" p2) [e] [] p3] X.env = (false, eval (.Call (.Name "set" p2) [e] [] p3) X.env) :: starEach [] X.env := by rfl) (hpl : (backTo pos (starEach [] X.env)).any (·.1) = false := by rfl)
    (hs2 : starEach [e] X.env = (false, eval e X.env) :: starEach [] X.env := by rfl) (hpl2 : (backTo p3 (starEach [] X.env)).any (·.1) = false := by rfl) (hK : X.K = c.K := by rfl) :
    QE X c W (.Call (.Name "sorted" p) [.Call (.Name "set" p2) [e] [] p3] [] pos) (tCB (rSortedSet X.w) (tCons (tSetL c.K X.w te) tNil)) (mUn gSetSL fe) :=
  ⟨pe_callB (cr_sortedSet hc) hg1 hm1 (by decide +kernel) (pa_cons (pe_callTy (hK ▸ cr_setL hc) hg2 hm2 (by decide +kernel) (pa_cons he.1 pa_nil hs2) (by decide) (by decide) hs2 hpl2) pa_nil hs) (by decide) (by decide) hs hpl, den_setSL he.2⟩
end
end Fx
/-! for i, x in enumerate(t, start=k), t a tuple, k written -/
namespace Fx
open PySem PySem.Spec PyProof.Rows L2
section
variable {M : Model} {A : Around} {E : Value → Shared → Prop} {s : Shared} {env : Env}
/-- T(.., name=e), T a built-in type -/
theorem callType_kw {pos : Pos} {T : String} {e : Expr} {rest : List Expr} {kws : List Keyword} {Q : Value → Shared → Prop}
    (h : wpAny M A (spliced (backTo pos (starEach (e :: rest) env))) (fun vs s1 => wpAny M A (evalAll ((backToKw pos (keywordEach kws env)).map (·.2))) (fun ws s2 => wpAny M A (call (.type T) vs (((backToKw pos (keywordEach kws env)).filterMap (·.1)).zip ws)) Q E s2) E s1) E s)
    (he : backTo pos (starEach (e :: rest) env) = (false, eval e env) :: backTo pos (starEach rest env)) (hp : (backTo pos (starEach (e :: rest) env)).any (·.1) = false) (ha : (backToKw pos (keywordEach kws env)).all (·.1.isSome) = true) (hn : (backToKw pos (keywordEach kws env)).any (·.1.isNone) = false) :
    wpAny M A (callWith pos (.type T) [] (backTo pos (starEach (e :: rest) env)) (backToKw pos (keywordEach kws env))) Q E s := by
  unfold callWith
  apply wpAny_bind
  apply wpAny_holding
  have k : wpAny M A (evalArgs (.type T) true (backTo pos (starEach (e :: rest) env)) (backToKw pos (keywordEach kws env))) (fun x s1 => wpAny M A (call (.type T) x.pos x.kw) Q E s1) E s := by
    rw [he] at h ⊢
    exact evalArgs_kwB ha h
  refine wpAny_mono k (fun x s1 h1 => ?_) fun _ _ z => z
  apply wpAny_bind
  apply wpAny_standAt
  simp only [hp, hn, Bool.or_false]
  apply wpAny_bind
  apply wpAny_pure
  apply wpAny_bind
  refine wpAny_mono h1 (fun r s2 h2 => ?_) fun _ _ z => z
  exact wpAny_bind (wpAny_holding (wpAny_point (wpAny_pure h2)))
end
/-! ### on data: a start from 0 on -/
end Fx
/-! for i, (x, y) in enumerate(zip(t, u), start=k): the model's steps -/
namespace Fx
open PySem PySem.Spec PyProof.Rows L2 RZ
open Builtin.SmallTypes (ownedTupleIsFree ownedTupleHandOut nextOf)
section
variable {prog : Program} {w : World} {A : Around} {E : Value → Shared → Prop} {s : Shared} {z e TI TO i1 i2 l1 l2 : Addr} {k1 k2 : Nat} {xs ys : Array Value} {x y v old : Value} {f : Bool} {c : Int}
theorem after_zip {Q : Value → Shared → Prop} (D : ZipApart z TI TO i1 i2 l1 l2) (g : ZAt s.heap z TI TO v f) (hv : Old v) (t1 : IsPair s.heap TI (.ref i1) (.ref i2)) (t2 : ∃ a b, IsPair s.heap TO a b)
    (j1 : s.heap.IsTupleIter i1 l1 k1) (j2 : s.heap.IsTupleIter i2 l2 k2) (c1 : s.heap.IsTuple l1 xs) (c2 : s.heap.IsTuple l2 ys) (ex : xs[k1]? = some x) (ey : ys[k2]? = some y)
    (q : ∀ h' v' f', Old v' → ZAt h' z TI TO v' f' → (∃ a b, IsPair h' TO a b) → h'.IsTupleIter i1 l1 (k1 + 1) → h'.IsTupleIter i2 l2 (k2 + 1) → IsPair h' s.heap.objs.size x y → h'.objs.size = s.heap.objs.size + 1 →
      (∀ c o, c ≠ z → c ≠ TO → c ≠ i1 → c ≠ i2 → s.heap.get? c = some o → h'.get? c = some o) → Q (.ref s.heap.objs.size) { s with heap := h' }) : wpAny (model prog w) A (nextOf (Value.ref z)) Q E s := by
  have ty : s.TypeIs (Value.ref z) "zip" := ⟨_, g, rfl⟩
  unfold nextOf
  apply wpAny_bind
  refine wpAny_callSpecial?_slot (name := Str.ofString "__next__") ty F.slot_zip_next ?_
  refine wpAny_call_entry F.slot_zip_next ty F.entry_zip_next ?_ (F.args_zip_next_1 _)
  exact zip_turn D g hv t1 t2 j1 j2 c1 c2 ex ey fun h' v' f' b1 b2 b3 b4 b5 b6 b7 b8 => wpAny_pure (q h' v' f' b1 b2 b3 b4 b5 b6 b7 b8)
theorem zip_ends {Q : Value → Shared → Prop} (hh : A.handled = none) (D : ZipApart z TI TO i1 i2 l1 l2) (g : ZAt s.heap z TI TO v f) (hv : Old v) (t1 : IsPair s.heap TI (.ref i1) (.ref i2)) (t2 : ∃ a b, IsPair s.heap TO a b)
    (j1 : s.heap.IsTupleIter i1 l1 k1) (j2 : s.heap.IsTupleIter i2 l2 k2) (c1 : s.heap.IsTuple l1 xs) (c2 : s.heap.IsTuple l2 ys) (ee : xs[k1]? = none ∨ ys[k2]? = none)
    (q : ∀ h' e, (∀ c o, c ≠ z → c ≠ TO → c ≠ i1 → c ≠ i2 → s.heap.get? c = some o → h'.get? c = some o) → (∃ o, h'.get? e = some o ∧ o.cls = .type "StopIteration") → E (.ref e) { s with heap := h' }) : wpAny (model prog w) A (nextOf (Value.ref z)) Q E s := by
  have ty : s.TypeIs (Value.ref z) "zip" := ⟨_, g, rfl⟩
  unfold nextOf
  apply wpAny_bind
  refine wpAny_callSpecial?_slot (name := Str.ofString "__next__") ty F.slot_zip_next ?_
  refine wpAny_call_entry F.slot_zip_next ty F.entry_zip_next ?_ (F.args_zip_next_1 _)
  exact zip_over hh D g hv t1 t2 j1 j2 c1 c2 ee q
/-- what enumerate does with an item that has come: its object at e, nothing else is touched -/
theorem enum_hands {Q : Value → Shared → Prop} {item : Value} {it : Addr} (g : IsEnum s.heap e it c old)
    (q : ∀ h' tk, IsEnumOut h' e it (c + 1) item s.heap.objs.size → h'.get? s.heap.objs.size = some { cls := .type "tuple", data := .seq #[.int c tk, item] } → h'.objs.size = s.heap.objs.size + 1 → (∀ b o, b ≠ e → s.heap.get? b = some o → h'.get? b = some o) → Q (.ref s.heap.objs.size) { s with heap := h', toks := tk + 1 }) :
    wpAny (model prog w) A (do
      let .int i _ ← field (.ref e) 3 | unsupported "internal:enumerate.__next__"
      let given ← field (.ref e) 4
      let index ← if given == .none then mkInt i else pure given
      setField (.ref e) 3 (rawInt (i + 1)); setField (.ref e) 4 .none
      let result ← newTuple [index, item]
      if ← ownedTupleIsFree (.ref e) then
        rule "enumerate.__next__.owned-tuple-again"
        let old ← field (.ref e) 5
        setField (.ref e) 5 item
        ownedTupleHandOut (.ref e) result
        letGo [old] [result]
      ret result) (fun fin s' => ∃ u, fin = .done (.ret u) ∧ Q u s') E s := by
  obtain ⟨hp, gg, dd, tk, os⟩ := s
  have g : IsEnum hp e it c old := g
  apply wpAny_bind
  refine wpAny_field g rfl (x := rawInt c) rfl ?_
  show wpAny _ _ (field (Value.ref e) 4 >>= _) _ _ _
  apply wpAny_bind
  refine wpAny_field g rfl (x := Value.none) rfl ?_
  show wpAny _ _ (mkInt c >>= _) _ _ _
  apply wpAny_bind
  apply wpAny_mkInt
  apply wpAny_bind
  refine wpAny_setField_rec g (by simp) fun h1 g1 s1 => ?_
  have g1 : IsEnum h1 e it (c + 1) old := g1
  apply wpAny_bind
  refine wpAny_setField_rec g1 (by simp) fun h2 g2 s2 => ?_
  have g2 : IsEnum h2 e it (c + 1) old := g2
  apply wpAny_bind
  refine wpAny_newTuple ?_
  have n2 : h2.objs.size = hp.objs.size := s2.1.trans s1.1
  have g3 : IsEnum (h2.push { cls := .type "tuple", data := .seq #[.int c tk, item] }) e it (c + 1) old := Heap.get?_push_of_some _ g2
  have p3 : (h2.push { cls := .type "tuple", data := .seq #[.int c tk, item] }).get? hp.objs.size = some { cls := .type "tuple", data := .seq #[.int c tk, item] } := by
    rw [← n2]
    exact Heap.get?_push_size _ rfl
  have n3 : (h2.push { cls := .type "tuple", data := .seq #[.int c tk, item] }).objs.size = hp.objs.size + 1 := by rw [Heap.size_push, n2]
  have k3 : ∀ b o, b ≠ e → hp.get? b = some o → (h2.push { cls := .type "tuple", data := .seq #[.int c tk, item] }).get? b = some o := fun b o nb eb => Heap.get?_push_of_some _ (s2.extBut b o nb (s1.extBut b o nb eb))
  have el : hp.objs.size ≠ e := Nat.ne_of_gt (Heap.lt_size g)
  revert g3 p3 n3 k3
  generalize h2.push { cls := .type "tuple", data := .seq #[.int c tk, item] } = h3
  intro g3 p3 n3 k3
  show wpAny _ _ (ownedTupleIsFree (Value.ref e) >>= _) _ _ _
  rw [n2]
  apply wpAny_bind
  unfold ownedTupleIsFree
  apply wpAny_bind
  refine wpAny_field g3 rfl (x := Value.none) rfl (wpAny_pure ?_)
  simp only [if_true]
  apply wpAny_bind
  apply wpAny_rule
  apply wpAny_bind
  refine wpAny_field g3 rfl (x := old) rfl ?_
  apply wpAny_bind
  refine wpAny_setField_rec g3 (by simp) fun h4 g4 s4 => ?_
  have g4 : IsEnum h4 e it (c + 1) item := g4
  apply wpAny_bind
  unfold ownedTupleHandOut
  apply wpAny_bind
  refine wpAny_setField_rec g4 (by simp) fun h5 g5 s5 => ?_
  have g5 : IsEnumOut h5 e it (c + 1) item hp.objs.size := g5
  refine wpAny_setField_rec g5 (by simp) fun h6 g6 s6 => ?_
  have g6 : IsEnumOut h6 e it (c + 1) item hp.objs.size := g6
  apply wpAny_bind
  apply wpAny_letGo
  have all : ∀ b o, b ≠ e → h3.get? b = some o → h6.get? b = some o := fun b o nb eb => s6.extBut b o nb (s5.extBut b o nb (s4.extBut b o nb eb))
  refine wpAny_pure ⟨_, rfl, q h6 tk g6 (all _ _ el p3) ?_ fun b o nb eb => all b o nb (k3 b o nb eb)⟩
  rw [s6.1, s5.1, s4.1]
  exact n3
end
end Fx
/-! for i, (x, y) in enumerate(zip(t, u), start=k): the walk -/
namespace Fx
open PySem PySem.Spec PyProof.Rows L2 RZ
open Builtin.SmallTypes (ownedTupleIsFree ownedTupleHandOut nextOf)
section
variable {prog : Program} {w : World} {A : Around} {E : Value → Shared → Prop} {s : Shared} {z e TI TO i1 i2 l1 l2 : Addr} {k1 k2 : Nat} {xs ys : Array Value} {x y v old : Value} {f : Bool} {c : Int}
theorem iter_zip {Q : Value → Shared → Prop} (g : ZAt s.heap z TI TO v f) (h : Q (.ref z) s) : wpAny (model prog w) A (pyIter (.ref z)) Q E s := by
  have ty : s.TypeIs (Value.ref z) "zip" := ⟨_, g, rfl⟩
  refine wpAny_pyIter_slot ty F.slot_zip_iter ?_
  refine wpAny_call_entry F.slot_zip_iter ty F.entry_zip_iter ?_ (F.args_zip_iter_1 _)
  show wpAny _ _ (ret (Value.ref z)) _ _ s
  exact wpAny_pure ⟨_, rfl, "zip", _, ty, F.slot_zip_next.lookup, h⟩
/-- the objects of such a walk are apart -/
structure EzApart (e z TI TO i1 i2 l1 l2 : Addr) : Prop where
  D : ZipApart z TI TO i1 i2 l1 l2
  ez : e ≠ z
  eTI : e ≠ TI
  eTO : e ≠ TO
  e1 : e ≠ i1
  e2 : e ≠ i2
  el1 : e ≠ l1
  el2 : e ≠ l2
theorem enz_item {Q : Option Value → Shared → Prop} (S : EzApart e z TI TO i1 i2 l1 l2) (he : IsEnum s.heap e z c old) (g : ZAt s.heap z TI TO v f) (hv : Old v) (t1 : IsPair s.heap TI (.ref i1) (.ref i2)) (t2 : ∃ a b, IsPair s.heap TO a b)
    (j1 : s.heap.IsTupleIter i1 l1 k1) (j2 : s.heap.IsTupleIter i2 l2 k2) (c1 : s.heap.IsTuple l1 xs) (c2 : s.heap.IsTuple l2 ys) (ex : xs[k1]? = some x) (ey : ys[k2]? = some y)
    (q : ∀ h1 h2 tk, IsPair h1 s.heap.objs.size x y → h1.objs.size = s.heap.objs.size + 1 → (∀ c o, c ≠ z → c ≠ TO → c ≠ i1 → c ≠ i2 → s.heap.get? c = some o → h1.get? c = some o) →
      IsEnumOut h2 e z (c + 1) (.ref s.heap.objs.size) (s.heap.objs.size + 1) → h2.get? (s.heap.objs.size + 1) = some { cls := .type "tuple", data := .seq #[.int c tk, .ref s.heap.objs.size] } → (∀ b o, b ≠ e → h1.get? b = some o → h2.get? b = some o) →
      (∀ h3, IsEnum h3 e z (c + 1) (.ref s.heap.objs.size) → (∀ b, b ≠ e → h3.get? b = h2.get? b) → (∃ v f, Old v ∧ ZAt h3 z TI TO v f) ∧ (∃ a b, IsPair h3 TO a b) ∧ h3.IsTupleIter i1 l1 (k1 + 1) ∧ h3.IsTupleIter i2 l2 (k2 + 1)) →
      Q (some (.ref (s.heap.objs.size + 1))) { s with heap := h2, toks := tk + 1 }) : wpAny (model prog w) A (pyNext (.ref e)) Q E s := by
  have ty : s.TypeIs (Value.ref e) "enumerate" := ⟨_, he, rfl⟩
  unfold pyNext
  apply wpAny_bind
  apply wpAny_attempt
  refine wpAny_callSpecial?_slot (name := Str.ofString "__next__") ty F.slot_enumerate_next ?_
  refine wpAny_call_entry F.slot_enumerate_next ty F.entry_enumerate_next ?_ (F.args_enumerate_next_1 _)
  show wpAny _ _ (field (Value.ref e) 2 >>= _) _ _ _
  apply wpAny_bind
  refine wpAny_field he rfl (x := Value.ref z) rfl ?_
  apply wpAny_bind
  refine after_zip S.D g hv t1 t2 j1 j2 c1 c2 ex ey fun h1 v1 f1 hv1 g1 t21 j11 j21 new n1 kp => ?_
  have he1 : IsEnum h1 e z c old := kp _ _ S.ez S.eTO S.e1 S.e2 he
  refine enum_hands (s := { s with heap := h1 }) (item := .ref s.heap.objs.size) he1 fun h2 tk out p2 n2 k2' => ?_
  refine wpAny_pure ?_
  have n1' : h1.objs.size = s.heap.objs.size + 1 := n1
  have out : IsEnumOut h2 e z (c + 1) (.ref s.heap.objs.size) (s.heap.objs.size + 1) := by rw [← n1']; exact out
  have p2 : h2.get? (s.heap.objs.size + 1) = some { cls := .type "tuple", data := .seq #[.int c tk, .ref s.heap.objs.size] } := by rw [← n1']; exact p2
  have := q h1 h2 tk new n1' kp out p2 k2' ?_
  · rw [← n1'] at this
    exact this
  · intro h3 _ sb
    have up : ∀ b o, b ≠ e → h1.get? b = some o → h3.get? b = some o := fun b o nb eb => (sb b nb).trans (k2' b o nb eb)
    obtain ⟨a, b, t21⟩ := t21
    exact ⟨⟨v1, f1, hv1, up _ _ (Ne.symm S.ez) g1⟩, ⟨a, b, up _ _ (Ne.symm S.eTO) t21⟩, j11.at fun o eo => up _ o (Ne.symm S.e1) eo, j21.at fun o eo => up _ o (Ne.symm S.e2) eo⟩
theorem enz_end {Q : Option Value → Shared → Prop} (hh : A.handled = none) (S : EzApart e z TI TO i1 i2 l1 l2) (he : IsEnum s.heap e z c old) (g : ZAt s.heap z TI TO v f) (hv : Old v) (t1 : IsPair s.heap TI (.ref i1) (.ref i2)) (t2 : ∃ a b, IsPair s.heap TO a b)
    (j1 : s.heap.IsTupleIter i1 l1 k1) (j2 : s.heap.IsTupleIter i2 l2 k2) (c1 : s.heap.IsTuple l1 xs) (c2 : s.heap.IsTuple l2 ys) (ee : xs[k1]? = none ∨ ys[k2]? = none)
    (q : ∀ h', (∀ c o, c ≠ z → c ≠ TO → c ≠ i1 → c ≠ i2 → s.heap.get? c = some o → h'.get? c = some o) → Q none { s with heap := h' }) : wpAny (model prog w) A (pyNext (.ref e)) Q E s := by
  have ty : s.TypeIs (Value.ref e) "enumerate" := ⟨_, he, rfl⟩
  unfold pyNext
  apply wpAny_bind
  apply wpAny_attempt
  refine wpAny_callSpecial?_slot (name := Str.ofString "__next__") ty F.slot_enumerate_next ?_
  refine wpAny_call_entry F.slot_enumerate_next ty F.entry_enumerate_next ?_ (F.args_enumerate_next_1 _)
  show wpAny _ _ (field (Value.ref e) 2 >>= _) _ _ _
  apply wpAny_bind
  refine wpAny_field he rfl (x := Value.ref z) rfl ?_
  apply wpAny_bind
  refine zip_ends (by first | exact hh | assumption) S.D g hv t1 t2 j1 j2 c1 c2 ee fun h' er kp ⟨o, ho, hc⟩ => ?_
  apply wpAny_bind
  refine wpAny_isInstance (T := "StopIteration") (b := true) ⟨o, ho, hc⟩ isSubtype_stop ?_
  exact wpAny_pure (q _ kp)
/-- enumerate(z, start=k), z a zip -/
theorem meets_enz (z TI TO : Addr) (v : Value) (f : Bool) (k : Int) (t : Tok) (fit : Builtin.SmallTypes.fitsIndex k = true) :
    Meets (Builtin.«enumerate.__new__» ⟨[.type "enumerate", .ref z], [(Str.ofString "start", .int k t)]⟩) (fun _ R s => ZAt s.heap z TI TO v f ∧
      R (.ok (.ret (.ref s.heap.objs.size))) { s with heap := s.heap.push { cls := .type "enumerate", data := .fields #[.none, .bool false, .ref z, rawInt k, .none, .none] } }) := by
  apply Meets.of_wp
  rintro prog w A R s ⟨g, q⟩
  obtain ⟨hp, gg, dd, tk, os⟩ := s
  have sub := sub_enumerate
  have nofit : (!Builtin.SmallTypes.fitsIndex k) = false := by rw [fit]; rfl
  have it : ∀ {A' : Around} {E : Value → Shared → Prop} {Q : Value → Shared → Prop}, Q (.ref z) ⟨hp, gg, dd, tk, os⟩ → wpAny (model prog w) A' (pyIter (.ref z)) Q E ⟨hp, gg, dd, tk, os⟩ := fun h => iter_zip g h
  have w1 : (Str.ofString "start" == ("start" : Str)) = true ∧ (Str.ofString "start" != ("start" : Str)) = false := by decide +kernel
  have w2 : (Str.ofString "start" != ("iterable" : Str)) = true ∧ (("start" : Str) == Str.ofString "start") = true := by decide +kernel
  have w3 : (("iterable" : Str) == Str.ofString "start") = false := by decide +kernel
  obtain ⟨w4, w5⟩ := w1
  obtain ⟨w6, w7⟩ := w2
  wp_walk using it
  refine wpAny_stack_any fun st => wpAny_pure ?_
  split
  · rename_i cc _ _ _ _ _
    cases (cc == Value.type "enumerate")
    all_goals
      wp_walk using it
      exact ⟨_, rfl, q⟩
  all_goals
    wp_walk using it
    exact ⟨_, rfl, q⟩
end
end Fx
/-! for i, (x, y) in enumerate(zip(t, u), start=k): the rule -/
namespace Fx
open PySem PySem.Spec PyProof.Rows L2 RZ
/-- the tuples at a and b, their items in new pairs, each with its place from k on in a new pair -/
def ItEZ (K : PySem.W.Frag) (k : Int) (a b : Addr) : It where
  go i H := ∃ (xs ys : List V) (x y : V), SqT K H a xs ∧ SqT K H b ys ∧ xs[i]? = some x ∧ ys[i]? = some y
  yld i H v H' := ∃ T U x y, v = .ref T ∧ U ≠ T ∧ H U = none ∧ H T = none ∧ H' = upd (upd H U (.tup [x, y])) T (.tup [.int (k + (i : Nat)), .ref U]) ∧ (∀ xs, SqT K H a xs → xs[i]? = some x) ∧ ∀ ys, SqT K H b ys → ys[i]? = some y
  stop i H := ∃ xs ys : List V, SqT K H a xs ∧ SqT K H b ys ∧ (xs.length ≤ i ∨ ys.length ≤ i)
/-- the state of such a walk -/
def EzSt (k : Int) (a b e z TI TO i1 i2 : Addr) (i : Nat) (h : Heap) : Prop := (∃ old, IsEnum h e z (k + (i : Nat)) old) ∧ ZSt a b z TI TO i1 i2 i h
theorem in6 {c e z TI TO i1 i2 : Addr} (h : c ∈ [e, z, TI, TO, i1, i2]) : c = e ∨ c ∈ [z, TI, TO, i1, i2] := by simpa using h
theorem turn_ez {P : Program} {w : World} {K : PySem.W.Frag} {elts : List Expr} {kk : Nat} {tpos : Pos} {k : Int} {a b e z TI TO i1 i2 : Addr} (S : EzApart e z TI TO i1 i2 a b) : Turn P w K (.Tuple elts kk tpos) (ItEZ K k a b) [e, z, TI, TO, i1, i2] e (EzSt k a b e z TI TO i1 i2) where
  mem := List.mem_cons_self
  obj := by
    rintro i h ⟨⟨old, he⟩, st⟩ c hc
    rcases in6 hc with rfl | hc
    · exact ⟨_, he, fun v q => nomatch q⟩
    · exact (turn_zipN (P := P) (w := w) (K := K) (nm := Str.ofString "x") (np := tpos) S.D).obj i h st c hc
  keep := by
    rintro i h h' ⟨⟨old, he⟩, st⟩ kp
    exact ⟨⟨old, kp e (by simp) _ he⟩, (turn_zipN (P := P) (w := w) (K := K) (nm := Str.ofString "x") (np := tpos) S.D).keep i h h' st fun b hb => kp b (List.mem_cons_of_mem _ hb)⟩
  item := by
    rintro X rfl rfl rfl hc i pins s σ H E I hf ⟨⟨old, he⟩, ⟨v, f, hv, g⟩, t1, t2, j1, j2⟩ ⟨xs, ys, x, y, sx, sy, ex, ey⟩
    obtain ⟨us, rx, px, _⟩ := I.tuple sx
    obtain ⟨ws, ry, py, _⟩ := I.tuple sy
    obtain ⟨u, eu, ru⟩ := rx.get ex
    obtain ⟨u', eu', ru'⟩ := ry.get ey
    refine enz_item S he g hv t1 t2 j1 j2 (show s.heap.IsTuple a us.toArray from px) (show s.heap.IsTuple b ws.toArray from py) (x := u) (y := u') (by simpa using eu) (by simpa using eu') fun h1 h2 tk new n1 kp1 out p2 kp2 back => ⟨_, rfl, ?_⟩
    refine wpAny_letOwnedTupleGo_enum (s := { s with heap := h2, toks := tk + 1 }) out fun h3 he3 sb => ?_
    have hel : e < s.heap.objs.size := Heap.lt_size he
    have up3 : ∀ b, b ≠ e → h3.get? b = h2.get? b := fun b nb => sb.2 b nb
    have old3 : ∀ b o, b ≠ e → h1.get? b = some o → h3.get? b = some o := fun b o nb eb => (up3 b nb).trans (kp2 b o nb eb)
    have newU : IsPair h3 s.heap.objs.size u u' := old3 _ _ (Nat.ne_of_gt hel) new
    have newT : h3.get? (s.heap.objs.size + 1) = some { cls := .type "tuple", data := .seq #[.int (k + (i : Nat)) tk, .ref s.heap.objs.size] } := (up3 _ (Nat.ne_of_gt (Nat.lt_succ_of_lt hel))).trans p2
    have sub : ∀ c ∈ [z, TI, TO, i1, i2], FpOk X pins H c := fun c hc => hf c (List.mem_cons_of_mem _ hc)
    have ok1 : ObjOk X.prog X.w (upd H s.heap.objs.size (.tup [x, y])) h1 s.heap.objs.size (.tup [x, y]) := ⟨(by decide : 2 ≤ sizeLine), [u, u'], .cons ru (.cons ru' .nil), ⟨_, new, rfl, _, rfl⟩⟩
    have I1 : Inv X pins σ (upd H s.heap.objs.size (.tup [x, y])) { s with heap := h1 } := I.turnedNew (t' := s.toks) (ch := [z, TI, TO, i1, i2]) (fun c o n eo => kp1 c o (fun q => n (by simp [q])) (fun q => n (by simp [q])) (fun q => n (by simp [q])) (fun q => n (by simp [q])) eo) sub (Nat.le_refl _) ok1
    have fe : ∀ c ∈ [e], FpOk X pins (upd H s.heap.objs.size (.tup [x, y])) c := fun c hc => by
      have hc : c = e := by simpa using hc
      obtain ⟨f0, fr⟩ := hf e List.mem_cons_self
      rw [hc]
      exact ⟨by rw [upd_ne (Nat.ne_of_lt hel)]; exact f0, fr⟩
    have ok2 : ObjOk X.prog X.w (upd (upd H s.heap.objs.size (.tup [x, y])) (s.heap.objs.size + 1) (.tup [.int (k + (i : Nat)), .ref s.heap.objs.size])) h3 (s.heap.objs.size + 1) (.tup [.int (k + (i : Nat)), .ref s.heap.objs.size]) :=
      ⟨(by decide : 2 ≤ sizeLine), [.int (k + (i : Nat)) tk, .ref s.heap.objs.size], .cons ⟨_, rfl⟩ (.cons rfl .nil), ⟨_, newT, rfl, _, rfl⟩⟩
    have I2 : Inv X pins σ (upd (upd H s.heap.objs.size (.tup [x, y])) (s.heap.objs.size + 1) (.tup [.int (k + (i : Nat)), .ref s.heap.objs.size])) { s with heap := h3, toks := tk + 1 } :=
      I1.turnedNew (ch := [e]) (fun c o n eo => old3 c o (fun q => n (by simp [q])) eo) fe (Nat.le_of_eq n1) ok2
    obtain ⟨q1, q2, q3, q4⟩ := back h3 he3 up3
    have young : ∀ c, c ∈ [e, z, TI, TO, i1, i2] → c < s.heap.objs.size := by
      obtain ⟨x0, y0, t2⟩ := t2
      obtain ⟨_, e1, _⟩ := j1
      obtain ⟨_, e2, _⟩ := j2
      intro c hc
      rcases in6 hc with rfl | hc
      · exact hel
      · rcases in5 hc with rfl | rfl | rfl | rfl | rfl
        · exact Heap.lt_size g
        · exact Heap.lt_size t1
        · exact Heap.lt_size t2
        · exact Heap.lt_size e1
        · exact Heap.lt_size e2
    have fr0 : H s.heap.objs.size = none := I.hok.fresh (Nat.le_refl _)
    have fr1 : H (s.heap.objs.size + 1) = none := I.hok.fresh (Nat.le_succ _)
    refine ⟨.ref (s.heap.objs.size + 1), _, I2, rfl, ⟨_, s.heap.objs.size, x, y, rfl, Nat.ne_of_lt (Nat.lt_succ_self _), fr0, fr1, rfl, fun l hl => ?_, fun l hl => ?_⟩, ⟨⟨.ref s.heap.objs.size, ?_⟩, q1, old3 _ _ (Ne.symm S.eTI) (kp1 _ _ S.D.TIz S.D.TITO S.D.TIi1 S.D.TIi2 t1), q2, q3, q4⟩, fun c hc => ?_⟩
    · rw [I.tuple_inj hl sx]
      exact ex
    · rw [I.tuple_inj hl sy]
      exact ey
    · rw [show k + ((i + 1 : Nat) : Int) = k + (i : Nat) + 1 by omega]
      exact he3
    · have yc : c < s.heap.objs.size := young c hc
      have y1 : c ≠ s.heap.objs.size := Nat.ne_of_lt yc
      have y2 : c ≠ s.heap.objs.size + 1 := Nat.ne_of_lt (Nat.lt_succ_of_lt yc)
      rw [upd_ne y2, upd_ne y1]
      exact (hf c hc).1
  done := by
    rintro X rfl rfl rfl hc i pins s σ H E I hf ⟨⟨old, he⟩, ⟨v, f, hv, g⟩, t1, t2, j1, j2⟩ ⟨xs, ys, sx, sy, hd⟩
    obtain ⟨us, rx, px, _⟩ := I.tuple sx
    obtain ⟨ws, ry, py, _⟩ := I.tuple sy
    have n1 := rx.length
    have n2 := ry.length
    refine enz_end (I.ok.hd hc) S he g hv t1 t2 j1 j2 (show s.heap.IsTuple a us.toArray from px) (show s.heap.IsTuple b ws.toArray from py) ?_ fun h' kp => ⟨rfl, I.turnedL (t' := s.toks) (ch := [z, TI, TO, i1, i2]) (fun c o n eo => kp c o (fun q => n (by simp [q])) (fun q => n (by simp [q])) (fun q => n (by simp [q])) (fun q => n (by simp [q])) eo) fun c hc => hf c (List.mem_cons_of_mem _ hc)⟩
    rcases hd with q | q
    · exact .inl (by simp; omega)
    · exact .inr (by simp; omega)
  self := by
    rintro A i s Q E ⟨⟨_, he⟩, _⟩ h
    exact wpAny_pyIter_enum he h
def iEnZip (K : PySem.W.Frag) (k : Int) (ta : TA) : TI := fun σ H R => ta σ H fun vs H1 => ∃ (a b : Addr) (xs ys : List V), vs = [.ref a, .ref b] ∧ SqT K H1 a xs ∧ SqT K H1 b ys ∧ R (ItEZ K k a b) H1
theorem pi_enzip {X : Cx} {e1 e2 : Expr} {ta : TA} {p p2 pos zpos tpos : Pos} {elts : List Expr} {kk j : Nat} {k : Int} {cp kp : Pos} (k0 : -(2 ^ 62) ≤ k) (k1 : k < 2 ^ 62) (hg : Gl X "enumerate") (hm : X.mg "enumerate" = none) (hg2 : Gl X "zip") (hm2 : X.mg "zip" = none) (ha : PA X [e1, e2] ta)
    (hs : starEach [e1, e2] X.env = (false, eval e1 X.env) :: starEach [e2] X.env := by rfl) (hpl : (backTo zpos (starEach [e2] X.env)).any (·.1) = false := by rfl)
    (he : backTo pos (starEach [.Call (.Name "zip" p2) [e1, e2] [] zpos] X.env) = (false, eval (.Call (.Name "zip" p2) [e1, e2] [] zpos) X.env) :: backTo pos (starEach [] X.env) := by rfl) (hp : (backTo pos (starEach [.Call (.Name "zip" p2) [e1, e2] [] zpos] X.env)).any (·.1) = false := by rfl)
    (hall : (backToKw pos (keywordEach [⟨some "start", .Constant (.int k) j cp, kp⟩] X.env)).all (·.1.isSome) = true := by rfl) (hn : (backToKw pos (keywordEach [⟨some "start", .Constant (.int k) j cp, kp⟩] X.env)).any (·.1.isNone) = false := by rfl) (hks : (backToKw pos (keywordEach [⟨some "start", .Constant (.int k) j cp, kp⟩] X.env)).filterMap (·.1) = [Str.ofString "start"] := by rfl) :
    PI X (.Tuple elts kk tpos) (.Call (.Name "enumerate" p) [.Call (.Name "zip" p2) [e1, e2] [] zpos] [⟨some "start", .Constant (.int k) j cp, kp⟩] pos) (iEnZip X.K k ta) := by
  constructor
  intro pins s σ H R I h
  refine wpAny_Call_Name_kw (ld_blt I hg hm boot_enumerate ?_)
  refine callType_kw ?_ he hp hall hn
  rw [he]
  refine Calls.spliced_cons ?_
  refine Call_ (ld_blt I hg2 hm2 PyProof.Rows.boot_zip ?_)
  refine PyProof.Rows.callWith_type1 (thn (ha.run zpos pins s σ H _ I h) fun us s1 ⟨vs, H1, I1, r1, a, b, xs, ys, ev, sx, sy, q⟩ => ?_) hs hpl
  subst ev
  obtain ⟨u, u', rfl, ru, ru'⟩ := Vals.two r1
  cases ru
  cases ru'
  obtain ⟨its, _, px, _⟩ := I1.tuple sx
  obtain ⟨jts, _, py, _⟩ := I1.tuple sy
  refine call_zipT (show s1.heap.IsTuple a its.toArray from px) (show s1.heap.IsTuple b jts.toArray from py) fun h' g t1 t2 j1 j2 len kp => ?_
  refine Calls.spliced_nil ?_
  rw [hks]
  show wpAny _ _ (evalAll [do let v ← eval (.Constant (.int k) j cp) X.env; standAt pos; pure v]) _ _ _
  refine wpAny_evalAll_cons (wpAny_bind (wpAny_Constant_int (wpAny_bind (wpAny_standAt (wpAny_pure (wpAny_evalAll_nil ?_))))))
  have fit : Builtin.SmallTypes.fitsIndex k = true := fits_start (by omega) (by omega)
  refine callType_newKw F.called_enumerate (by decide) (F.typeCall_enumerate_start _ _) (F.newCall_enumerate_start _ _) (fun obj => F.args_object_init_start obj _ _) F.entry_enumerate_new
    (meets_enz (s1.heap.objs.size + 4) (s1.heap.objs.size + 2) (s1.heap.objs.size + 3) .none false k _ fit) ⟨g, ?_⟩
  show wants _ _ _ _
  have len : h'.objs.size = s1.heap.objs.size + 5 := len
  have pe : (h'.push { cls := .type "enumerate", data := .fields #[.none, .bool false, .ref (s1.heap.objs.size + 4), rawInt k, .none, .none] }).get? (s1.heap.objs.size + 5) = some { cls := .type "enumerate", data := .fields #[.none, .bool false, .ref (s1.heap.objs.size + 4), rawInt k, .none, .none] } := by
    rw [← len]
    exact Heap.get?_push_size _ rfl
  have up : ∀ c o, h'.get? c = some o → (h'.push { cls := .type "enumerate", data := .fields #[.none, .bool false, .ref (s1.heap.objs.size + 4), rawInt k, .none, .none] }).get? c = some o := fun c o eo => Heap.get?_push_of_some _ eo
  revert pe up
  generalize h'.push { cls := .type "enumerate", data := .fields #[.none, .bool false, .ref (s1.heap.objs.size + 4), rawInt k, .none, .none] } = h2
  intro pe up
  have ie : IsEnum h2 (s1.heap.objs.size + 5) (s1.heap.objs.size + 4) (k + ((0 : Nat) : Int)) .none := by
    rw [show k + ((0 : Nat) : Int) = k by omega]
    exact pe
  have la : a < s1.heap.objs.size := let ⟨_, e, _⟩ := px; Heap.lt_size e
  have lb : b < s1.heap.objs.size := let ⟨_, e, _⟩ := py; Heap.lt_size e
  have free : ∀ c, s1.heap.objs.size ≤ c → FpOk X pins H1 c := fun c hc => I1.fpOk hc (I1.hok.fresh hc)
  have S : EzApart (s1.heap.objs.size + 5) (s1.heap.objs.size + 4) (s1.heap.objs.size + 2) (s1.heap.objs.size + 3) s1.heap.objs.size (s1.heap.objs.size + 1) a b := ⟨PySem.W.ktu_apart s1.heap.objs.size a b la lb, by simp, by simp, by simp, by simp, by simp, Nat.ne_of_gt (Nat.lt_of_lt_of_le la (Nat.le_add_right _ _)), Nat.ne_of_gt (Nat.lt_of_lt_of_le lb (Nat.le_add_right _ _))⟩
  have ty : ∀ (t : Nat), Shared.TypeIs { s1 with heap := h2, toks := t } (Value.ref h'.objs.size) "enumerate" := fun t => by
    rw [len]
    exact ⟨_, pe, rfl⟩
  refine ⟨ty _, ?_⟩
  rw [len]
  refine wpAny_pyIter_enum ie ?_
  refine ⟨s1.heap.objs.size + 5, [s1.heap.objs.size + 5, s1.heap.objs.size + 4, s1.heap.objs.size + 2, s1.heap.objs.size + 3, s1.heap.objs.size, s1.heap.objs.size + 1], EzSt k a b _ _ _ _ _ _, _, H1, rfl, I1.kept (t' := _) fun c o eo => up c o (kp c o eo), turn_ez S,
    ⟨⟨.none, ie⟩, ⟨.none, false, .inl rfl, up _ _ g⟩, up _ _ t1, ⟨_, _, up _ _ t2⟩, j1.at fun o eo => up _ o eo, j2.at fun o eo => up _ o eo⟩, fun c hc => ?_, q⟩
  rcases in6 hc with rfl | hc
  · exact free _ (Nat.le_add_right _ _)
  · rcases in5 hc with rfl | rfl | rfl | rfl | rfl
    · exact free _ (Nat.le_add_right _ _)
    · exact free _ (Nat.le_add_right _ _)
    · exact free _ (Nat.le_add_right _ _)
    · exact free _ (Nat.le_refl _)
    · exact free _ (Nat.le_add_right _ _)
/-! ### on data -/
def iEnZ (k : Nat) (fA : M (List D)) : M (List D) := fun ρ => (fA ρ).then fun ds ρ' => match ds with
  | [.tup xs, .tup ys] => if zipOk xs ys then .ok (enumD k (zipD xs ys)) ρ' else .stuck
  | _ => .stuck
section
variable {c : Cfg} {W : WX} {tA : TA} {fA : M (List D)}
theorem Rep.skip {B : Base} {ts : En} {vs : List (Option V)} {ρ : En} {σ : L2.St} {H : Hp} {x y : D} {v w : V} (r : Rep c B (some (.d x) :: some (.d y) :: ts) (some v :: some w :: vs) ρ σ H) : Rep c B (some (.d x) :: ts) (some v :: vs) ρ σ H := by
  obtain ⟨G, o1, o2, k, h1, h2⟩ := r
  cases h1 with
  | d ha h1 =>
    cases h1 with
    | d hb h1 => exact ⟨G, o1, o2, k, .d ha h1, h2⟩
theorem walk_enz {a b : Addr} {ds es : List D} {k : Nat} (hn : zipOk ds es = true) : IsWalk c [.tup ds, .tup es] [.ref a, .ref b] (ItEZ c.K (k : Nat) a b) (enumD k (zipD ds es)) := by
  refine ⟨(zipD ds es).length, fun H => SrcAt c false ds.length a H ∧ SrcAt c false es.length b H, fun i H v H' => ∃ T U x y, v = .ref T ∧ U ≠ T ∧ H U = none ∧ H T = none ∧ H' = upd (upd H U (.tup [x, y])) T (.tup [.int (((k + i : Nat) : Nat) : Int), .ref U]) ∧ TurnAt c false a i H x ∧ TurnAt c false b i H y, ⟨?_, ?_, ?_⟩, (enumD_length _ k).symm, ?_, ?_⟩
  · rintro i H hi ⟨⟨us, h1, h2⟩, ws, h3, h4⟩
    rw [zipD_length] at hi
    exact ⟨us, ws, us[i]'(by omega), ws[i]'(by omega), h1, h3, List.getElem?_eq_getElem (by omega), List.getElem?_eq_getElem (by omega)⟩
  · rintro H ⟨⟨us, h1, h2⟩, ws, h3, h4⟩
    exact ⟨us, ws, h1, h3, by rw [zipD_length]; omega⟩
  · rintro i H y H' _ _ ⟨T, U, x, y', h1, h2, h3, h4, h5, h6, h7⟩
    refine ⟨T, U, x, y', h1, h2, h3, h4, ?_, fun us h => h6 us h, fun us h => h7 us h⟩
    rw [h5, show (k : Int) + (i : Nat) = ((k + i : Nat) : Int) from by omega]
  · intro B ts vs ρ σ H r
    have r1 : Rep c B (some (.d (.tup es)) :: some (.d (.tup ds)) :: ts) (some (.ref b) :: some (.ref a) :: vs) ρ σ H := r
    exact ⟨src_of (x := .tup ds) rfl r1.drop, src_of (x := .tup es) rfl r1⟩
  · rintro B ts vs ρ σ H i v H' hk r ⟨T, U, u, w, rfl, hne, hU, hT, rfl, t1, t2⟩
    have r1 : Rep c B (some (.d (.tup es)) :: some (.d (.tup ds)) :: ts) (some (.ref b) :: some (.ref a) :: vs) ρ σ H := r
    obtain ⟨G, O, hx, hy⟩ := r1.top2
    obtain ⟨a', us, e1, h1, k1⟩ := hx.seq O.sub (x := .tup ds) rfl
    cases e1
    obtain ⟨b', ws, e2, h2, k2⟩ := hy.seq O.sub (x := .tup es) rfl
    cases e2
    obtain ⟨d, ed, hd⟩ := k1.getV (t1 us h1)
    obtain ⟨d', ed', hd'⟩ := k2.getV (t2 ws h2)
    have r2 : Rep c B (some (.d (.tup [d, d'])) :: some (.d (.tup es)) :: some (.d (.tup ds)) :: ts) (some (.ref U) :: some (.ref b) :: some (.ref a) :: vs) ρ σ (upd H U (.tup [u, w])) :=
      O.new hU rfl fun G' m e' => .tup (.inl (.inl e')) (.cons (hd.mono m) (.cons (hd'.mono m) .nil)) fun z => absurd z (by rw [zipOk_get hn (zipD_get ds es i d d' ed ed')]; decide)
    obtain ⟨G2, O2, hp⟩ := r2.top
    have hT2 : (upd H U (.tup [u, w])) T = none := by rw [upd_ne (Ne.symm hne)]; exact hT
    have r3 : Rep c B (some (.d (.tup [.int ((k + i : Nat) : Int), .tup [d, d']])) :: some (.d (.tup [d, d'])) :: some (.d (.tup es)) :: some (.d (.tup ds)) :: ts) (some (.ref T) :: some (.ref U) :: some (.ref b) :: some (.ref a) :: vs) ρ σ _ :=
      O2.new hT2 rfl fun G' m e' => .tup (.inl (.inl e')) (.cons (.int _) (.cons (hp.mono m) .nil)) fun z => nomatch z
    exact ⟨_, enumD_get _ k i _ (zipD_get ds es i d d' ed ed'), r3.skip⟩
theorem di_enz {k : Nat} (h : DenA c W tA fA) : DenI c W (iEnZip c.K (k : Nat) tA) (iEnZ k fA) := fun B ts vs ρ σ H R r q => by
  unfold iEnZ at q
  rw [post_then] at q
  refine h B ts vs ρ σ H _ r (q.imp1 fun ds ρ' p us H' hlen r' => ?_)
  split at p
  · rename_i xs ys
    by_cases hz : zipOk xs ys = true
    case neg => rw [if_neg hz] at p; exact p.elim
    rw [if_pos hz] at p
    match us, hlen with
    | [v, w], _ =>
      have r1 : Rep c B (some (.d (.tup ys)) :: some (.d (.tup xs)) :: ts) (some w :: some v :: vs) ρ' σ H' := r'
      obtain ⟨G, O, hx, hy⟩ := r1.top2
      obtain ⟨a, us, rfl, h1, k1⟩ := hx.seq O.sub (x := .tup xs) rfl
      obtain ⟨b, ws, rfl, h2, k2⟩ := hy.seq O.sub (x := .tup ys) rfl
      exact ⟨a, b, us, ws, rfl, h1, h2, p _ [.tup xs, .tup ys] [.ref a, .ref b] H' rfl r' (walk_enz hz)⟩
  · exact p.elim
end
section
variable {X : Cx} {c : Cfg} {W : WX} {a b : Expr} {fA : M (List D)} {tA : TA} {es : List Expr} {kk k j : Nat} {tpos pos p p2 zpos cp kp : Pos}
theorem i_enz (hm : X.mg "enumerate" = none) (hm2 : X.mg "zip" = none) (h : QA X c W [a, b] tA fA) (hk : k < 1000000 := by decide) (hg : Gl X "enumerate" := by rfl) (hg2 : Gl X "zip" := by rfl) (hK : X.K = c.K := by rfl)
    (hs : starEach [a, b] X.env = (false, eval a X.env) :: starEach [b] X.env := by rfl) (hpl : (backTo zpos (starEach [b] X.env)).any (·.1) = false := by rfl)
    (he : backTo pos (starEach [.Call (.Name "zip" p2) [a, b] [] zpos] X.env) = (false, eval (.Call (.Name "zip" p2) [a, b] [] zpos) X.env) :: backTo pos (starEach [] X.env) := by rfl) (hp : (backTo pos (starEach [.Call (.Name "zip" p2) [a, b] [] zpos] X.env)).any (·.1) = false := by rfl) :
    QI X c W (.Tuple es kk tpos) (.Call (.Name "enumerate" p) [.Call (.Name "zip" p2) [a, b] [] zpos] [⟨some "start", .Constant (.int (k : Nat)) j cp, kp⟩] pos) (iEnZip c.K (k : Nat) tA) (iEnZ k fA) := by
  obtain ⟨h1, h2⟩ := h
  exact ⟨hK ▸ pi_enzip (by omega) (by omega) hg hm hg2 hm2 h1 hs hpl he hp, di_enz h2⟩
end
end Fx
/-! dict(d), keys numbers or texts -/
/-! {**d, k: v}, keys numbers or texts -/
/-! {k: v} -/
namespace Fx
open PySem PySem.Spec PyProof.Rows L2
section
variable {X : Cx} {c : Cfg}
def tDis1X (c : Cfg) (tk tv : TE) : TE := fun σ H Q => ∀ d o0, H d = none → DcO c.w d o0 [] [] [] → tk σ (upd H d (xdO d o0)) fun y H1 => tv σ H1 fun z H2 => ∃ (o2 : Obj) (key : D) (G : Hp), H2 d = some (xdO d o2) ∧ DcO c.w d o2 [] [] [] ∧ (∀ b u, G b = some u → H2 b = some u) ∧ Rp c G y key ∧ homog [] key = true ∧
  ∀ o1, DcO c.w d o1 [key] [y] [z] → Q (.ref d) (upd H2 d (xdO d o1))
theorem pe_dis1X (hK : X.K = c.K) (hw : X.w = c.w) (hu : X.A.units + 10 < cLine) {k v : Expr} {pos : Pos} {tk tv : TE} (hk : PE X k tk) (hv : PE X v tv) : PE X (.Dict [some k] [v] pos) (tDis1X c tk tv) := ⟨fun pins s σ H Q I h => by
  have free : H s.heap.objs.size = none := I.hok.fresh (Nat.le_refl _)
  rw [arm_eval_Dict]
  refine wpAny_bind (wpAny_standAt ?_)
  have e1 := dictDisplay_pairs [(eval k X.env, (do let x ← eval v X.env; standAt pos; pure x : Sem Value))] (by simp) (by show 1 < 17; decide)
  show wpAny _ _ (dictDisplay [(some (eval k X.env), (do let x ← eval v X.env; standAt pos; pure x))]) _ _ _
  have e2 : dictDisplay [(some (eval k X.env), (do let x ← eval v X.env; standAt pos; pure x))] = (do let d ← subDict [(eval k X.env, (do let x ← eval v X.env; standAt pos; pure x : Sem Value))]; pure (.ref d)) := e1
  rw [e2]
  refine wpAny_bind ?_
  unfold subDict
  refine wpAny_bind (wpAny_alloc ?_)
  refine wpAny_bind (wpAny_holding ?_)
  rw [if_pos (by show 1 ≤ 15; decide)]
  have I0 := I.laid (a := s.heap.objs.size) (o := xdO s.heap.objs.size { cls := .type "dict", data := .dict #[] }) (t' := s.toks) (fun _ _ e => Heap.get?_push_of_some _ e) (Nat.le_refl _) (xd_ok (Heap.get?_push_size _ rfl))
  have d0 : DcO c.w s.heap.objs.size { cls := .type "dict", data := .dict #[] } [] [] [] := DcO.new I.big
  refine wpAny_bind (evalPairs_cons (thn (hk.run pins _ σ _ _ I0 (h _ _ free d0)) fun yv s2 ⟨y, H2, I2, ry, more⟩ => wpAny_bind (thn (hv.run pins _ σ _ _ I2 more) fun zv s3 ⟨z, H3, I3, rz, o2, key, G, hD, d2, sub, hky, hm, fin⟩ => wpAny_bind (wpAny_standAt (wpAny_pure (evalPairs_nil ?_))))))
  refine wpAny_holding (wpAny_bind ?_)
  rw [List.forIn_cons]
  refine wpAny_bind (wpAny_bind ?_)
  refine x_dictSet hu I3 hK hw sub hD d2 .nil hky hm (by rw [sizeLine_eq]; show 0 < _; decide) ry rz fun s4 o4 I4 d4 => ?_
  refine wpAny_pure ?_
  dsimp only
  rw [List.forIn_nil]
  refine wpAny_pure (wpAny_pure (wpAny_pure (wpAny_pure ?_)))
  exact ⟨.ref s.heap.objs.size, _, I4, rfl, fin o4 d4⟩⟩
def mDis1 (fk fv : M S) : M S := fun ρ => (dv fk ρ).then fun k ρ1 => (dv fv ρ1).then fun y ρ2 => if homog [] k then .ok (.o none (.dct [k] [y])) ρ2 else .stuck
theorem den_dis1 {W : WX} {tk tv : TE} {fk fv : M S} (hk : Den c W tk fk) (hv : Den c W tv fv) : Den c W (tDis1X c tk tv) (mDis1 fk fv) := fun B ts vs ρ σ H Q r q d o0 hd d0 => by
  unfold mDis1 at q
  rw [post_then] at q
  have r0 : Rep c B (some (.o none (.dct [] [])) :: ts) (some (.ref d) :: vs) ρ σ (upd H d (xdO d o0)) := Rep.newO (ds := []) (us := []) r rfl hd fun G H' e _ => ⟨o0, [], [], e, d0, .nil, .nil⟩
  refine hk.dv r0 (q.imp (fun k ρ1 q y H1 r1 => ?_) fun _ _ h => h.drop)
  rw [post_then] at q
  refine hv.dv r1 (q.imp (fun x ρ2 q z H2 r2 => ?_) fun _ _ h => h.drop.drop)
  have q2 : Post (OkP c B ts vs σ Q) (ErrP c W B ts vs σ) (if homog [] k then .ok (.o none (.dct [k] [x])) ρ2 else .stuck) := q
  split at q2
  · rename_i hm
    obtain ⟨G, o1, o2, kk, h1, h2⟩ := r2
    cases h1 with
    | d hz h1 =>
      cases h1 with
      | d hy h1 =>
        cases h1 with
        | o hc hb h1 =>
          obtain ⟨ob, kv, us, ha, hd2, k1, k2⟩ := hc
          cases k1
          cases k2
          have nd := kk.nd
          rw [List.cons_append, List.nodup_cons] at nd
          refine ⟨ob, k, G, ha, hd2, kk.sub, hy, hm, fun o3 d3 => q2 _ _ ?_⟩
          exact ⟨G, d :: _, o2, kk.write List.mem_cons_self ha (dct_cell hd2), .o ⟨o3, _, _, upd_same, d3, .cons hy .nil, .cons hz .nil⟩ hb (h1.mono (fun _ _ e => e) fun p hp => upd_ne fun z => nd.1 (z ▸ List.mem_append_left _ hp)), h2.mono (fun _ _ e => e) fun p hp => upd_ne fun z => nd.1 (z ▸ List.mem_append_right _ hp)⟩
  · exact q2.elim
theorem q_dis1 {W : WX} {k v : Expr} {pos : Pos} {kk : Nat} {tk tv : TE} {fk fv : M S} (hr : Room kk X.A) (hw : X.w = c.w) (hk : QE X c W k tk fk) (hv : QE X c W v tv fv) (hK : X.K = c.K := by rfl) : QE X c W (.Dict [some k] [v] pos) (tDis1X c tk tv) (mDis1 fk fv) :=
  ⟨pe_dis1X hK hw (by have := un66 hr; omega) hk.1 hv.1, den_dis1 hk.2 hv.2⟩
end
end Fx
/-! sorted(t), t a tuple of ints -/
namespace Fx
open PySem PySem.Spec PyProof.Rows L2
/-- a new list of the ints that a tuple holds, ascending -/
def rSortTI (K : PySem.W.Frag) : List V → Hp → VK → Prop := fun vs H Q => ∃ (a : Addr) (ns : List Int), vs = [V.ref a] ∧ SqT K H a (ns.map V.int) ∧
  ∀ (ns' : List Int) (p : Addr), ns'.Perm ns → ns'.Pairwise (· ≤ ·) → H p = none → Q (.ref p) (upd H p (.lst (ns'.map V.int)))
section
variable {X : Cx}
theorem cr_sortTI : CallR X (.builtin "sorted") (rSortTI X.K) := by
  intro pins s σ H vs us Q I r h
  obtain ⟨a, ns, rfl, hs, q⟩ := h
  obtain ⟨its, rv, hl, hz⟩ := I.tuple hs
  rw [Vals.ref1 r]
  have hi := rv.ints
  refine PySem.sorted_ordT SrtO.swo_int hl (by rw [← rv.length]; exact hz) (fun h2 h₁ a' _ _ => SrtO.ints_sortable hi h2) fun out h1 h2 => ?_
  obtain ⟨k1, k2, k3⟩ := SrtO.ints_out hi h1 h2
  obtain ⟨ep, he'⟩ := PyProof.Rows.sortedAll_at s.heap its out.toArray
  have hlen : ((out.map SrtO.iv).map V.int).length ≤ sizeLine := by
    have := k2.length_eq
    rw [List.length_map] at hz ⊢
    omega
  refine ⟨.ref _, upd H (s.heap.objs.size + 1) (.lst ((out.map SrtO.iv).map V.int)), I.laid (t' := s.toks) ?_ (Nat.le_succ _) ?_, rfl, q _ _ k2 k3 (I.hok.fresh (Nat.le_succ _))⟩
  · exact fun _ _ e => PyProof.Rows.sortedAll_old e
  · exact ⟨hlen, out, ep, vals_of_ints k1, he'⟩
end
def gSortI : List D → Option S
  | [.tup ds] => (intsD ds).map fun ns => .o none (.lst ((isort ns).map D.int))
  | _ => none
section
variable {c : Cfg}
theorem cd_sortI : CbDen c (rSortTI c.K) gSortI := by
  intro B ts vs ρ σ H Q ds us s hl r e q
  match ds, hl, r, e with
  | [.tup ds], hl, r, e =>
    obtain ⟨v, rfl, G, O, h⟩ := r.one' hl
    obtain ⟨a, xs, rfl, ha, ka⟩ := h.tupE
    have e : (intsD ds).map (fun ns => S.o none (.lst ((isort ns).map D.int))) = some s := e
    cases e2 : intsD ds with
    | none => rw [e2] at e; cases e
    | some ns =>
      rw [e2] at e
      cases e
      rw [RpAll.ints e2 ka] at ha
      refine ⟨a, ns, rfl, SqT.up O.sub ha, fun ns' p pm pw hp => ?_⟩
      rw [isort_eq pm pw]
      exact q _ _ (O.newO hp fun H' e => ⟨_, e, RpAll.ofInts _⟩)
theorem b_sortI {X : Cx} (hK : X.K = c.K := by rfl) : QB X c "sorted" (rSortTI c.K) gSortI :=
  ⟨.inl ⟨"sorted", hK ▸ cr_sortTI, by decide +kernel⟩, cd_sortI⟩
end
end Fx
/-! xs.count(x), xs.index(x), xs a name that goes on to change -/
namespace Fx
open PySem PySem.Spec PyProof.Rows L2 PySem.SeqAt
def mCntO (i : Nat) (ff : M S) : M S := fun ρ => if peekL ρ i then (dv ff ρ).then fun y ρ1 => match peek ρ1 i with
    | some (.lst ds) => if pl60 y && plA 60 ds then .ok (.d (.int (countD ds y : Nat))) ρ1 else .stuck
    | _ => .stuck
  else .stuck
def mIdxO (i : Nat) (ff : M S) : M S := fun ρ => if peekL ρ i then (dv ff ρ).then fun y ρ1 => match peek ρ1 i with
    | some (.lst ds) => if pl60 y && plA 60 ds && small ds.length then (match placeD ds y with
      | some j => .ok (.d (.int (j : Nat))) ρ1
      | none => .stuck) else .stuck
    | _ => .stuck
  else .stuck
section
variable {c : Cfg} {W : WX} {tf : TE} {ff : M S} {i : Nat}
theorem listOfO {B : Base} {ts ρ : En} {vs : List (Option V)} {σ : L2.St} {H : Hp} {ds : List D} {y : D} {a : Addr} {w : V} (r : Rep c B (some (.d y) :: ts) (some w :: vs) ρ σ H) (ev : σ[i]? = some (some (.ref a))) (e : peek ρ i = some (.lst ds)) (hp : (pl60 y && plA 60 ds) = true) : ListOf c.K H (.ref a) [w] (toPs ds) (toP y) := by
  rw [Bool.and_eq_true] at hp
  obtain ⟨a1, us, G, o1, o2, ev1, ha, ka, k, h1, h2⟩ := r.peekL e
  rw [ev] at ev1
  cases ev1
  cases h1 with
  | d hy _ => exact ⟨a, us, w, rfl, rfl, SqL.of ha, .lst (SqL.of ha) (RpAll.dp k.sub hp.2 ka), hy.dp k.sub hp.1, (pl60_shaped hp.1).1, (plA_plain hp.2).1, Nat.le_trans (pl60_shaped hp.1).2 (by decide)⟩
theorem den_cntO (k : Den c W tf ff) : Den c W (tBM c.K "list" (rCntL c.K) (tVar i) (tCons tf tNil)) (mCntO i ff) := fun B ts vs ρ σ H Q r q => by
  unfold mCntO at q
  split at q
  · rename_i hp
    unfold peekL at hp
    split at hp
    · rename_i ds0 e0
      obtain ⟨a0, us0, _, _, _, ev, ha0, _⟩ := r.peekL e0
      rw [post_then] at q
      refine ⟨.ref a0, ev, .inl ⟨rfl, us0, SqL.of ha0⟩, k.dv r (q.imp1 fun y ρ1 q1 w H1 r1 => ?_)⟩
      split at q1
      · rename_i ds e1
        by_cases hz : (pl60 y && plA 60 ds) = true
        case neg => rw [if_neg hz] at q1; exact q1.elim
        rw [if_pos hz] at q1
        refine ⟨toPs ds, toP y, listOfO r1 ev e1 hz, ?_⟩
        have e : ((toPs ds).countP fun z => PyData.eqv z (toP y)) = countD ds y := by
          rw [toPs_map, List.countP_map]
          rfl
        rw [e]
        exact q1 _ _ (Rep.repl (ds := [y]) (us := [w]) r1 rfl fun _ _ => .int _)
      · exact q1.elim
    · cases hp
  · exact q.elim
theorem den_idxO (k : Den c W tf ff) : Den c W (tBM c.K "list" (rIdxL c.K) (tVar i) (tCons tf tNil)) (mIdxO i ff) := fun B ts vs ρ σ H Q r q => by
  unfold mIdxO at q
  split at q
  · rename_i hp
    unfold peekL at hp
    split at hp
    · rename_i ds0 e0
      obtain ⟨a0, us0, _, _, _, ev, ha0, _⟩ := r.peekL e0
      rw [post_then] at q
      refine ⟨.ref a0, ev, .inl ⟨rfl, us0, SqL.of ha0⟩, k.dv r (q.imp1 fun y ρ1 q1 w H1 r1 => ?_)⟩
      split at q1
      · rename_i ds e1
        by_cases hz : (pl60 y && plA 60 ds && small ds.length) = true
        case neg => rw [if_neg hz] at q1; exact q1.elim
        rw [if_pos hz] at q1
        rw [Bool.and_eq_true] at hz
        cases e : placeD ds y with
        | none => rw [e] at q1; exact q1.elim
        | some j =>
          rw [e] at q1
          have fw := small_line hz.2
          refine ⟨toPs ds, toP y, j, listOfO r1 ev e1 hz.1, by rw [toPs_map, List.length_map]; omega, ?_, q1 _ _ (Rep.repl (ds := [y]) (us := [w]) r1 rfl fun _ _ => .int _)⟩
          unfold dataPlace
          rw [toPs_map, List.findIdx?_map]
          exact e
      · exact q1.elim
    · cases hp
  · exact q.elim
variable {X : Cx} {f : Expr} {x : Str} {p apos cpos : Pos} {k : Nat}
theorem q_cntO (i : Nat) (hu : X.A.units + 66 < cLine) (hf : QE X c W f tf ff) (hN : X.N[i]? = some x := by rfl) (hv : Vis X.env.scope x := by first | exact Or.inl rfl | exact Or.inr (Or.inl rfl) | exact Or.inr (Or.inr rfl)) (hd : (x == ("__debug__" : Str)) = false := by decide)
    (hcd : (x == ("__classdict__" : Str)) = false := by decide) (hbase : attributeBase (.Name x p) "count" X.env (eval (.Name x p) X.env) = eval (.Name x p) X.env := by rfl)
    (hfew : ((backTo cpos (starEach [f] X.env)).all (fun y => !y.1) && (backToKw cpos (keywordEach [] X.env)).all (fun y => y.1.isSome) && decide ([f].length + ([] : List Keyword).length + (if ([] : List Keyword).isEmpty then 0 else 1) < 30)) = true := by rfl) (hline : (apos.endLine == cpos.line) = true := by rfl)
    (hs : starEach [f] X.env = (false, eval f X.env) :: starEach [] X.env := by rfl) (hplain : (backTo cpos (starEach [] X.env)).any (·.1) = false := by rfl) (hK : X.K = c.K := by rfl) :
    QE X c W (.Call (.Attribute (.Name x p) "count" apos) [f] [] cpos) (tBM c.K "list" (rCntL c.K) (tVar i) (tCons tf tNil)) (mCntO i ff) :=
  ⟨hK ▸ pe_bm PySem.F.plainAttrs_list PySem.F.slot_list_count PySem.F.type_list_count (mt_cntL hu) (pe_var hN hv hd hcd) (pa_cons hf.1 pa_nil hs) hbase hfew hline hs hplain, den_cntO hf.2⟩
theorem q_idxO (i : Nat) (hu : X.A.units + 66 < cLine) (hf : QE X c W f tf ff) (hN : X.N[i]? = some x := by rfl) (hv : Vis X.env.scope x := by first | exact Or.inl rfl | exact Or.inr (Or.inl rfl) | exact Or.inr (Or.inr rfl)) (hd : (x == ("__debug__" : Str)) = false := by decide)
    (hcd : (x == ("__classdict__" : Str)) = false := by decide) (hbase : attributeBase (.Name x p) "index" X.env (eval (.Name x p) X.env) = eval (.Name x p) X.env := by rfl)
    (hfew : ((backTo cpos (starEach [f] X.env)).all (fun y => !y.1) && (backToKw cpos (keywordEach [] X.env)).all (fun y => y.1.isSome) && decide ([f].length + ([] : List Keyword).length + (if ([] : List Keyword).isEmpty then 0 else 1) < 30)) = true := by rfl) (hline : (apos.endLine == cpos.line) = true := by rfl)
    (hs : starEach [f] X.env = (false, eval f X.env) :: starEach [] X.env := by rfl) (hplain : (backTo cpos (starEach [] X.env)).any (·.1) = false := by rfl) (hK : X.K = c.K := by rfl) :
    QE X c W (.Call (.Attribute (.Name x p) "index" apos) [f] [] cpos) (tBM c.K "list" (rIdxL c.K) (tVar i) (tCons tf tNil)) (mIdxO i ff) :=
  ⟨hK ▸ pe_bm PySem.F.plainAttrs_list PySem.F.slot_list_index PySem.F.type_list_index (mt_idxL hu) (pe_var hN hv hd hcd) (pa_cons hf.1 pa_nil hs) hbase hfew hline hs hplain, den_idxO hf.2⟩
end
end Fx
/-! tuple(range(a, b)), list(range(a, b)) -/
namespace Fx
open PySem PySem.Spec PyProof.Rows L2
def rg2Ok (a b : Int) : Bool := decide (-1000000 ≤ a) && decide (a ≤ 1000000) && decide (-1000000 ≤ b) && decide (b ≤ 1000000)
theorem rg2Ok_of {a b : Int} (h : rg2Ok a b = true) : RgOk a b := by
  unfold rg2Ok at h
  simp only [Bool.and_eq_true, decide_eq_true_eq] at h
  have e : (b - a).toNat ≤ 16777216 := by omega
  refine ⟨by omega, by omega, by omega, by omega, by first | omega | (rw [sizeLine_eq]; omega)⟩
section
variable {c : Cfg} {W : WX} {ta tb : TE} {fa fb : M S}
theorem rpAll_rg2 {G : Hp} {a b : Int} : RpAll c G (rgV a b) (intsFrom a (b - a).toNat) := by
  have key : ∀ (k : Nat) (lo : Int), RpAll c G ((List.range k).map fun i => V.int (lo + (i : Nat))) (intsFrom lo k) := by
    intro k
    induction k with
    | zero => exact fun lo => .nil
    | succ k ih =>
      intro lo
      rw [List.range_succ_eq_map, List.map_cons, List.map_map]
      show RpAll c G (_ :: _) (.int lo :: intsFrom (lo + 1) k)
      rw [show lo + ((0 : Nat) : Int) = lo from by simp]
      refine .cons (.int _) ?_
      have e : ((fun i : Nat => V.int (lo + (i : Nat))) ∘ Nat.succ) = fun i : Nat => V.int (lo + 1 + (i : Nat)) := by
        funext i
        show V.int _ = V.int _
        congr 1
        rw [Nat.succ_eq_add_one]
        omega
      rw [e]
      exact ih (lo + 1)
  exact key (b - a).toNat a
def mTupRg2 (fa fb : M S) : M S := fun ρ => (dv fa ρ).then fun x ρ1 => (dv fb ρ1).then fun y ρ2 => match x, y with
  | .int i, .int j => if rg2Ok i j then .ok (.d (.tup (intsFrom i (j - i).toNat))) ρ2 else .stuck
  | _, _ => .stuck
theorem den_tupRg2 (h : Den c W ta fa) (k : Den c W tb fb) : Den c W (tTupRg (tRg2 ta tb)) (mTupRg2 fa fb) := fun B ts vs ρ σ H Q r q => by
  unfold mTupRg2 at q
  rw [post_then] at q
  refine h.dv r (q.imp1 fun x ρ1 q v H1 r1 => ?_)
  rw [post_then] at q
  refine k.dv r1 (q.imp (fun y ρ2 q w H2 r2 => ?_) fun _ _ h => h.drop)
  have bothI : ∃ i j, x = .int i ∧ y = .int j := by
    cases x with
    | int i =>
      cases y with
      | int j => exact ⟨i, j, rfl, rfl⟩
      | _ => exact q.elim
    | _ => exact q.elim
  obtain ⟨i, j, rfl, rfl⟩ := bothI
  obtain ⟨G, O, h1, h2⟩ := r2.two
  cases h1
  cases h2
  have q : Post (OkP c B ts vs σ Q) (ErrP c W B ts vs σ) (if rg2Ok i j then .ok (.d (.tup (intsFrom i (j - i).toNat))) ρ2 else .stuck) := q
  split at q
  · rename_i hn
    exact ⟨i, j, rfl, rfl, rg2Ok_of hn, fun p hp => q _ _ (O.new hp rfl fun G' m e => .tup (.inl (.inl e)) rpAll_rg2 fun z => absurd z (by rw [arcy_ints]; decide))⟩
  · exact q.elim
end
section
variable {X : Cx} {c : Cfg} {W : WX} {a b : Expr} {ta tb : TE} {fa fb : M S} {pos p p2 pos2 : Pos}
theorem q_tupRg2 (hm : X.mg "tuple" = none) (hm2 : X.mg "range" = none) (h : QE X c W a ta fa) (k : QE X c W b tb fb) (hc : X.calm = true := by rfl) (hg : Gl X "tuple" := by rfl) (hg2 : Gl X "range" := by rfl)
    (na : starEach [a, b] X.env = (false, eval a X.env) :: starEach [b] X.env := by rfl) (nb : starEach [b] X.env = (false, eval b X.env) :: starEach [] X.env := by rfl) (hp : (backTo pos2 (starEach [b] X.env)).any (·.1) = false := by rfl)
    (n2 : starEach [.Call (.Name "range" p2) [a, b] [] pos2] X.env = (false, eval (.Call (.Name "range" p2) [a, b] [] pos2) X.env) :: starEach [] X.env := by rfl) : QE X c W (.Call (.Name "tuple" p) [.Call (.Name "range" p2) [a, b] [] pos2] [] pos) (tTupRg (tRg2 ta tb)) (mTupRg2 fa fb) :=
  ⟨pe_tupRg hc hg hm (prg_2 hg2 hm2 h.1 k.1 na nb hp) n2, den_tupRg2 h.2 k.2⟩
end
end Fx
/-! the denotations of routeweb_k66_updates_known -/
namespace Fx.K66
open PySem PySem.Spec PyProof.Rows L2
open C8 (Cal Mak pe_c pe_mk)
open LamX (Tabs TabS TabB ExtN CodeO codeO_ne)
def topS (i : Nat) : Stmt := PySem.Challenge.pw_routeweb_k66_updates_known.main.body.getD i (.Pass ⟨0, 0, 0, 0⟩)
abbrev s_is_number : Stmt := topS 7
abbrev n_is_number : List Str := ["value", "low", "high"]
def b_is_number : M Fl := (mRet (mAndV (mCB gIsi (aCons (mVar 0) (aCons (mC (.ty "int")) aNil))) (mAndV (mNotV (mCB gIsi (aCons (mVar 0) (aCons (mC (.ty "bool")) aNil)))) (mChain gLe gLe (mVar 1) (mVar 0) (mVar 2)))))
def f_is_number : Fn := runF 3 3 b_is_number
abbrev s_is_tuple : Stmt := topS 8
abbrev n_is_tuple : List Str := ["value", "least", "most"]
def b_is_tuple : M Fl := (mRet (mAndV (mCB gIsi (aCons (mVar 0) (aCons (mC (.ty "tuple")) aNil))) (mChain gLe gLe (mVar 1) (mCB gLen (aCons (mVar 0) aNil)) (mVar 2))))
def f_is_tuple : Fn := runF 3 3 b_is_tuple
abbrev s_are_numbers : Stmt := topS 9
abbrev n_are_numbers : List Str := ["value", "low", "high", "item"]
def b_are_numbers : M Fl := (mRet (mAndV (mCB gIsi (aCons (mVar 0) (aCons (mC (.ty "tuple")) aNil))) (mCB gAll (aCons (mLc (iSeq (mVar 0)) (gmName 3) mYes (mCall f_is_number (aCons (mVar 3) (aCons (mVar 1) (aCons (mVar 2) aNil)))) [3]) aNil))))
def f_are_numbers : Fn := runF 3 4 b_are_numbers
abbrev s_paths_to : Stmt := topS 11
abbrev n_paths_to : List Str := ["heads", "node", "goals", "paths", "waiting", "path", "head"]
def b_paths_to : M Fl := (mSeq (mAsgO 3 (mLst aNil))
    (mSeq (mAsgO 4 (mLst (aCons (mTup (aCons (mVar 1) aNil)) aNil)))
    (mSeq (mWhile (mTruthO 4) (mSeq (mAsg (mMeth0 4 gPop) (gmName 5))
    (mIfS (mTest (mOp gIn (mOp gIx (mVar 5) (mUn gNeg (mC (.int 1)))) (mVar 2))) (mDrop (mMeth1 3 gApp (mVar 5))) (mDrop (mMeth1 4 gExt (mLc (iRevS (aCons (mOp gDget (mVar 0) (mOp gIx (mVar 5) (mUn gNeg (mC (.int 1))))) aNil)) (gmName 6) (mTest (mOp gNotIn (mVar 6) (mVar 5))) (mTup (aStar (mVar 5) (aCons (mVar 6) aNil))) [6]))))) 20000)
    (mRetO 3))))
def f_paths_to : Fn := runF 3 7 b_paths_to
abbrev s_ring_among : Stmt := topS 12
abbrev n_ring_among : List Str := ["heads", "left", "ends", "node", "head", "walk"]
def b_ring_among : M Fl := (mSeq (mAsg (mCB gListD (aCons (mVar 0) aNil)) (gmName 1))
    (mSeq (mAsg (mVar 1) (gmName 2))
    (mSeq (mWhile (mTruth (mVar 2)) (mSeq (mAsg (mLc (iSeq (mVar 1)) (gmName 3) (mNot (mTruth (mLc (iSeq (mOp gDget (mVar 0) (mVar 3))) (gmName 4) (mTest (mOp gIn (mVar 4) (mVar 1))) (mVar 4) [4]))) (mVar 3) [3]) (gmName 2))
    (mAsg (mLc (iSeq (mVar 1)) (gmName 3) (mTest (mOp gNotIn (mVar 3) (mVar 2))) (mVar 3) [3]) (gmName 1))) 1000)
    (mSeq (mIfS (mNot (mTruth (mVar 1))) (mRet (mC .non)) mNx)
    (mSeq (mAsgO 5 (mLst (aCons (mOp gIx (mVar 1) (mC (.int 0))) aNil)))
    (mSeq (mWhile (mTest (mOp gEq (mCntO 5 (mIxO 5 (mUn gNeg (mC (.int 1))))) (mC (.int 1)))) (mDrop (mMeth1 5 gApp (mOp gIx (mLc (iSeq (mOp gDget (mVar 0) (mIxO 5 (mUn gNeg (mC (.int 1)))))) (gmName 4) (mTest (mOp gIn (mVar 4) (mVar 1))) (mVar 4) [4]) (mC (.int 0))))) 1000)
    (mRet (mCB gTuple (aCons (mSl (mVar 5) (oSome (mIdxO 5 (mIxO 5 (mUn gNeg (mC (.int 1)))))) oNone) aNil)))))))))
def f_ring_among : Fn := runF 1 6 b_ring_among
abbrev s_depth : Stmt := topS 15
abbrev n_depth : List Str := ["hops", "node", "place", "depth"]
def b_depth : M Fl := (mSeq (mAsg (mVar 1) (gmName 2))
    (mSeq (mFor (iRange1 (aCons (mOp gAdd (mCB gLen (aCons (mVar 0) aNil)) (mC (.int 1))) aNil)) (gmName 3) (mSeq (mIfS (mTest (mOp gEq (mVar 2) (mC (.int 0)))) (mRet (mVar 3)) mNx)
    (mAsg (mOp gIx (mVar 0) (mOp gMinus (mVar 2) (mC (.int 1)))) (gmName 2))))
    (mRet (mC .non))))
def f_depth : Fn := runF 2 4 b_depth
abbrev s_check_tree : Stmt := topS 16
abbrev n_check_tree : List Str := ["hops", "least", "most", "index", "hop"]
def b_check_tree : M Fl := (mSeq (mIfS (mNot (mTest (mCall f_is_tuple (aCons (mVar 0) (aCons (mVar 1) (aCons (mVar 2) aNil)))))) mSt mNx)
    (mSeq (mFor (iEnu (aCons (mVar 0) aNil)) (gmTup 2 (gmCons (gmName 3) (gmCons (gmName 4) gmNil))) (mIfS (mOr (mNot (mTest (mCall f_is_number (aCons (mVar 4) (aCons (mC (.int 0)) (aCons (mCB gLen (aCons (mVar 0) aNil)) aNil)))))) (mTest (mOp gEq (mVar 4) (mOp gAdd (mVar 3) (mC (.int 1)))))) mSt mNx))
    (mFor (iRange1 (aCons (mCB gLen (aCons (mVar 0) aNil)) aNil)) (gmName 3) (mIfS (mTest (mOp gIsN (mCall f_depth (aCons (mVar 0) (aCons (mOp gAdd (mVar 3) (mC (.int 1))) aNil))) (mC .non))) mSt mNx))))
def f_check_tree : Fn := runF 3 5 b_check_tree
abbrev s_check_trees : Stmt := topS 17
abbrev n_check_trees : List Str := ["old", "new"]
def b_check_trees : M Fl := (mSeq (mDrop (mCall f_check_tree (aCons (mVar 0) (aCons (mC (.int 0)) (aCons (mC (.int 7)) aNil)))))
    (mDrop (mCall f_check_tree (aCons (mVar 1) (aCons (mCB gLen (aCons (mVar 0) aNil)) (aCons (mCB gLen (aCons (mVar 0) aNil)) aNil))))))
def f_check_trees : Fn := runF 2 2 b_check_trees
abbrev s_is_round : Stmt := topS 18
abbrev n_is_round : List Str := ["many", "value"]
def b_is_round : M Fl := (mRet (mAndV (mCall f_are_numbers (aCons (mVar 1) (aCons (mC (.int 1)) (aCons (mVar 0) aNil)))) (mOp gEq (mCB gList (aCons (mVar 1) aNil)) (mUn gSetS (mVar 1)))))
def f_is_round : Fn := runF 2 2 b_is_round
abbrev s_check_rounds : Stmt := topS 19
abbrev n_check_rounds : List Str := ["many", "done", "now", "node"]
def b_check_rounds : M Fl := (mSeq (mIfS (mNot (mTest (mCall f_is_round (aCons (mVar 0) (aCons (mVar 1) aNil))))) mSt mNx)
    (mIfS (mOr (mNot (mTest (mCall f_is_round (aCons (mVar 0) (aCons (mVar 2) aNil))))) (mTest (mCB gAny (aCons (mLc (iSeq (mVar 2)) (gmName 3) mYes (mOp gIn (mVar 3) (mVar 1)) [3]) aNil)))) mSt mNx))
def f_check_rounds : Fn := runF 3 4 b_check_rounds
abbrev s_heads_at : Stmt := topS 20
abbrev n_heads_at : List Str := ["old", "new", "done", "now", "heads", "node", "before", "after"]
def b_heads_at : M Fl := (mSeq (mAsgO 4 (mDis1 (mC (.int 0)) (mLst aNil)))
    (mSeq (mFor (iEnZ 1 (aCons (mVar 0) (aCons (mVar 1) aNil))) (gmTup 2 (gmCons (gmName 5) (gmCons (gmTup 2 (gmCons (gmName 6) (gmCons (gmName 7) gmNil))) gmNil))) (mIfS (mTest (mOp gIn (mVar 5) (mVar 3))) (mAsg (mUn gSetSL (mLst (aCons (mVar 6) (aCons (mVar 7) aNil)))) (gmItemD 4 (mVar 5))) (mAsg (mLst (aCons (mIf (mTest (mOp gIn (mVar 5) (mVar 2))) (mVar 7) (mVar 6)) aNil)) (gmItemD 4 (mVar 5)))))
    (mRetO 4)))
def f_heads_at : Fn := runF 4 8 b_heads_at
abbrev s_differing : Stmt := topS 21
abbrev n_differing : List Str := ["old", "new", "node"]
def b_differing : M Fl := (mRet (mLc (iRange2 (aCons (mC (.int 1)) (aCons (mOp gAdd (mCB gLen (aCons (mVar 0) aNil)) (mC (.int 1))) aNil))) (gmName 2) (mTest (mOp gNe (mOp gIx (mVar 0) (mOp gMinus (mVar 2) (mC (.int 1)))) (mOp gIx (mVar 1) (mOp gMinus (mVar 2) (mC (.int 1)))))) (mVar 2) [2]))
def f_differing : Fn := runF 2 3 b_differing
abbrev s_ring : Stmt := topS 22
abbrev n_ring : List Str := ["old", "new", "done", "now"]
def b_ring : M Fl := (mRet (mCall f_ring_among (aCons (mCall f_heads_at (aCons (mVar 0) (aCons (mVar 1) (aCons (mVar 2) (aCons (mVar 3) aNil))))) aNil)))
def f_ring : Fn := runF 4 4 b_ring
abbrev s_ring_of_round : Stmt := topS 23
abbrev n_ring_of_round : List Str := ["old", "new", "done", "now"]
def b_ring_of_round : M Fl := (mSeq (mDrop (mCall f_check_trees (aCons (mVar 0) (aCons (mVar 1) aNil))))
    (mSeq (mDrop (mCall f_check_rounds (aCons (mCB gLen (aCons (mVar 0) aNil)) (aCons (mVar 2) (aCons (mVar 3) aNil)))))
    (mRet (mCall f_ring (aCons (mVar 0) (aCons (mVar 1) (aCons (mVar 2) (aCons (mVar 3) aNil))))))))
def f_ring_of_round : Fn := runF 4 4 b_ring_of_round
abbrev s_depth_rounds : Stmt := topS 24
abbrev n_depth_rounds : List Str := ["old", "new", "nodes", "depths", "node", "depth"]
def b_depth_rounds : M Fl := (mSeq (mDrop (mCall f_check_trees (aCons (mVar 0) (aCons (mVar 1) aNil))))
    (mSeq (mAsg (mCall f_differing (aCons (mVar 0) (aCons (mVar 1) aNil))) (gmName 2))
    (mSeq (mAsg (mUn gSetSL (mLc (iSeq (mVar 2)) (gmName 4) mYes (mCall f_depth (aCons (mVar 1) (aCons (mVar 4) aNil))) [4])) (gmName 3))
    (mRet (mCB gTuple (aCons (mLc (iSeq (mVar 3)) (gmName 5) mYes (mCB gTuple (aCons (mLc (iSeq (mVar 2)) (gmName 4) (mTest (mOp gEq (mCall f_depth (aCons (mVar 1) (aCons (mVar 4) aNil))) (mVar 5))) (mVar 4) [4]) aNil)) [5]) aNil))))))
def f_depth_rounds : Fn := runF 2 6 b_depth_rounds
abbrev s_fewest_rounds : Stmt := topS 25
abbrev n_fewest_rounds : List Str := ["nodes", "is_safe", "rounds_to", "waiting", "done", "left", "node", "many", "now", "after"]
def b_fewest_rounds (Fcl : Fn) : M Fl := (mSeq (mAsgO 2 (mDis1 (mTup aNil) (mTup aNil)))
    (mSeq (mAsgO 3 (mLst (aCons (mTup aNil) aNil)))
    (mSeq (mWhile (mTruthO 3) (mSeq (mAsg (mMeth1 3 gPopAt (mC (.int 0))) (gmName 4))
    (mSeq (mAsg (mLc (iSeq (mVar 0)) (gmName 6) (mTest (mOp gNotIn (mVar 6) (mVar 4))) (mVar 6) [6]) (gmName 5))
    (mSeq (mIfS (mNot (mTruth (mVar 5))) (mRet (mDgetN 2 (mVar 4))) mNx)
    (mFor (iRange2 (aCons (mC (.int 1)) (aCons (mOp gAdd (mCB gLen (aCons (mVar 5) aNil)) (mC (.int 1))) aNil))) (gmName 7) (mFor (iComb (aCons (mVar 5) (aCons (mVar 7) aNil))) (gmName 8) (mSeq (mAsg (mCB gTuple (aCons (mCB gSortI (aCons (mOp gAdd (mVar 4) (mVar 8)) aNil)) aNil)) (gmName 9))
    (mIfS (mAnd (mTest (mInN true (mVar 9) 2)) (mTruth (mClo 1 Fcl (aCons (mVar 4) (aCons (mVar 8) aNil))))) (mSeq (mAsg (mTup (aStar (mDgetN 2 (mVar 4)) (aCons (mVar 8) aNil))) (gmItemD 2 (mVar 9)))
    (mDrop (mMeth1 3 gApp (mVar 9)))) mNx))))))) 1000)
    (mRet (mC .non)))))
def f_fewest_rounds (Fcl : Fn) : Fn := runF 2 10 (b_fewest_rounds Fcl)
abbrev s_least_rounds : Stmt := topS 26
abbrev n_least_rounds : List Str := ["old", "new", "done", "now"]
def b_least_rounds : M Fl := (mSeq (mDrop (mCall f_check_trees (aCons (mVar 0) (aCons (mVar 1) aNil))))
    (mRet (mCallF f_fewest_rounds 2 3 (mOp gIsN (mCall f_ring (aCons (mVar 0) (aCons (mVar 1) (aCons (mVar 2) (aCons (mVar 3) aNil))))) (mC .non)) (mCall f_differing (aCons (mVar 0) (aCons (mVar 1) aNil))))))
def f_least_rounds : Fn := runF 2 4 b_least_rounds
abbrev s_bypass : Stmt := topS 27
abbrev n_bypass : List Str := ["old", "new", "done", "now", "start", "guard", "heads", "free", "head", "node", "ways"]
def b_bypass : M Fl := (mSeq (mIfS (mTest (mOp gEq (mVar 4) (mVar 5))) (mRet (mC .non)) mNx)
    (mSeq (mAsg (mCall f_heads_at (aCons (mVar 0) (aCons (mVar 1) (aCons (mVar 2) (aCons (mVar 3) aNil))))) (gmName 6))
    (mSeq (mAsg (mDc (iKeysD (mVar 6)) (gmName 9) mYes (mVar 9) (mLc (iSeq (mOp gDget (mVar 6) (mVar 9))) (gmName 8) (mTest (mOp gNe (mVar 8) (mVar 5))) (mVar 8) [8]) [9]) (gmName 7))
    (mSeq (mAsg (mCall f_paths_to (aCons (mVar 7) (aCons (mVar 4) (aCons (mTup (aCons (mC (.int 0)) aNil)) aNil)))) (gmName 10))
    (mRet (mIf (mTruth (mVar 10)) (mOp gIx (mVar 10) (mC (.int 0))) (mC .non)))))))
def f_bypass : Fn := runF 6 11 b_bypass
abbrev s_check_guard : Stmt := topS 28
abbrev n_check_guard : List Str := ["many", "start", "guard"]
def b_check_guard : M Fl := (mIfS (mOr (mNot (mTest (mCall f_is_number (aCons (mVar 1) (aCons (mC (.int 1)) (aCons (mVar 0) aNil)))))) (mNot (mTest (mCall f_is_number (aCons (mVar 2) (aCons (mC (.int 1)) (aCons (mVar 0) aNil))))))) mSt mNx)
def f_check_guard : Fn := runF 3 3 b_check_guard
abbrev s_guarded_rounds : Stmt := topS 29
abbrev n_guarded_rounds : List Str := ["old", "new", "start", "guard", "is_safe"]
def nb_guarded_rounds : M Fl := (mRet (mAndV (mOp gIsN (mCall f_ring (aCons (mVar 2) (aCons (mVar 3) (aCons (mVar 0) (aCons (mVar 1) aNil))))) (mC .non)) (mOp gIsN (mCall f_bypass (aCons (mVar 2) (aCons (mVar 3) (aCons (mVar 0) (aCons (mVar 1) (aCons (mVar 4) (aCons (mVar 5) aNil))))))) (mC .non))))
def b_guarded_rounds : M Fl := (mSeq (mDrop (mCall f_check_trees (aCons (mVar 0) (aCons (mVar 1) aNil))))
    (mSeq (mDrop (mCall f_check_guard (aCons (mCB gLen (aCons (mVar 0) aNil)) (aCons (mVar 2) (aCons (mVar 3) aNil)))))
    (mNdef 4 (mRet (mIf (mTruth (mNC 4 [0, 1, 2, 3] 6 nb_guarded_rounds (aCons (mTup aNil) (aCons (mTup aNil) aNil)))) (mHand 4 [0, 1, 2, 3] 6 nb_guarded_rounds f_fewest_rounds (mCall f_differing (aCons (mVar 0) (aCons (mVar 1) aNil)))) (mC .non))))))
def f_guarded_rounds : Fn := runF 4 5 b_guarded_rounds
abbrev s_law_taken : Stmt := topS 31
abbrev n_law_taken : List Str := ["row", "many", "found", "cell"]
def b_law_taken : M Fl := (mSeq (mIfS (mTest (mOp gGt (mIxO 0 (mC (.int 3))) (mC (.int 0)))) (mSeq (mAsg (mOp gMod (mCB gInt1 (aCons (mIxO 0 (mC (.int 3))) aNil)) (mVar 1)) (gmName 2))
    (mSeq (mAsg (mOp gDiv (mIxO 0 (mC (.int 3))) (mVar 1)) (gmItem 0 (mC (.int 3))))
    (mRet (mVar 2)))) mNx)
    (mSeq (mAsg (mOp gAdd (mIxO 0 (mC (.int 1))) (mC (.int 1))) (gmItem 0 (mC (.int 1))))
    (mSeq (mIfS (mTest (mOp gGt (mIxO 0 (mC (.int 1))) (mCB gLen (aCons (mIxO 0 (mC (.int 0))) aNil)))) (mSeq (mAsg (mOp gMod (mCB gInt1 (aCons (mOp gAdd (mOp gMul (mIxO 0 (mC (.int 2))) (mC (.int 48271))) (mC (.int 11))) aNil)) (mC (.int 2147483647))) (gmItem 0 (mC (.int 2))))
    (mRet (mOp gMod (mCB gInt1 (aCons (mOp gDiv (mIxO 0 (mC (.int 2))) (mC (.int 7))) aNil)) (mVar 1)))) mNx)
    (mSeq (mAsg (mOp gIx (mIxO 0 (mC (.int 0))) (mOp gMinus (mIxO 0 (mC (.int 1))) (mC (.int 1)))) (gmName 3))
    (mSeq (mAsg (mOp gMod (mCB gInt1 (aCons (mOp gAdd (mOp gAdd (mOp gMul (mIxO 0 (mC (.int 2))) (mC (.int 48271))) (mVar 3)) (mC (.int 11))) aNil)) (mC (.int 2147483647))) (gmItem 0 (mC (.int 2))))
    (mSeq (mIfS (mTest (mOp gGe (mVar 3) (mOp gPow (mC (.int 10)) (mC (.int 18))))) (mAsg (mOp gDiv (mVar 3) (mVar 1)) (gmItem 0 (mC (.int 3)))) mNx)
    (mRet (mOp gMod (mCB gInt1 (aCons (mVar 3) aNil)) (mVar 1)))))))))
def f_law_taken : Fn := runF 2 4 b_law_taken
abbrev s_law : Stmt := topS 32
abbrev n_law : List Str := ["script", "row", "many", "line", "back", "at", "rounds", "old", "new"]
def b_law : M Fl := (mSeq (mAsgO 1 (mLst (aCons (mVar 0) (aCons (mC (.int 0)) (aCons (mC (.int 3566)) (aCons (mC (.int 0)) aNil))))))
    (mSeq (mAsg (mOp gAdd (mC (.int 2)) (mCallO f_law_taken 1 0 (aOwn 1 (aCons (mC (.int 5)) aNil)))) (gmName 2))
    (mSeq (mAsg (mTupRg (mVar 2)) (gmName 3))
    (mSeq (mAsg (mOp gAdd (mCB gTuple (aCons (mLc (iRange1 (aCons (mOp gMinus (mVar 2) (mC (.int 1))) aNil)) (gmName 5) mYes (mOp gAdd (mVar 5) (mC (.int 2))) [5]) aNil)) (mTup (aCons (mC (.int 0)) aNil))) (gmName 4))
    (mSeq (mAsg (mCall f_least_rounds (aCons (mVar 3) (aCons (mVar 4) aNil))) (gmName 6))
    (mSeq (mIfS (mOr (mAnd (mTest (mOp gIsN (mCall f_ring_of_round (aCons (mVar 3) (aCons (mVar 4) (aCons (mTup aNil) (aCons (mTup (aCons (mC (.int 1)) (aCons (mC (.int 2)) aNil))) aNil))))) (mC .non))) (mTest (mOp gGt (mVar 2) (mC (.int 2))))) (mTest (mOp gNotN (mCall f_ring_of_round (aCons (mVar 3) (aCons (mVar 3) (aCons (mTup aNil) (aCons (mTupRg2 (mC (.int 1)) (mOp gAdd (mVar 2) (mC (.int 1)))) aNil))))) (mC .non)))) (mRet (mC (.bl false))) mNx)
    (mSeq (mIfS (mOr (mTest (mOp gNe (mCB gLen (aCons (mCall f_depth_rounds (aCons (mVar 3) (aCons (mVar 4) aNil))) aNil)) (mVar 2))) (mOr (mAnd (mTest (mOp gGt (mCB gLen (aCons (mVar 6) aNil)) (mC (.int 3)))) (mTest (mOp gLt (mVar 2) (mC (.int 4))))) (mTest (mOp gNe (mCall f_least_rounds (aCons (mVar 3) (aCons (mVar 3) aNil))) (mTup aNil))))) (mRet (mC (.bl false))) mNx)
    (mSeq (mPar2 7 false 8 false (psCons (mTup (aCons (mC (.int 2)) (aCons (mC (.int 0)) (aCons (mC (.int 0)) aNil)))) (psCons (mTup (aCons (mC (.int 3)) (aCons (mC (.int 0)) (aCons (mC (.int 2)) aNil)))) psNil)))
    (mSeq (mIfS (mOr (mTest (mOp gIsN (mCall f_guarded_rounds (aCons (mVar 7) (aCons (mVar 8) (aCons (mC (.int 1)) (aCons (mC (.int 2)) aNil))))) (mC .non))) (mTest (mOp gNotN (mCall f_guarded_rounds (aCons (mVar 7) (aCons (mTup (aCons (mC (.int 3)) (aCons (mC (.int 0)) (aCons (mC (.int 0)) aNil)))) (aCons (mC (.int 1)) (aCons (mC (.int 2)) aNil))))) (mC .non)))) (mRet (mC (.bl false))) mNx)
    (mRet (mAndV (mOp gNe (mCall f_guarded_rounds (aCons (mTup (aCons (mC (.int 2)) (aCons (mC (.int 3)) (aCons (mC (.int 0)) aNil)))) (aCons (mTup (aCons (mC (.int 3)) (aCons (mC (.int 0)) (aCons (mC (.int 2)) aNil)))) (aCons (mC (.int 1)) (aCons (mC (.int 2)) aNil))))) (mTup aNil)) (mOp gIn (mCall f_ring_of_round (aCons (mTup (aCons (mC (.int 2)) (aCons (mC (.int 0)) aNil))) (aCons (mTup (aCons (mC (.int 0)) (aCons (mC (.int 1)) aNil))) (aCons (mTup aNil) (aCons (mTup (aCons (mC (.int 2)) aNil)) aNil))))) (mLst (aCons (mTup (aCons (mC (.int 1)) (aCons (mC (.int 2)) (aCons (mC (.int 1)) aNil)))) (aCons (mTup (aCons (mC (.int 2)) (aCons (mC (.int 1)) (aCons (mC (.int 2)) aNil)))) aNil)))))))))))))))
def f_law : Fn := runF 1 9 b_law
end Fx.K66
/-! the defs of routeweb_k66_updates_known keep their denotations -/
namespace Fx.K66
open PySem PySem.Spec PyProof.Rows L2
open C8 (Cal Mak pe_c pe_mk)
open LamX (Tabs TabS TabB ExtN CodeO codeO_ne)
theorem sc_is_number : FnScope n_is_number ["value", "low", "high"] (defScope s_is_number) := ⟨rfl, rfl, rfl, by decide +kernel, rfl, by decide +kernel, by decide +kernel⟩
theorem sc_is_tuple : FnScope n_is_tuple ["value", "least", "most"] (defScope s_is_tuple) := ⟨rfl, rfl, rfl, by decide +kernel, rfl, by decide +kernel, by decide +kernel⟩
theorem sc_are_numbers : FnScope n_are_numbers ["value", "low", "high"] (defScope s_are_numbers) := ⟨rfl, rfl, rfl, by decide +kernel, rfl, by decide +kernel, by decide +kernel⟩
theorem sc_paths_to : FnScope n_paths_to ["heads", "node", "goals"] (defScope s_paths_to) := ⟨rfl, rfl, rfl, by decide +kernel, rfl, by decide +kernel, by decide +kernel⟩
theorem sc_ring_among : FnScope n_ring_among ["heads"] (defScope s_ring_among) := ⟨rfl, rfl, rfl, by decide +kernel, rfl, by decide +kernel, by decide +kernel⟩
theorem sc_depth : FnScope n_depth ["hops", "node"] (defScope s_depth) := ⟨rfl, rfl, rfl, by decide +kernel, rfl, by decide +kernel, by decide +kernel⟩
theorem sc_check_tree : FnScope n_check_tree ["hops", "least", "most"] (defScope s_check_tree) := ⟨rfl, rfl, rfl, by decide +kernel, rfl, by decide +kernel, by decide +kernel⟩
theorem sc_check_trees : FnScope n_check_trees ["old", "new"] (defScope s_check_trees) := ⟨rfl, rfl, rfl, by decide +kernel, rfl, by decide +kernel, by decide +kernel⟩
theorem sc_is_round : FnScope n_is_round ["many", "value"] (defScope s_is_round) := ⟨rfl, rfl, rfl, by decide +kernel, rfl, by decide +kernel, by decide +kernel⟩
theorem sc_check_rounds : FnScope n_check_rounds ["many", "done", "now"] (defScope s_check_rounds) := ⟨rfl, rfl, rfl, by decide +kernel, rfl, by decide +kernel, by decide +kernel⟩
theorem sc_heads_at : FnScope n_heads_at ["old", "new", "done", "now"] (defScope s_heads_at) := ⟨rfl, rfl, rfl, by decide +kernel, rfl, by decide +kernel, by decide +kernel⟩
theorem sc_differing : FnScope n_differing ["old", "new"] (defScope s_differing) := ⟨rfl, rfl, rfl, by decide +kernel, rfl, by decide +kernel, by decide +kernel⟩
theorem sc_ring : FnScope n_ring ["old", "new", "done", "now"] (defScope s_ring) := ⟨rfl, rfl, rfl, by decide +kernel, rfl, by decide +kernel, by decide +kernel⟩
theorem sc_ring_of_round : FnScope n_ring_of_round ["old", "new", "done", "now"] (defScope s_ring_of_round) := ⟨rfl, rfl, rfl, by decide +kernel, rfl, by decide +kernel, by decide +kernel⟩
theorem sc_depth_rounds : FnScope n_depth_rounds ["old", "new"] (defScope s_depth_rounds) := ⟨rfl, rfl, rfl, by decide +kernel, rfl, by decide +kernel, by decide +kernel⟩
theorem sc_fewest_rounds : FnScope n_fewest_rounds ["nodes", "is_safe"] (defScope s_fewest_rounds) := ⟨rfl, rfl, rfl, by decide +kernel, rfl, by decide +kernel, by decide +kernel⟩
theorem sc_least_rounds : FnScope n_least_rounds ["old", "new"] (defScope s_least_rounds) := ⟨rfl, rfl, rfl, by decide +kernel, rfl, by decide +kernel, by decide +kernel⟩
theorem sc_bypass : FnScope n_bypass ["old", "new", "done", "now", "start", "guard"] (defScope s_bypass) := ⟨rfl, rfl, rfl, by decide +kernel, rfl, by decide +kernel, by decide +kernel⟩
theorem sc_check_guard : FnScope n_check_guard ["many", "start", "guard"] (defScope s_check_guard) := ⟨rfl, rfl, rfl, by decide +kernel, rfl, by decide +kernel, by decide +kernel⟩
theorem sc_guarded_rounds : FnScope n_guarded_rounds ["old", "new", "start", "guard"] (defScope s_guarded_rounds) := ⟨rfl, rfl, rfl, by decide +kernel, rfl, by decide +kernel, by decide +kernel⟩
theorem sc_law_taken : FnScope n_law_taken ["row", "many"] (defScope s_law_taken) := ⟨rfl, rfl, rfl, by decide +kernel, rfl, by decide +kernel, by decide +kernel⟩
theorem sc_law : FnScope n_law ["script"] (defScope s_law) := ⟨rfl, rfl, rfl, by decide +kernel, rfl, by decide +kernel, by decide +kernel⟩
/-- what the text tells -/
structure Tx (P : Program) (w : World) (c : Cfg) (mg : Str → Option Value) (base : Heap) : Prop where
  b_all : mg "all" = none
  b_any : mg "any" = none
  b_bool : mg "bool" = none
  b_enumerate : mg "enumerate" = none
  b_int : mg "int" = none
  b_isinstance : mg "isinstance" = none
  b_len : mg "len" = none
  b_list : mg "list" = none
  b_range : mg "range" = none
  b_reversed : mg "reversed" = none
  b_set : mg "set" = none
  b_sorted : mg "sorted" = none
  b_tuple : mg "tuple" = none
  b_zip : mg "zip" = none
  w_ : w = c.w
  c_MOST_HOPS : ∃ t, mg "MOST_HOPS" = some (Value.int 7 t)
  k_combinations : mg "combinations" = some (.type "itertools.combinations")
section
variable {P : Program} {w : World} {c : Cfg} {mg : Str → Option Value} {base : Heap}
theorem Tx.cF (T : Tx P w c mg base) (fq : Addr) (kq : Hp) : Tx P w (cF c fq kq) mg base := { b_all := T.b_all, b_any := T.b_any, b_bool := T.b_bool, b_enumerate := T.b_enumerate, b_int := T.b_int, b_isinstance := T.b_isinstance, b_len := T.b_len, b_list := T.b_list, b_range := T.b_range, b_reversed := T.b_reversed, b_set := T.b_set, b_sorted := T.b_sorted, b_tuple := T.b_tuple, b_zip := T.b_zip, w_ := T.w_, c_MOST_HOPS := T.c_MOST_HOPS, k_combinations := T.k_combinations }
theorem ok_is_number {f : Addr} {fd : FuncData} (T : Tx P w c mg base) (F : Fun c.K "is_number" "is_number" s_is_number f fd)  : FnOk P w c.K mg base L2.CX0 1 f fd ["value", "low", "high"] (spF c f_is_number) := by
  exact fn_den (k := 0) (N := n_is_number) (ps := ["value", "low", "high"]) (body := b_is_number) F sc_is_number fun cdv A outer s H E hr => QSs.out (by exact (ss_one (s_ret (q_and (q_blt b_isi T.b_isinstance (a_cons (qv 0) (a_cons (qty T.b_int) a_nil))) (q_and (q_not (q_blt b_isi T.b_isinstance (a_cons (qv 0) (a_cons (qty T.b_bool) a_nil)))) (q_one (q_chain (r_le) (r_le) (qv 1) (qv 0) (qv 2))))))))
theorem ok_is_tuple {f : Addr} {fd : FuncData} (T : Tx P w c mg base) (F : Fun c.K "is_tuple" "is_tuple" s_is_tuple f fd)  : FnOk P w c.K mg base L2.CX0 1 f fd ["value", "least", "most"] (spF c f_is_tuple) := by
  exact fn_den (k := 0) (N := n_is_tuple) (ps := ["value", "least", "most"]) (body := b_is_tuple) F sc_is_tuple fun cdv A outer s H E hr => QSs.out (by exact (ss_one (s_ret (q_and (q_blt b_isi T.b_isinstance (a_cons (qv 0) (a_cons (qty T.b_tuple) a_nil))) (q_one (q_chain (r_le) (r_le) (qv 1) (q_blt b_len T.b_len (a_cons (qv 0) a_nil)) (qv 2)))))))
theorem ok_are_numbers {f : Addr} {fd : FuncData} (T : Tx P w c mg base) (F : Fun c.K "are_numbers" "are_numbers" s_are_numbers f fd) (C_is_number : Cal P w c.K mg base 1 "is_number" (spF c f_is_number) []) : FnOk P w c.K mg base L2.CX0 2 f fd ["value", "low", "high"] (spF c f_are_numbers) := by
  exact fn_den (k := 1) (N := n_are_numbers) (ps := ["value", "low", "high"]) (body := b_are_numbers) F sc_are_numbers fun cdv A outer s H E hr => QSs.out (by exact (ss_one (s_ret (q_and (q_blt b_isi T.b_isinstance (a_cons (qv 0) (a_cons (qty T.b_tuple) a_nil))) (q_one (q_blt b_all T.b_all (a_cons (q_lc (own := [("item", 3)]) sc_are_numbers.nd (i_seq (qv 0)) (blkOk_by (own := [("item", 3)]) (N := n_are_numbers) (sc := defScope s_are_numbers) (by decide +kernel)) (fun _ _ _ _ _ => (by exact (g_name 3 sc_are_numbers.nd))) (fun _ _ _ _ _ => (by exact ts_nil)) (fun _ _ _ _ _ => (by exact (q_call C_is_number hr (by omega) (a_cons (qv 3) (a_cons (qv 1) (a_cons (qv 2) a_nil))))))) a_nil)))))))
theorem ok_paths_to {f : Addr} {fd : FuncData} (T : Tx P w c mg base) (F : Fun c.K "paths_to" "paths_to" s_paths_to f fd)  : FnOk P w c.K mg base L2.CX0 1 f fd ["heads", "node", "goals"] (spF c f_paths_to) := by
  exact fn_den (k := 0) (N := n_paths_to) (ps := ["heads", "node", "goals"]) (body := b_paths_to) F sc_paths_to fun cdv A outer s H E hr => QSs.out (by exact (ss_cons (s_setO 3 sc_paths_to.nd (q_lst a_nil))
      (ss_cons (s_setO 4 sc_paths_to.nd (q_lst (a_cons (q_tup (a_cons (qv 1) a_nil)) a_nil)))
      (ss_cons (s_while 20000 PassesOwn.never (t_truO 4) (ss_cons (s_set 5 sc_paths_to.nd (q_pop 4))
      (ss_one (s_if (t_cmp (r_in hr) (q_ix (qv 5) (q_neg (qint))) (qv 2) (by with_unfolding_all rfl)) (ss_one (s_expr (q_append 3 (qv 5)))) (ss_one (s_expr (q_extend 4 (q_lc (own := [("head", 6)]) sc_paths_to.nd (i_rev T.b_reversed (a_cons (q_dget hr T.w_ (qv 0) (q_ix (qv 5) (q_neg (qint)))) a_nil)) (blkOk_by (own := [("head", 6)]) (N := n_paths_to) (sc := defScope s_paths_to) (by decide +kernel)) (fun _ _ _ _ _ => (by exact (g_name 6 sc_paths_to.nd))) (fun _ _ _ _ _ => (by exact (ts_one (t_cmp (r_nin hr) (qv 6) (qv 5) (by with_unfolding_all rfl))))) (fun _ _ _ _ _ => (by exact (q_tup (a_star (qv 5) (a_cons (qv 6) a_nil)))))))))))))
      (ss_one (s_retO 3))))))
theorem ok_ring_among {f : Addr} {fd : FuncData} (T : Tx P w c mg base) (F : Fun c.K "ring_among" "ring_among" s_ring_among f fd)  : FnOk P w c.K mg base L2.CX0 1 f fd ["heads"] (spF c f_ring_among) := by
  exact fn_den (k := 0) (N := n_ring_among) (ps := ["heads"]) (body := b_ring_among) F sc_ring_among fun cdv A outer s H E hr => QSs.out (by exact (ss_cons (s_set 1 sc_ring_among.nd (q_blt (b_listD T.w_) T.b_list (a_cons (qv 0) a_nil)))
      (ss_cons (s_set 2 sc_ring_among.nd (qv 1))
      (ss_cons (s_while 1000 PassesOwn.never (t_tru (qv 2)) (ss_cons (s_set 2 sc_ring_among.nd (q_lc (own := [("node", 3)]) sc_ring_among.nd (i_seq (qv 1)) (blkOk_by (own := [("node", 3)]) (N := n_ring_among) (sc := defScope s_ring_among) (by decide +kernel)) (fun _ _ _ _ _ => (by exact (g_name 3 sc_ring_among.nd))) (fun _ _ _ _ _ => (by exact (ts_one (t_not (t_tru (q_lc (own := [("head", 4)]) sc_ring_among.nd (i_seq (q_dget hr T.w_ (qv 0) (qv 3))) (blkOk_by (own := [("head", 4)]) (N := n_ring_among) (by first | kernel_rfl | rfl | with_unfolding_all rfl)) (fun _ _ _ _ _ => (by exact (g_name 4 sc_ring_among.nd))) (fun _ _ _ _ _ => (by exact (ts_one (t_cmp (r_in hr) (qv 4) (qv 1) (by with_unfolding_all rfl))))) (fun _ _ _ _ _ => (by exact (qv 4))))))))) (fun _ _ _ _ _ => (by exact (qv 3)))))
      (ss_one (s_set 1 sc_ring_among.nd (q_lc (own := [("node", 3)]) sc_ring_among.nd (i_seq (qv 1)) (blkOk_by (own := [("node", 3)]) (N := n_ring_among) (sc := defScope s_ring_among) (by decide +kernel)) (fun _ _ _ _ _ => (by exact (g_name 3 sc_ring_among.nd))) (fun _ _ _ _ _ => (by exact (ts_one (t_cmp (r_nin hr) (qv 3) (qv 2) (by with_unfolding_all rfl))))) (fun _ _ _ _ _ => (by exact (qv 3))))))))
      (ss_cons (s_if (t_not (t_tru (qv 1))) (ss_one (s_ret (qnon))) ss_nil)
      (ss_cons (s_setO 5 sc_ring_among.nd (q_lst (a_cons (q_ix (qv 1) (qint)) a_nil)))
      (ss_cons (s_while 1000 PassesOwn.never (t_cmp (r_eq hr) (q_cntO 5 (un66 hr) (q_ixO 5 (q_neg (qint)))) (qint)) (ss_one (s_expr (q_append 5 (q_ix (q_lc (own := [("head", 4)]) sc_ring_among.nd (i_seq (q_dget hr T.w_ (qv 0) (q_ixO 5 (q_neg (qint))))) (blkOk_by (own := [("head", 4)]) (N := n_ring_among) (sc := defScope s_ring_among) (by decide +kernel)) (fun _ _ _ _ _ => (by exact (g_name 4 sc_ring_among.nd))) (fun _ _ _ _ _ => (by exact (ts_one (t_cmp (r_in hr) (qv 4) (qv 1) (by with_unfolding_all rfl))))) (fun _ _ _ _ _ => (by exact (qv 4)))) (qint))))))
      (ss_one (s_ret (q_blt b_tuple T.b_tuple (a_cons (q_sl (qv 5) (o_some (q_idxO 5 (un66 hr) (q_ixO 5 (q_neg (qint))))) o_none) a_nil)))))))))))
theorem ok_depth {f : Addr} {fd : FuncData} (T : Tx P w c mg base) (F : Fun c.K "_depth" "_depth" s_depth f fd)  : FnOk P w c.K mg base L2.CX0 1 f fd ["hops", "node"] (spF c f_depth) := by
  exact fn_den (k := 0) (N := n_depth) (ps := ["hops", "node"]) (body := b_depth) F sc_depth fun cdv A outer s H E hr => QSs.out (by exact (ss_cons (s_set 2 sc_depth.nd (qv 1))
      (ss_cons (s_for PassesOwn.never (i_range1 T.b_range (a_cons (q_add (q_blt b_len T.b_len (a_cons (qv 0) a_nil)) (qint)) a_nil)) (g_name 3 sc_depth.nd) (ss_cons (s_if (t_cmp (r_eq hr) (qv 2) (qint)) (ss_one (s_ret (qv 3))) ss_nil)
      (ss_one (s_set 2 sc_depth.nd (q_ix (qv 0) (q_sub (qv 2) (qint)))))))
      (ss_one (s_ret (qnon))))))
theorem ok_check_tree {f : Addr} {fd : FuncData} (T : Tx P w c mg base) (F : Fun c.K "_check_tree" "_check_tree" s_check_tree f fd) (C_is_number : Cal P w c.K mg base 1 "is_number" (spF c f_is_number) []) (C_is_tuple : Cal P w c.K mg base 1 "is_tuple" (spF c f_is_tuple) []) (C_depth : Cal P w c.K mg base 1 "_depth" (spF c f_depth) []) : FnOk P w c.K mg base L2.CX0 3 f fd ["hops", "least", "most"] (spF c f_check_tree) := by
  exact fn_den (k := 2) (N := n_check_tree) (ps := ["hops", "least", "most"]) (body := b_check_tree) F sc_check_tree fun cdv A outer s H E hr => QSs.out (by exact (ss_cons (s_if (t_not (t_val (q_call C_is_tuple hr (by omega) (a_cons (qv 0) (a_cons (qv 1) (a_cons (qv 2) a_nil)))))) ss_never ss_nil)
      (ss_cons (s_for PassesOwn.never (i_enum T.b_enumerate (a_cons (qv 0) a_nil)) (g_tup 2 (gs_cons (g_name 3 sc_check_tree.nd) (gs_cons (g_name 4 sc_check_tree.nd) gs_nil))) (ss_one (s_if (QW.t (w_or (t_not (t_val (q_call C_is_number hr (by omega) (a_cons (qv 4) (a_cons (qint) (a_cons (q_blt b_len T.b_len (a_cons (qv 0) a_nil)) a_nil)))))) (w_or1 (t_cmp (r_eq hr) (qv 4) (q_add (qv 3) (qint)))))) ss_never ss_nil)))
      (ss_one (s_for PassesOwn.never (i_range1 T.b_range (a_cons (q_blt b_len T.b_len (a_cons (qv 0) a_nil)) a_nil)) (g_name 3 sc_check_tree.nd) (ss_one (s_if (t_cmp (r_is) (q_call C_depth hr (by omega) (a_cons (qv 0) (a_cons (q_add (qv 3) (qint)) a_nil))) (qnon)) ss_never ss_nil)))))))
theorem ok_check_trees {f : Addr} {fd : FuncData} (T : Tx P w c mg base) (F : Fun c.K "_check_trees" "_check_trees" s_check_trees f fd) (C_check_tree : Cal P w c.K mg base 3 "_check_tree" (spF c f_check_tree) []) : FnOk P w c.K mg base L2.CX0 4 f fd ["old", "new"] (spF c f_check_trees) := by
  exact fn_den (k := 3) (N := n_check_trees) (ps := ["old", "new"]) (body := b_check_trees) F sc_check_trees fun cdv A outer s H E hr => QSs.out (by exact (ss_cons (s_expr (q_call C_check_tree hr (by omega) (a_cons (qv 0) (a_cons (qint) (a_cons (qk T.c_MOST_HOPS) a_nil)))))
      (ss_one (s_expr (q_call C_check_tree hr (by omega) (a_cons (qv 1) (a_cons (q_blt b_len T.b_len (a_cons (qv 0) a_nil)) (a_cons (q_blt b_len T.b_len (a_cons (qv 0) a_nil)) a_nil))))))))
theorem ok_is_round {f : Addr} {fd : FuncData} (T : Tx P w c mg base) (F : Fun c.K "_is_round" "_is_round" s_is_round f fd) (C_are_numbers : Cal P w c.K mg base 2 "are_numbers" (spF c f_are_numbers) []) : FnOk P w c.K mg base L2.CX0 3 f fd ["many", "value"] (spF c f_is_round) := by
  exact fn_den (k := 2) (N := n_is_round) (ps := ["many", "value"]) (body := b_is_round) F sc_is_round fun cdv A outer s H E hr => QSs.out (by exact (ss_one (s_ret (q_and (q_call C_are_numbers hr (by omega) (a_cons (qv 1) (a_cons (qint) (a_cons (qv 0) a_nil)))) (q_one (q_cmp (r_eq hr) (q_blt b_list T.b_list (a_cons (qv 1) a_nil)) (q_setS T.b_sorted T.b_set (qv 1))))))))
theorem ok_check_rounds {f : Addr} {fd : FuncData} (T : Tx P w c mg base) (F : Fun c.K "_check_rounds" "_check_rounds" s_check_rounds f fd) (C_is_round : Cal P w c.K mg base 3 "_is_round" (spF c f_is_round) []) : FnOk P w c.K mg base L2.CX0 4 f fd ["many", "done", "now"] (spF c f_check_rounds) := by
  exact fn_den (k := 3) (N := n_check_rounds) (ps := ["many", "done", "now"]) (body := b_check_rounds) F sc_check_rounds fun cdv A outer s H E hr => QSs.out (by exact (ss_cons (s_if (t_not (t_val (q_call C_is_round hr (by omega) (a_cons (qv 0) (a_cons (qv 1) a_nil))))) ss_never ss_nil)
      (ss_one (s_if (QW.t (w_or (t_not (t_val (q_call C_is_round hr (by omega) (a_cons (qv 0) (a_cons (qv 2) a_nil))))) (w_or1 (t_val (q_blt b_any T.b_any (a_cons (q_lc (own := [("node", 3)]) sc_check_rounds.nd (i_seq (qv 2)) (blkOk_by (own := [("node", 3)]) (N := n_check_rounds) (sc := defScope s_check_rounds) (by decide +kernel)) (fun _ _ _ _ _ => (by exact (g_name 3 sc_check_rounds.nd))) (fun _ _ _ _ _ => (by exact ts_nil)) (fun _ _ _ _ _ => (by exact (q_cmp (r_in hr) (qv 3) (qv 1) (by with_unfolding_all rfl))))) a_nil)))))) ss_never ss_nil))))
theorem ok_heads_at {f : Addr} {fd : FuncData} (T : Tx P w c mg base) (F : Fun c.K "_heads_at" "_heads_at" s_heads_at f fd)  : FnOk P w c.K mg base L2.CX0 1 f fd ["old", "new", "done", "now"] (spF c f_heads_at) := by
  exact fn_den (k := 0) (N := n_heads_at) (ps := ["old", "new", "done", "now"]) (body := b_heads_at) F sc_heads_at fun cdv A outer s H E hr => QSs.out (by exact (ss_cons (s_setO 4 sc_heads_at.nd (q_dis1 hr T.w_ (qint) (q_lst a_nil)))
      (ss_cons (s_for PassesOwn.never (i_enz (k := 1) T.b_enumerate T.b_zip (a_cons (qv 0) (a_cons (qv 1) a_nil))) (g_tup 2 (gs_cons (g_name 5 sc_heads_at.nd) (gs_cons (g_tup 2 (gs_cons (g_name 6 sc_heads_at.nd) (gs_cons (g_name 7 sc_heads_at.nd) gs_nil))) gs_nil))) (ss_one (s_if (t_cmp (r_in hr) (qv 5) (qv 3) (by with_unfolding_all rfl)) (ss_one (s_asg (q_setSL T.b_sorted T.b_set (q_lst (a_cons (qv 6) (a_cons (qv 7) a_nil)))) (g_itemD 4 hr T.w_ (qv 5)))) (ss_one (s_asg (q_lst (a_cons (q_if (t_cmp (r_in hr) (qv 5) (qv 2) (by with_unfolding_all rfl)) (qv 7) (qv 6)) a_nil)) (g_itemD 4 hr T.w_ (qv 5)))))))
      (ss_one (s_retO 4)))))
theorem ok_differing {f : Addr} {fd : FuncData} (T : Tx P w c mg base) (F : Fun c.K "_differing" "_differing" s_differing f fd)  : FnOk P w c.K mg base L2.CX0 1 f fd ["old", "new"] (spF c f_differing) := by
  exact fn_den (k := 0) (N := n_differing) (ps := ["old", "new"]) (body := b_differing) F sc_differing fun cdv A outer s H E hr => QSs.out (by exact (ss_one (s_ret (q_lc (own := [("node", 2)]) sc_differing.nd (i_range2 T.b_range (a_cons (qint) (a_cons (q_add (q_blt b_len T.b_len (a_cons (qv 0) a_nil)) (qint)) a_nil))) (blkOk_by (own := [("node", 2)]) (N := n_differing) (sc := defScope s_differing) (by decide +kernel)) (fun _ _ _ _ _ => (by exact (g_name 2 sc_differing.nd))) (fun _ _ _ _ _ => (by exact (ts_one (t_cmp (r_ne hr) (q_ix (qv 0) (q_sub (qv 2) (qint))) (q_ix (qv 1) (q_sub (qv 2) (qint))))))) (fun _ _ _ _ _ => (by exact (qv 2)))))))
theorem ok_ring {f : Addr} {fd : FuncData} (T : Tx P w c mg base) (F : Fun c.K "_ring" "_ring" s_ring f fd) (C_ring_among : Cal P w c.K mg base 1 "ring_among" (spF c f_ring_among) []) (C_heads_at : Cal P w c.K mg base 1 "_heads_at" (spF c f_heads_at) []) : FnOk P w c.K mg base L2.CX0 2 f fd ["old", "new", "done", "now"] (spF c f_ring) := by
  exact fn_den (k := 1) (N := n_ring) (ps := ["old", "new", "done", "now"]) (body := b_ring) F sc_ring fun cdv A outer s H E hr => QSs.out (by exact (ss_one (s_ret (q_call C_ring_among hr (by omega) (a_cons (q_call C_heads_at hr (by omega) (a_cons (qv 0) (a_cons (qv 1) (a_cons (qv 2) (a_cons (qv 3) a_nil))))) a_nil)))))
theorem ok_ring_of_round {f : Addr} {fd : FuncData} (T : Tx P w c mg base) (F : Fun c.K "ring_of_round" "ring_of_round" s_ring_of_round f fd) (C_check_trees : Cal P w c.K mg base 4 "_check_trees" (spF c f_check_trees) []) (C_check_rounds : Cal P w c.K mg base 4 "_check_rounds" (spF c f_check_rounds) []) (C_ring : Cal P w c.K mg base 2 "_ring" (spF c f_ring) []) : FnOk P w c.K mg base L2.CX0 5 f fd ["old", "new", "done", "now"] (spF c f_ring_of_round) := by
  exact fn_den (k := 4) (N := n_ring_of_round) (ps := ["old", "new", "done", "now"]) (body := b_ring_of_round) F sc_ring_of_round fun cdv A outer s H E hr => QSs.out (by exact (ss_cons (s_expr (q_call C_check_trees hr (by omega) (a_cons (qv 0) (a_cons (qv 1) a_nil))))
      (ss_cons (s_expr (q_call C_check_rounds hr (by omega) (a_cons (q_blt b_len T.b_len (a_cons (qv 0) a_nil)) (a_cons (qv 2) (a_cons (qv 3) a_nil)))))
      (ss_one (s_ret (q_call C_ring hr (by omega) (a_cons (qv 0) (a_cons (qv 1) (a_cons (qv 2) (a_cons (qv 3) a_nil))))))))))
theorem ok_depth_rounds {f : Addr} {fd : FuncData} (T : Tx P w c mg base) (F : Fun c.K "depth_rounds" "depth_rounds" s_depth_rounds f fd) (C_depth : Cal P w c.K mg base 1 "_depth" (spF c f_depth) []) (C_check_trees : Cal P w c.K mg base 4 "_check_trees" (spF c f_check_trees) []) (C_differing : Cal P w c.K mg base 1 "_differing" (spF c f_differing) []) : FnOk P w c.K mg base L2.CX0 5 f fd ["old", "new"] (spF c f_depth_rounds) := by
  exact fn_den (k := 4) (N := n_depth_rounds) (ps := ["old", "new"]) (body := b_depth_rounds) F sc_depth_rounds fun cdv A outer s H E hr => QSs.out (by exact (ss_cons (s_expr (q_call C_check_trees hr (by omega) (a_cons (qv 0) (a_cons (qv 1) a_nil))))
      (ss_cons (s_set 2 sc_depth_rounds.nd (q_call C_differing hr (by omega) (a_cons (qv 0) (a_cons (qv 1) a_nil))))
      (ss_cons (s_set 3 sc_depth_rounds.nd (q_setSL T.b_sorted T.b_set (q_lc (own := [("node", 4)]) sc_depth_rounds.nd (i_seq (qv 2)) (blkOk_by (own := [("node", 4)]) (N := n_depth_rounds) (sc := defScope s_depth_rounds) (by decide +kernel)) (fun _ _ _ _ _ => (by exact (g_name 4 sc_depth_rounds.nd))) (fun _ _ _ _ _ => (by exact ts_nil)) (fun _ _ _ _ _ => (by exact (q_call C_depth hr (by omega) (a_cons (qv 1) (a_cons (qv 4) a_nil))))))))
      (ss_one (s_ret (q_blt b_tuple T.b_tuple (a_cons (q_lc (own := [("depth", 5)]) sc_depth_rounds.nd (i_seq (qv 3)) (blkOk_by (own := [("depth", 5)]) (N := n_depth_rounds) (sc := defScope s_depth_rounds) (by decide +kernel)) (fun _ _ _ _ _ => (by exact (g_name 5 sc_depth_rounds.nd))) (fun _ _ _ _ _ => (by exact ts_nil)) (fun _ _ _ _ _ => (by exact (q_blt b_tuple T.b_tuple (a_cons (q_lc (own := [("node", 4)]) sc_depth_rounds.nd (i_seq (qv 2)) (blkOk_by (own := [("node", 4)]) (N := n_depth_rounds) (by first | kernel_rfl | rfl | with_unfolding_all rfl)) (fun _ _ _ _ _ => (by exact (g_name 4 sc_depth_rounds.nd))) (fun _ _ _ _ _ => (by exact (ts_one (t_cmp (r_eq hr) (q_call C_depth hr (by omega) (a_cons (qv 1) (a_cons (qv 4) a_nil))) (qv 5))))) (fun _ _ _ _ _ => (by exact (qv 4)))) a_nil))))) a_nil))))))))
theorem gf_fewest_rounds {g : Addr} {cdv : Value} (T : Tx P w c mg base) : ∀ (A : Around) (stack : List Env) (s : Shared) (H : Hp), Room 2 (A.deeper (envOfC "_fewest_rounds" (defScope s_fewest_rounds) s.heap.objs.size g cdv)) → ∀ (f c' : Addr) (kn : Hp) (q : Str) (hd : Hp → Prop) (tb : List V → Hp → VK → Prop) (Fcl : Fn), (∀ H : Hp, (∀ a o, kn a = some o → H a = some o) → hd H) → ActG (cxOf C8.CX0 P w c.K mg base n_fewest_rounds "_fewest_rounds" (defScope s_fewest_rounds) g cdv A stack s H C8.E0).nox "is_safe" 1 f c' q hd tb → CloOk (cF c f kn) c' q tb Fcl → ∃ t, PSs (cxOf C8.CX0 P w c.K mg base n_fewest_rounds "_fewest_rounds" (defScope s_fewest_rounds) g cdv A stack s H C8.E0).nox (defBody s_fewest_rounds) t ∧ DenS (cF c f kn) W0 t (b_fewest_rounds Fcl) := fun A stack s H hr f c' kn q hd tb Fcl hh act CL => QSs.out (by exact (ss_cons (s_setO 2 sc_fewest_rounds.nd (q_dis1 hr T.w_ (q_tup a_nil) (q_tup a_nil)))
      (ss_cons (s_setO 3 sc_fewest_rounds.nd (q_lst (a_cons (q_tup a_nil) a_nil)))
      (ss_cons (s_while 1000 PassesOwn.never (t_truO 3) (ss_cons (s_set 4 sc_fewest_rounds.nd (q_popAt 3 (qint)))
      (ss_cons (s_setLc (own := [("node", 6)]) 5 sc_fewest_rounds.nd (i_seq (qv 0)) (blkOk_by (own := [("node", 6)]) (N := n_fewest_rounds) (sc := defScope s_fewest_rounds) (by decide +kernel)) (fun _ _ _ _ _ => (by exact (g_name 6 sc_fewest_rounds.nd))) (fun _ _ _ _ _ => (by exact (ts_one (t_cmp (r_nin hr) (qv 6) (qv 4) (by with_unfolding_all rfl))))) (fun _ _ _ _ _ => (by exact (qv 6))) (hw := sw_true rfl rfl rfl (by decide +kernel)))
      (ss_cons (s_if (t_not (t_tru (qv 5))) (ss_one (s_ret (q_dgetN 2 hr T.w_ (qv 4)))) ss_nil)
      (ss_one (s_for PassesOwn.never (i_range2 T.b_range (a_cons (qint) (a_cons (q_add (q_blt b_len T.b_len (a_cons (qv 5) a_nil)) (qint)) a_nil))) (g_name 7 sc_fewest_rounds.nd) (ss_one (s_for PassesOwn.never (i_comb T.k_combinations (a_cons (qv 5) (a_cons (qv 7) a_nil))) (g_name 8 sc_fewest_rounds.nd) (ss_cons (s_set 9 sc_fewest_rounds.nd (q_blt b_tuple T.b_tuple (a_cons (q_blt b_sortI T.b_sorted (a_cons (q_add (qv 4) (qv 8)) a_nil)) a_nil)))
      (ss_one (s_if (QW.t (w_and (t_ninN 2 hr T.w_ (qv 9)) (w_and1 (t_tru (q_clG act hh CL (a_cons (qv 4) (a_cons (qv 8) a_nil))))))) (ss_cons (s_asg (q_tup (a_star (q_dgetN 2 hr T.w_ (qv 4)) (a_cons (qv 8) a_nil))) (g_itemD 2 hr T.w_ (qv 9)))
      (ss_one (s_expr (q_append 3 (qv 9))))) ss_nil)))))))))))
      (ss_one (s_ret (qnon)))))))
theorem ok_least_rounds {f : Addr} {fd : FuncData} (T : Tx P w c mg base) {cc tb : Addr} (F : FunC c.K "least_rounds" "least_rounds" s_least_rounds f fd cc) (TB : TabB base mg cc tb) (hmT : (tb, (Str.ofString "least_rounds" ++ ".<locals>.") ++ "<lambda>") ∈ c.T) (huT : ∀ p ∈ c.T, p.1 = tb → p.2 = (Str.ofString "least_rounds" ++ ".<locals>.") ++ "<lambda>") (C_check_trees : Cal P w c.K mg base 4 "_check_trees" (spF c f_check_trees) []) (C_differing : Cal P w c.K mg base 1 "_differing" (spF c f_differing) []) (CQ_ring : ∀ (fq : Addr) (kq : Hp), Cal P w c.K mg base 2 "_ring" (spF (cF c fq kq) f_ring) []) (h0c : c.exc = none) (CG_fewest_rounds : CalG P w c.K mg base 2 "_fewest_rounds" c f_fewest_rounds) : FnOk P w c.K mg base L2.CX0 5 f fd ["old", "new"] (spF c f_least_rounds) := by
  exact fnC_den (k := 4) (N := n_least_rounds) (ps := ["old", "new"]) (body := b_least_rounds) F sc_least_rounds fun A outer s H E hr => QSs.out (by exact (ss_cons (s_expr (q_call C_check_trees hr (by omega) (a_cons (qv 0) (a_cons (qv 1) a_nil))))
      (ss_one (s_ret (q_callF CG_fewest_rounds.toF h0c (q_call C_differing hr (by omega) (a_cons (qv 0) (a_cons (qv 1) a_nil))) TB hmT huT hr (by omega) (lamS2_by (a := "done") (b := "now") (by kernel_rfl)) sc_least_rounds.nd (fun A outer s H fq c' kq hr => (by exact (q_cmp (r_is) (q_call (CQ_ring fq kq) hr (by omega) (a_cons (qv 0) (a_cons (qv 1) (a_cons (qv 2) (a_cons (qv 3) a_nil))))) (qnon)))))))))
theorem ok_bypass {f : Addr} {fd : FuncData} (T : Tx P w c mg base) (F : Fun c.K "_bypass" "_bypass" s_bypass f fd) (C_paths_to : Cal P w c.K mg base 1 "paths_to" (spF c f_paths_to) []) (C_heads_at : Cal P w c.K mg base 1 "_heads_at" (spF c f_heads_at) []) : FnOk P w c.K mg base L2.CX0 2 f fd ["old", "new", "done", "now", "start", "guard"] (spF c f_bypass) := by
  exact fn_den (k := 1) (N := n_bypass) (ps := ["old", "new", "done", "now", "start", "guard"]) (body := b_bypass) F sc_bypass fun cdv A outer s H E hr => QSs.out (by exact (ss_cons (s_if (t_cmp (r_eq hr) (qv 4) (qv 5)) (ss_one (s_ret (qnon))) ss_nil)
      (ss_cons (s_set 6 sc_bypass.nd (q_call C_heads_at hr (by omega) (a_cons (qv 0) (a_cons (qv 1) (a_cons (qv 2) (a_cons (qv 3) a_nil))))))
      (ss_cons (s_setDc 7 hr T.w_ (own := [("node", 9)]) sc_bypass.nd (i_keysD T.w_ (qv 6)) (blkOk_by (own := [("node", 9)]) (N := n_bypass) (sc := defScope s_bypass) (by decide +kernel)) (fun _ _ _ _ _ => (by exact (g_name 9 sc_bypass.nd))) (fun _ _ _ _ _ => (by exact ts_nil)) (fun _ _ _ _ _ => (by exact (qv 9))) (fun _ _ _ _ _ => (by exact (q_lc (own := [("head", 8)]) sc_bypass.nd (i_seq (q_dget hr T.w_ (qv 6) (qv 9))) (blkOk_by (own := [("head", 8)]) (N := n_bypass) (by first | kernel_rfl | rfl | with_unfolding_all rfl)) (fun _ _ _ _ _ => (by exact (g_name 8 sc_bypass.nd))) (fun _ _ _ _ _ => (by exact (ts_one (t_cmp (r_ne hr) (qv 8) (qv 5))))) (fun _ _ _ _ _ => (by exact (qv 8)))))) (hsw := swD rfl rfl rfl (by decide +kernel)))
      (ss_cons (s_set 10 sc_bypass.nd (q_call C_paths_to hr (by omega) (a_cons (qv 7) (a_cons (qv 4) (a_cons (q_tup (a_cons (qint) a_nil)) a_nil)))))
      (ss_one (s_ret (q_if (t_tru (qv 10)) (q_ix (qv 10) (qint)) (qnon)))))))))
theorem ok_check_guard {f : Addr} {fd : FuncData} (T : Tx P w c mg base) (F : Fun c.K "_check_guard" "_check_guard" s_check_guard f fd) (C_is_number : Cal P w c.K mg base 1 "is_number" (spF c f_is_number) []) : FnOk P w c.K mg base L2.CX0 2 f fd ["many", "start", "guard"] (spF c f_check_guard) := by
  exact fn_den (k := 1) (N := n_check_guard) (ps := ["many", "start", "guard"]) (body := b_check_guard) F sc_check_guard fun cdv A outer s H E hr => QSs.out (by exact (ss_one (s_if (QW.t (w_or (t_not (t_val (q_call C_is_number hr (by omega) (a_cons (qv 1) (a_cons (qint) (a_cons (qv 0) a_nil)))))) (w_or1 (t_not (t_val (q_call C_is_number hr (by omega) (a_cons (qv 2) (a_cons (qint) (a_cons (qv 0) a_nil))))))))) ss_never ss_nil)))
theorem ok_guarded_rounds {f : Addr} {fd : FuncData} (T : Tx P w c mg base) {cc tb : Addr} (F : FunC c.K "guarded_rounds" "guarded_rounds" s_guarded_rounds f fd cc) (TB : TabB base mg cc tb) (hmT : (tb, (Str.ofString "guarded_rounds" ++ ".<locals>.") ++ "is_safe") ∈ c.T) (huT : ∀ p ∈ c.T, p.1 = tb → p.2 = (Str.ofString "guarded_rounds" ++ ".<locals>.") ++ "is_safe") (C_check_trees : Cal P w c.K mg base 4 "_check_trees" (spF c f_check_trees) []) (CQ_differing : ∀ (fq : Addr) (kq : Hp), Cal P w c.K mg base 1 "_differing" (spF (cF c fq kq) f_differing) []) (CQ_ring : ∀ (fq : Addr) (kq : Hp), Cal P w c.K mg base 2 "_ring" (spF (cF c fq kq) f_ring) []) (h0c : c.exc = none) (CG_fewest_rounds : CalG P w c.K mg base 2 "_fewest_rounds" c f_fewest_rounds) (CQ_bypass : ∀ (fq : Addr) (kq : Hp), Cal P w c.K mg base 2 "_bypass" (spF (cF c fq kq) f_bypass) []) (C_check_guard : Cal P w c.K mg base 2 "_check_guard" (spF c f_check_guard) []) : FnOk P w c.K mg base L2.CX0 5 f fd ["old", "new", "start", "guard"] (spF c f_guarded_rounds) := by
  exact fnC_den (k := 4) (N := n_guarded_rounds) (ps := ["old", "new", "start", "guard"]) (body := b_guarded_rounds) F sc_guarded_rounds fun A outer s H E hr => QSs.out (by exact (ss_cons (s_expr (q_call C_check_trees hr (by omega) (a_cons (qv 0) (a_cons (qv 1) a_nil))))
      (ss_cons (s_expr (q_call C_check_guard hr (by omega) (a_cons (q_blt b_len T.b_len (a_cons (qv 0) a_nil)) (a_cons (qv 2) (a_cons (qv 3) a_nil)))))
      (ss_ndef2 (st := sAt (defBody s_guarded_rounds) 2) (name := "is_safe") 4 sc_guarded_rounds.nd (by rfl) h0c TB hmT huT (by kernel_rfl) (ndOk (X := _) (c := c) (st := sAt (defBody s_guarded_rounds) 2) (name := "is_safe") (b1 := "done") (b2 := "now") (kk := 2) (N := ["done", "now", "old", "new", "start", "guard"]) (fr := ["old", "new", "start", "guard"]) (js := [0, 1, 2, 3]) (b := nb_guarded_rounds) (NdefX.nscope_by (by kernel_rfl)) (by kernel_rfl) rfl (fun _ _ _ _ us hl => match us, hl with | [_, _], _ => rfl) (fun fx cx fq kq A outer s H E hr => QSs.out (by exact (ss_one (s_ret (q_and (q_cmp (r_is) (q_call (CQ_ring fq kq) hr (by omega) (a_cons (qv 2) (a_cons (qv 3) (a_cons (qv 0) (a_cons (qv 1) a_nil))))) (qnon)) (q_one (q_cmp (r_is) (q_call (CQ_bypass fq kq) hr (by omega) (a_cons (qv 2) (a_cons (qv 3) (a_cons (qv 0) (a_cons (qv 1) (a_cons (qv 4) (a_cons (qv 5) a_nil))))))) (qnon))))))))) (fun fq cq kq O hkf hkc => (by exact (ss_one (s_ret (q_if (t_tru (q_nc O hkf hkc hr (by omega) (a_cons (q_tup a_nil) (a_cons (q_tup a_nil) a_nil)))) (q_hand CG_fewest_rounds O hkf hkc hr (by omega) (q_call (CQ_differing fq kq) hr (by omega) (a_cons (qv 0) (a_cons (qv 1) a_nil)))) (qnon))))))))))
theorem ok_law_taken {f : Addr} {fd : FuncData} (T : Tx P w c mg base) (F : Fun c.K "_law_taken" "_law_taken" s_law_taken f fd)  : FnOk P w c.K mg base L2.CX0 1 f fd ["row", "many"] (spF c f_law_taken) := by
  exact fn_den (k := 0) (N := n_law_taken) (ps := ["row", "many"]) (body := b_law_taken) F sc_law_taken fun cdv A outer s H E hr => QSs.out (by exact (ss_cons (s_if (t_cmp (r_gt) (q_ixO 0 (qint)) (qint)) (ss_cons (s_set 2 sc_law_taken.nd (q_mod (q_blt b_int T.b_int (a_cons (q_ixO 0 (qint)) a_nil)) (qv 1)))
      (ss_cons (s_asg (q_fdiv (q_ixO 0 (qint)) (qv 1)) (g_item 0 (qint)))
      (ss_one (s_ret (qv 2))))) ss_nil)
      (ss_cons (s_asg (q_add (q_ixO 0 (qint)) (qint)) (g_item 0 (qint)))
      (ss_cons (s_if (t_cmp (r_gt) (q_ixO 0 (qint)) (q_blt b_len T.b_len (a_cons (q_ixO 0 (qint)) a_nil))) (ss_cons (s_asg (q_mod (q_blt b_int T.b_int (a_cons (q_add (q_mul (q_ixO 0 (qint)) (qint)) (qint)) a_nil)) (qint)) (g_item 0 (qint)))
      (ss_one (s_ret (q_mod (q_blt b_int T.b_int (a_cons (q_fdiv (q_ixO 0 (qint)) (qint)) a_nil)) (qv 1))))) ss_nil)
      (ss_cons (s_set 3 sc_law_taken.nd (q_ix (q_ixO 0 (qint)) (q_sub (q_ixO 0 (qint)) (qint))))
      (ss_cons (s_asg (q_mod (q_blt b_int T.b_int (a_cons (q_add (q_add (q_mul (q_ixO 0 (qint)) (qint)) (qv 3)) (qint)) a_nil)) (qint)) (g_item 0 (qint)))
      (ss_cons (s_if (t_cmp (r_ge) (qv 3) (q_pow (qint) (qint))) (ss_one (s_asg (q_fdiv (qv 3) (qv 1)) (g_item 0 (qint)))) ss_nil)
      (ss_one (s_ret (q_mod (q_blt b_int T.b_int (a_cons (qv 3) a_nil)) (qv 1)))))))))))
theorem ok_law {f : Addr} {fd : FuncData} (T : Tx P w c mg base) (F : Fun c.K "law" "law" s_law f fd) (C_ring_of_round : Cal P w c.K mg base 5 "ring_of_round" (spF c f_ring_of_round) []) (C_depth_rounds : Cal P w c.K mg base 5 "depth_rounds" (spF c f_depth_rounds) []) (C_least_rounds : Cal P w c.K mg base 5 "least_rounds" (spF c f_least_rounds) []) (C_guarded_rounds : Cal P w c.K mg base 5 "guarded_rounds" (spF c f_guarded_rounds) []) (C_law_taken : Cal P w c.K mg base 1 "_law_taken" (spF c f_law_taken) []) : FnOk P w c.K mg base L2.CX0 6 f fd ["script"] (spF c f_law) := by
  exact fn_den (k := 5) (N := n_law) (ps := ["script"]) (body := b_law) F sc_law fun cdv A outer s H E hr => QSs.out (by exact (ss_cons (s_setO 1 sc_law.nd (q_lst (a_cons (qv 0) (a_cons (qint) (a_cons (qint) (a_cons (qint) a_nil))))))
      (ss_cons (s_set 2 sc_law.nd (q_add (qint) (q_callO C_law_taken hr (by omega) (c_own 1 (a_cons (qint) a_nil)))))
      (ss_cons (s_set 3 sc_law.nd (q_tupRg T.b_tuple T.b_range (qv 2)))
      (ss_cons (s_set 4 sc_law.nd (q_add (q_blt b_tuple T.b_tuple (a_cons (q_lc (own := [("at", 5)]) sc_law.nd (i_range1 T.b_range (a_cons (q_sub (qv 2) (qint)) a_nil)) (blkOk_by (own := [("at", 5)]) (N := n_law) (sc := defScope s_law) (by decide +kernel)) (fun _ _ _ _ _ => (by exact (g_name 5 sc_law.nd))) (fun _ _ _ _ _ => (by exact ts_nil)) (fun _ _ _ _ _ => (by exact (q_add (qv 5) (qint))))) a_nil)) (q_tup (a_cons (qint) a_nil))))
      (ss_cons (s_set 6 sc_law.nd (q_call C_least_rounds hr (by omega) (a_cons (qv 3) (a_cons (qv 4) a_nil))))
      (ss_cons (s_if (QW.t (w_or (QW.t (w_and (t_cmp (r_is) (q_call C_ring_of_round hr (by omega) (a_cons (qv 3) (a_cons (qv 4) (a_cons (q_tup a_nil) (a_cons (q_tup (a_cons (qint) (a_cons (qint) a_nil))) a_nil))))) (qnon)) (w_and1 (t_cmp (r_gt) (qv 2) (qint))))) (w_or1 (t_cmp (r_nis) (q_call C_ring_of_round hr (by omega) (a_cons (qv 3) (a_cons (qv 3) (a_cons (q_tup a_nil) (a_cons (q_tupRg2 T.b_tuple T.b_range (qint) (q_add (qv 2) (qint))) a_nil))))) (qnon))))) (ss_one (s_ret (qbl))) ss_nil)
      (ss_cons (s_if (QW.t (w_or (t_cmp (r_ne hr) (q_blt b_len T.b_len (a_cons (q_call C_depth_rounds hr (by omega) (a_cons (qv 3) (a_cons (qv 4) a_nil))) a_nil)) (qv 2)) (w_or (QW.t (w_and (t_cmp (r_gt) (q_blt b_len T.b_len (a_cons (qv 6) a_nil)) (qint)) (w_and1 (t_cmp (r_lt) (qv 2) (qint))))) (w_or1 (t_cmp (r_ne hr) (q_call C_least_rounds hr (by omega) (a_cons (qv 3) (a_cons (qv 3) a_nil))) (q_tup a_nil)))))) (ss_one (s_ret (qbl))) ss_nil)
      (ss_cons (s_parT2 7 false 8 false sc_law.nd (ps_cons (q_tup (a_cons (qint) (a_cons (qint) (a_cons (qint) a_nil)))) (ps_cons (q_tup (a_cons (qint) (a_cons (qint) (a_cons (qint) a_nil)))) ps_nil)))
      (ss_cons (s_if (QW.t (w_or (t_cmp (r_is) (q_call C_guarded_rounds hr (by omega) (a_cons (qv 7) (a_cons (qv 8) (a_cons (qint) (a_cons (qint) a_nil))))) (qnon)) (w_or1 (t_cmp (r_nis) (q_call C_guarded_rounds hr (by omega) (a_cons (qv 7) (a_cons (q_tup (a_cons (qint) (a_cons (qint) (a_cons (qint) a_nil)))) (a_cons (qint) (a_cons (qint) a_nil))))) (qnon))))) (ss_one (s_ret (qbl))) ss_nil)
      (ss_one (s_ret (q_and (q_cmp (r_ne hr) (q_call C_guarded_rounds hr (by omega) (a_cons (q_tup (a_cons (qint) (a_cons (qint) (a_cons (qint) a_nil)))) (a_cons (q_tup (a_cons (qint) (a_cons (qint) (a_cons (qint) a_nil)))) (a_cons (qint) (a_cons (qint) a_nil))))) (q_tup a_nil)) (q_one (q_cmp (r_in hr) (q_call C_ring_of_round hr (by omega) (a_cons (q_tup (a_cons (qint) (a_cons (qint) a_nil))) (a_cons (q_tup (a_cons (qint) (a_cons (qint) a_nil))) (a_cons (q_tup a_nil) (a_cons (q_tup (a_cons (qint) a_nil)) a_nil))))) (q_lst (a_cons (q_tup (a_cons (qint) (a_cons (qint) (a_cons (qint) a_nil)))) (a_cons (q_tup (a_cons (qint) (a_cons (qint) (a_cons (qint) a_nil)))) a_nil))) (by with_unfolding_all rfl))))))))))))))))
end
end Fx.K66
/-! running denotations: what a run that goes well gives -/
namespace Fx
open PySem
namespace R
/-- the run goes well and gives what P tells -/
def OKr {α : Type} (m : Out α) (P : α → En → Prop) : Prop := Post P (fun _ _ => False) m
/-- a call goes well -/
def OKFr (o : Out S) (K : S → Prop) : Prop := OKr o fun s _ => K s
section
variable {α β : Type} {P Q : α → En → Prop}
theorem ok_ok {a : α} {ρ : En} : OKr (.ok a ρ) P ↔ P a ρ := Iff.rfl
theorem ok_stuck : OKr (.stuck : Out α) P ↔ False := Iff.rfl
theorem ok_then {m : Out α} {f : α → En → Out β} {P : β → En → Prop} : OKr (m.then f) P ↔ OKr m fun a ρ => OKr (f a ρ) P := post_then
theorem ok_ite {c : Prop} [Decidable c] {a b : Out α} : OKr (if c then a else b) P ↔ (c → OKr a P) ∧ (¬c → OKr b P) := by
  split
  · rename_i h
    exact ⟨fun k => ⟨fun _ => k, fun n => absurd h n⟩, fun k => k.1 h⟩
  · rename_i h
    exact ⟨fun k => ⟨fun n => absurd n h, fun _ => k⟩, fun k => k.2 h⟩
theorem OKr.imp {m : Out α} (h : OKr m P) (k : ∀ a ρ, P a ρ → Q a ρ) : OKr m Q := Post.imp h k fun _ _ h => h
theorem OKr.at {m : Out α} (h : OKr m P) : ∃ a ρ, m = .ok a ρ ∧ P a ρ := by
  cases m with
  | ok a ρ => exact ⟨a, ρ, rfl, h⟩
  | err e ρ => exact h.elim
  | stuck => exact h.elim
theorem ok_calm {m : Out α} : OKr m.calm P ↔ OKr m P := by
  cases m <;> exact Iff.rfl
theorem OKFr.imp {o : Out S} {K K' : S → Prop} (h : OKFr o K) (k : ∀ s, K s → K' s) : OKFr o K' := OKr.imp h fun s _ => k s
end
section
variable {ρ : En} {P : S → En → Prop} {PB : Bool → En → Prop} {PA : List D → En → Prop} {PF : Fl → En → Prop} {PU : Unit → En → Prop} {fa fb fe : M S} {fA : M (List D)} {ft fu : M Bool} {F G : M Fl}
/-- a value that stays -/
theorem ok_dv {f : M S} {K : D → En → Prop} : OKr (dv f ρ) K ↔ OKr (f ρ) fun s ρ' => ∃ x, toD s = some x ∧ K x ρ' := by
  unfold dv
  rw [ok_then]
  refine ⟨fun h => h.imp fun s ρ' k => ?_, fun h => h.imp fun s ρ' k => ?_⟩
  · cases e : toD s with
    | none => rw [e] at k; exact k.elim
    | some x => rw [e] at k; exact ⟨x, rfl, k⟩
  · obtain ⟨x, e, k⟩ := k
    rw [e]
    exact k
theorem ex_toD {x : D} {K : D → Prop} : (∃ y, toD (.d x) = some y ∧ K y) ↔ K x := ⟨fun ⟨y, e, k⟩ => by cases e; exact k, fun k => ⟨x, rfl, k⟩⟩
theorem ex_toL {ds : List D} {K : D → Prop} : (∃ y, toD (.o none (.lst ds)) = some y ∧ K y) ↔ K (.lst ds) := ⟨fun ⟨y, e, k⟩ => by cases e; exact k, fun k => ⟨_, rfl, k⟩⟩
theorem ok_c {x : D} : OKr (mC x ρ) P ↔ P (.d x) ρ := Iff.rfl
theorem ok_var {i : Nat} : OKr (mVar i ρ) P ↔ OKr (mVar i ρ) P := Iff.rfl
theorem ok_varD {i : Nat} {x : D} (e : ρ[i]? = some (some (.d x))) : OKr (mVar i ρ) P ↔ P (.d x) ρ := by
  unfold mVar
  rw [e]
  exact Iff.rfl
theorem ok_op {g : D → D → Option S} : OKr (mOp g fa fb ρ) P ↔ OKr (dv fa ρ) fun x ρ1 => OKr (dv fb ρ1) fun y ρ2 => ∃ s, g x y = some s ∧ P s ρ2 := by
  unfold mOp
  rw [ok_then]
  simp only [ok_then]
  constructor
  · exact fun h => h.imp fun x ρ1 h => h.imp fun y ρ2 h => (by
      cases e : g x y with
      | none => rw [e] at h; exact h.elim
      | some s => rw [e] at h; exact ⟨s, rfl, h⟩)
  · exact fun h => h.imp fun x ρ1 h => h.imp fun y ρ2 h => (by
      obtain ⟨s, e, k⟩ := h
      rw [e]
      exact k)
theorem ok_un {g : D → Option S} : OKr (mUn g fa ρ) P ↔ OKr (dv fa ρ) fun x ρ1 => ∃ s, g x = some s ∧ P s ρ1 := by
  unfold mUn
  rw [ok_then]
  constructor
  · exact fun h => h.imp fun x ρ1 h => (by
      cases e : g x with
      | none => rw [e] at h; exact h.elim
      | some s => rw [e] at h; exact ⟨s, rfl, h⟩)
  · exact fun h => h.imp fun x ρ1 h => (by
      obtain ⟨s, e, k⟩ := h
      rw [e]
      exact k)
theorem ok_nil : OKr (aNil ρ) PA ↔ PA [] ρ := Iff.rfl
theorem ok_cons {fr : M (List D)} : OKr (aCons fa fr ρ) PA ↔ OKr (dv fa ρ) fun x ρ1 => OKr (fr ρ1) fun ds ρ2 => PA (x :: ds) ρ2 := by
  unfold aCons
  simp only [ok_then, ok_ok]
theorem ok_cb {g : List D → Option S} : OKr (mCB g fA ρ) P ↔ OKr (fA ρ) fun ds ρ1 => ∃ s, g ds = some s ∧ P s ρ1 := by
  unfold mCB
  rw [ok_then]
  constructor
  · exact fun h => h.imp fun x ρ1 h => (by
      cases e : g x with
      | none => rw [e] at h; exact h.elim
      | some s => rw [e] at h; exact ⟨s, rfl, h⟩)
  · exact fun h => h.imp fun x ρ1 h => (by
      obtain ⟨s, e, k⟩ := h
      rw [e]
      exact k)
theorem ok_test : OKr (mTest fa ρ) PB ↔ OKr (dv fa ρ) fun x ρ1 => ∃ b, x = .bl b ∧ PB b ρ1 := by
  unfold mTest
  rw [ok_then]
  refine ⟨fun h => h.imp fun x ρ1 h => ?_, fun h => h.imp fun x ρ1 h => ?_⟩
  · cases x <;> first | exact h.elim | exact ⟨_, rfl, h⟩
  · obtain ⟨b, rfl, h⟩ := h
    exact h
theorem ex_bl {b : Bool} {K : Bool → Prop} : (∃ c, D.bl b = D.bl c ∧ K c) ↔ K b := ⟨fun ⟨c, e, k⟩ => by cases e; exact k, fun k => ⟨b, rfl, k⟩⟩
theorem ok_not : OKr (mNot ft ρ) PB ↔ OKr (ft ρ) fun b ρ1 => PB (!b) ρ1 := by
  unfold mNot
  simp only [ok_then, ok_ok]
theorem ok_and : OKr (mAnd ft fu ρ) PB ↔ OKr (ft ρ) fun b ρ1 => (b = true → OKr (fu ρ1) PB) ∧ (¬b = true → PB false ρ1) := by
  unfold mAnd
  simp only [ok_then, ok_ok, ok_ite]
theorem ok_or : OKr (mOr ft fu ρ) PB ↔ OKr (ft ρ) fun b ρ1 => (b = true → PB true ρ1) ∧ (¬b = true → OKr (fu ρ1) PB) := by
  unfold mOr
  simp only [ok_then, ok_ok, ok_ite]
theorem ok_andV : OKr (mAndV fa fb ρ) P ↔ OKr (mTest fa ρ) fun b ρ1 => (b = true → OKr (fb ρ1) P) ∧ (¬b = true → P (.d (.bl false)) ρ1) := by
  unfold mAndV
  simp only [ok_then, ok_ok, ok_ite]
theorem ok_orV : OKr (mOrV fa fb ρ) P ↔ OKr (mTest fa ρ) fun b ρ1 => (b = true → P (.d (.bl true)) ρ1) ∧ (¬b = true → OKr (fb ρ1) P) := by
  unfold mOrV
  simp only [ok_then, ok_ok, ok_ite]
theorem ok_notV : OKr (mNotV fa ρ) P ↔ OKr (mTest fa ρ) fun b ρ1 => P (.d (.bl (!b))) ρ1 := by
  unfold mNotV
  simp only [ok_then, ok_ok]
theorem ok_if : OKr (mIf ft fa fb ρ) P ↔ OKr (ft ρ) fun b ρ1 => (b = true → OKr (fa ρ1) P) ∧ (¬b = true → OKr (fb ρ1) P) := by
  unfold mIf
  simp only [ok_then, ok_ite]
theorem ok_yes : OKr (mYes ρ) PB ↔ PB true ρ := Iff.rfl
/-! statements -/
theorem ok_seq : OKr (mSeq F G ρ) PF ↔ OKr (F ρ) fun f ρ1 => (f = .nx → OKr (G ρ1) PF) ∧ (f ≠ .nx → PF f ρ1) := by
  unfold mSeq
  rw [ok_then]
  refine ⟨fun h => h.imp fun f ρ1 h => ?_, fun h => h.imp fun f ρ1 h => ?_⟩
  · cases f with
    | nx => exact ⟨fun _ => h, fun n => absurd rfl n⟩
    | rt s => exact ⟨fun e => (by cases e), fun _ => h⟩
    | bk => exact ⟨fun e => (by cases e), fun _ => h⟩
    | ct => exact ⟨fun e => (by cases e), fun _ => h⟩
  · cases f with
    | nx => exact h.1 rfl
    | rt s => exact h.2 (fun e => by cases e)
    | bk => exact h.2 (fun e => by cases e)
    | ct => exact h.2 (fun e => by cases e)
theorem fl_nx {A : Prop} {B : Prop} : ((Fl.nx = Fl.nx → A) ∧ (Fl.nx ≠ Fl.nx → B)) ↔ A := ⟨fun h => h.1 rfl, fun h => ⟨fun _ => h, fun n => absurd rfl n⟩⟩
theorem fl_rt {s : S} {A : Prop} {B : Prop} : ((Fl.rt s = Fl.nx → A) ∧ (Fl.rt s ≠ Fl.nx → B)) ↔ B := ⟨fun h => h.2 (fun e => by cases e), fun h => ⟨fun e => (by cases e), fun _ => h⟩⟩
theorem fl_bk {A : Prop} {B : Prop} : ((Fl.bk = Fl.nx → A) ∧ (Fl.bk ≠ Fl.nx → B)) ↔ B := ⟨fun h => h.2 (fun e => by cases e), fun h => ⟨fun e => (by cases e), fun _ => h⟩⟩
theorem fl_ct {A : Prop} {B : Prop} : ((Fl.ct = Fl.nx → A) ∧ (Fl.ct ≠ Fl.nx → B)) ↔ B := ⟨fun h => h.2 (fun e => by cases e), fun h => ⟨fun e => (by cases e), fun _ => h⟩⟩
theorem ok_nx : OKr (mNx ρ) PF ↔ PF .nx ρ := Iff.rfl
theorem ok_bk : OKr (mBk ρ) PF ↔ PF .bk ρ := Iff.rfl
theorem ok_ct : OKr (mCt ρ) PF ↔ PF .ct ρ := Iff.rfl
theorem ok_st : OKr (mSt ρ) PF ↔ False := Iff.rfl
theorem ok_ret : OKr (mRet fa ρ) PF ↔ OKr (fa ρ) fun s ρ1 => PF (.rt s) ρ1 := by
  unfold mRet
  simp only [ok_then, ok_ok]
theorem ok_retN : OKr (mRetN ρ) PF ↔ PF (.rt (.d .non)) ρ := Iff.rfl
theorem ok_ifS : OKr (mIfS ft F G ρ) PF ↔ OKr (ft ρ) fun b ρ1 => (b = true → OKr (F ρ1) PF) ∧ (¬b = true → OKr (G ρ1) PF) := by
  unfold mIfS
  simp only [ok_then, ok_ite]
theorem ok_drop : OKr (mDrop fa ρ) PF ↔ OKr (fa ρ) fun _ ρ1 => PF .nx ρ1 := by
  unfold mDrop
  simp only [ok_then, ok_ok]
theorem ok_asg {g : D → M Unit} : OKr (mAsg fa g ρ) PF ↔ OKr (dv fa ρ) fun x ρ1 => OKr (g x ρ1) fun _ ρ2 => PF .nx ρ2 := by
  unfold mAsg
  simp only [ok_then, ok_ok]
theorem ok_gname {i : Nat} {x : D} : OKr (gmName i x ρ) PU ↔ PU () (ρ.set i (some (.d x))) := Iff.rfl
theorem ok_call {f : Fn} : OKr (mCall f fA ρ) P ↔ OKr (fA ρ) fun ds ρ1 => OKFr (f (ds.map .d)) fun s => bare s = true ∧ P s ρ1 := by
  unfold mCall
  rw [ok_then]
  refine ⟨fun h => h.imp fun ds ρ1 h => ?_, fun h => h.imp fun ds ρ1 h => ?_⟩
  · cases e : f (ds.map .d) with
    | stuck => rw [e] at h; exact h.elim
    | err _ _ => rw [e] at h; exact h.elim
    | ok s ρ' =>
      rw [e] at h
      dsimp only at h
      rw [ok_ite] at h
      by_cases hb : bare s = true
      · exact ⟨hb, h.1 hb⟩
      · exact (h.2 hb).elim
  · obtain ⟨s, ρ', e, hb, k⟩ := h.at
    rw [e]
    dsimp only
    rw [if_pos hb]
    exact k
theorem okF_runF {np nN : Nat} {body : M Fl} {args : List S} {K : S → Prop} : OKFr (runF np nN body args) K ↔ args.length = np ∧ OKr (body (args.map some ++ List.replicate (nN - np) none)) fun f _ => (∃ s, f = .rt s ∧ K s) ∨ (f = .nx ∧ K (.d .non)) := by
  unfold OKFr runF
  by_cases ha : args.length = np
  · rw [if_pos ha]
    cases e : body (args.map some ++ List.replicate (nN - np) none) with
    | stuck => exact ⟨fun h => h.elim, fun h => h.2.elim⟩
    | err _ _ => exact ⟨fun h => h.elim, fun h => h.2.elim⟩
    | ok f ρ' =>
      cases f with
      | rt s => exact ⟨fun h => ⟨ha, .inl ⟨s, rfl, h⟩⟩, fun h => by
          rcases h.2 with ⟨t, e, k⟩ | ⟨e, k⟩
          · cases e; exact k
          · cases e⟩
      | nx => exact ⟨fun h => ⟨ha, .inr ⟨rfl, h⟩⟩, fun h => by
          rcases h.2 with ⟨t, e, k⟩ | ⟨e, k⟩
          · cases e
          · exact k⟩
      | bk => exact ⟨fun h => h.elim, fun h => by
          rcases h.2 with ⟨t, e, k⟩ | ⟨e, k⟩ <;> cases e⟩
      | ct => exact ⟨fun h => h.elim, fun h => by
          rcases h.2 with ⟨t, e, k⟩ | ⟨e, k⟩ <;> cases e⟩
  · rw [if_neg ha]
    exact ⟨fun h => h.elim, fun h => absurd h.1 ha⟩
theorem ok_runF {np nN : Nat} {body : M Fl} {args : List S} {K : S → En → Prop} (ha : args.length = np) (h : OKr (body (args.map some ++ List.replicate (nN - np) none)) fun f ρ => (∃ s, f = .rt s ∧ K s ρ) ∨ (f = .nx ∧ K (.d .non) ρ)) : OKr (runF np nN body args) K := by
  unfold runF
  rw [if_pos ha]
  obtain ⟨f, ρ', e, h⟩ := h.at
  rw [e]
  rcases h with ⟨t, rfl, k⟩ | ⟨rfl, k⟩
  · exact k
  · exact k
theorem rt_or {s : S} {K : S → Prop} : ((∃ t, Fl.rt s = .rt t ∧ K t) ∨ (Fl.rt s = .nx ∧ K (.d .non))) ↔ K s := by
  constructor
  · rintro (⟨t, e, k⟩ | ⟨e, _⟩)
    · cases e; exact k
    · cases e
  · exact fun h => .inl ⟨s, rfl, h⟩
theorem nx_or {K : S → Prop} : ((∃ t, Fl.nx = .rt t ∧ K t) ∨ (Fl.nx = .nx ∧ K (.d .non))) ↔ K (.d .non) := by
  constructor
  · rintro (⟨t, e, k⟩ | ⟨_, k⟩)
    · cases e
    · exact k
  · exact fun h => .inr ⟨rfl, h⟩
theorem okF_runL {np nN : Nat} {fe : M S} {args : List S} {K : S → Prop} : OKFr (runL np nN fe args) K ↔ args.length = np ∧ OKr (fe (args.map some ++ List.replicate (nN - np) none)) fun s _ => K s := by
  unfold OKFr runL
  by_cases ha : args.length = np
  · rw [if_pos ha]
    exact ⟨fun h => ⟨ha, h⟩, fun h => h.2⟩
  · rw [if_neg ha]
    exact ⟨fun h => h.elim, fun h => absurd h.1 ha⟩
/-! loops by what they keep -/
theorem ok_loop {gm : D → M Unit} {F : M Fl} {I : Nat → En → Prop} {PF : Fl → En → Prop} : ∀ {items : List D} {k : Nat} {ρ : En}, I k ρ →
    (∀ i x ρ, items[i]? = some x → I (k + i) ρ → OKr (gm x ρ) fun _ ρ1 => OKr (F ρ1) fun f ρ2 => (f = .nx ∨ f = .ct → I (k + i + 1) ρ2) ∧ (f = .bk → PF .nx ρ2) ∧ ∀ s, f = .rt s → PF (.rt s) ρ2) →
    (∀ ρ, I (k + items.length) ρ → PF .nx ρ) → OKr (mLoop gm F items ρ) PF
  | [], k, ρ, h, _, e => e ρ h
  | x :: xs, k, ρ, h, st, e => by
    show OKr ((gm x ρ).then fun _ ρ1 => (F ρ1).then fun f ρ2 => _) PF
    rw [ok_then]
    refine (st 0 x ρ rfl h).imp fun _ ρ1 h1 => ?_
    rw [ok_then]
    refine h1.imp fun f ρ2 ⟨a, b, d⟩ => ?_
    have st' : ∀ i y ρ, xs[i]? = some y → I (k + 1 + i) ρ → OKr (gm y ρ) fun _ ρ1 => OKr (F ρ1) fun f ρ2 => (f = .nx ∨ f = .ct → I (k + 1 + i + 1) ρ2) ∧ (f = .bk → PF .nx ρ2) ∧ ∀ s, f = .rt s → PF (.rt s) ρ2 := fun i y ρ hy hi => by
      have := st (i + 1) y ρ (by simpa using hy) (by rw [show k + (i + 1) = k + 1 + i by omega]; exact hi)
      rw [show k + (i + 1) + 1 = k + 1 + i + 1 by omega] at this
      exact this
    have e' : ∀ ρ, I (k + 1 + xs.length) ρ → PF .nx ρ := fun ρ h => e ρ (by rw [List.length_cons, show k + (xs.length + 1) = k + 1 + xs.length by omega]; exact h)
    cases f with
    | nx => exact ok_loop (k := k + 1) (a (.inl rfl)) st' e'
    | ct => exact ok_loop (k := k + 1) (a (.inr rfl)) st' e'
    | bk => exact b rfl
    | rt s => exact d s rfl
theorem ok_for {fI : M (List D)} {gm : D → M Unit} {F : M Fl} {PF : Fl → En → Prop} : OKr (mFor fI gm F ρ) PF ↔ OKr (fI ρ) fun items ρ1 => OKr (mLoop gm F items ρ1) PF := by
  unfold mFor
  rw [ok_then]
theorem ok_comp {gm : D → M Unit} {ft : M Bool} {fe : M S} {own : List Nat} {I : Nat → List D → En → Prop} {PL : List D → En → Prop} : ∀ {items : List D} {k : Nat} {acc : List D} {ρ : En}, I k acc ρ →
    (∀ i x acc ρ, items[i]? = some x → I (k + i) acc ρ → OKr (gm x ρ) fun _ ρ1 => OKr (ft ρ1) fun b ρ2 => (b = true → OKr (dv fe ρ2) fun y ρ3 => small (acc.length + 1) = true ∧ I (k + i + 1) (acc ++ [y]) (wipeE ρ3 own)) ∧ (¬b = true → I (k + i + 1) acc (wipeE ρ2 own))) →
    (∀ acc ρ, I (k + items.length) acc ρ → PL acc ρ) → OKr (mComp gm ft fe own items acc ρ) PL
  | [], k, acc, ρ, h, _, e => e acc ρ h
  | x :: xs, k, acc, ρ, h, st, e => by
    show OKr ((gm x ρ).calm.then fun _ ρ1 => (ft ρ1).calm.then fun b ρ2 => _) PL
    rw [ok_then, ok_calm]
    refine (st 0 x acc ρ rfl h).imp fun _ ρ1 h1 => ?_
    rw [ok_then, ok_calm]
    have st' : ∀ i y acc ρ, xs[i]? = some y → I (k + 1 + i) acc ρ → OKr (gm y ρ) fun _ ρ1 => OKr (ft ρ1) fun b ρ2 => (b = true → OKr (dv fe ρ2) fun y ρ3 => small (acc.length + 1) = true ∧ I (k + 1 + i + 1) (acc ++ [y]) (wipeE ρ3 own)) ∧ (¬b = true → I (k + 1 + i + 1) acc (wipeE ρ2 own)) := fun i y acc ρ hy hi => by
      have := st (i + 1) y acc ρ (by simpa using hy) (by rw [show k + (i + 1) = k + 1 + i by omega]; exact hi)
      rw [show k + (i + 1) + 1 = k + 1 + i + 1 by omega] at this
      exact this
    have e' : ∀ acc ρ, I (k + 1 + xs.length) acc ρ → PL acc ρ := fun acc ρ h => e acc ρ (by rw [List.length_cons, show k + (xs.length + 1) = k + 1 + xs.length by omega]; exact h)
    refine h1.imp fun b ρ2 ⟨a, d⟩ => ?_
    by_cases hb : b = true
    · rw [if_pos hb, ok_then, ok_calm]
      refine (a hb).imp fun y ρ3 ⟨hz, h⟩ => ?_
      rw [if_pos hz]
      exact ok_comp (k := k + 1) h st' e'
    · rw [if_neg hb]
      exact ok_comp (k := k + 1) (d hb) st' e'
theorem ok_lc {fI : M (List D)} {gm : D → M Unit} {ft : M Bool} {fe : M S} {own : List Nat} : OKr (mLc fI gm ft fe own ρ) P ↔ OKr (fI ρ) fun items ρ1 => OKr (mComp gm ft fe own items [] (wipeE ρ1 own)) fun ds ρ2 => P (.o none (.lst ds)) ρ2 := by
  unfold mLc
  simp only [ok_then, ok_ok]
theorem ok_tup : OKr (mTup fA ρ) P ↔ OKr (fA ρ) fun ds ρ1 => small ds.length = true ∧ P (.d (.tup ds)) ρ1 := by
  unfold mTup
  rw [ok_then]
  refine ⟨fun h => h.imp fun ds ρ1 h => ?_, fun h => h.imp fun ds ρ1 h => ?_⟩
  · by_cases hz : small ds.length = true
    · rw [if_pos hz] at h
      exact ⟨hz, h⟩
    · rw [if_neg hz] at h
      exact h.elim
  · rw [if_pos h.1]
    exact h.2
end
end R
/-- the run goes well and gives what P tells -/
@[irreducible] def OK {α : Type} (m : Out α) (P : α → En → Prop) : Prop := R.OKr m P
@[irreducible] def OKF (o : Out S) (K : S → Prop) : Prop := R.OKFr o K
theorem ok_eq : @OK = @R.OKr := by
  funext α m P
  unfold OK
  rfl
theorem okF_eq : @OKF = @R.OKFr := by
  funext o K
  unfold OKF
  rfl
theorem ok_of {α : Type} {m : Out α} {P : α → En → Prop} (h : R.OKr m P) : OK m P := by
  rw [ok_eq]
  exact h
theorem ok_out {α : Type} {m : Out α} {P : α → En → Prop} (h : OK m P) : R.OKr m P := by
  rw [ok_eq] at h
  exact h
section
variable {α β : Type} {P Q : α → En → Prop}
theorem ok_ok {a : α} {ρ : En} : OK (.ok a ρ) P ↔ P a ρ := by
  first | exact R.ok_ok | skip
  all_goals (try simp only [okF_eq, ok_eq] at *)
  all_goals first | exact R.ok_ok | exact R.ok_ok (by assumption) | exact R.ok_ok (by assumption) (by assumption) | exact R.ok_ok (by assumption) (by assumption) (by assumption) | apply R.ok_ok <;> assumption
theorem ok_stuck : OK (.stuck : Out α) P ↔ False := by
  first | exact R.ok_stuck | skip
  all_goals (try simp only [okF_eq, ok_eq] at *)
  all_goals first | exact R.ok_stuck | exact R.ok_stuck (by assumption) | exact R.ok_stuck (by assumption) (by assumption) | exact R.ok_stuck (by assumption) (by assumption) (by assumption) | apply R.ok_stuck <;> assumption
theorem ok_then {m : Out α} {f : α → En → Out β} {P : β → En → Prop} : OK (m.then f) P ↔ OK m fun a ρ => OK (f a ρ) P := by
  first | exact R.ok_then | skip
  all_goals (try simp only [okF_eq, ok_eq] at *)
  all_goals first | exact R.ok_then | exact R.ok_then (by assumption) | exact R.ok_then (by assumption) (by assumption) | exact R.ok_then (by assumption) (by assumption) (by assumption) | apply R.ok_then <;> assumption
theorem ok_ite {c : Prop} [Decidable c] {a b : Out α} : OK (if c then a else b) P ↔ (c → OK a P) ∧ (¬c → OK b P) := by
  first | exact R.ok_ite | skip
  all_goals (try simp only [okF_eq, ok_eq] at *)
  all_goals first | exact R.ok_ite | exact R.ok_ite (by assumption) | exact R.ok_ite (by assumption) (by assumption) | exact R.ok_ite (by assumption) (by assumption) (by assumption) | apply R.ok_ite <;> assumption
theorem OK.imp {m : Out α} (h : OK m P) (k : ∀ a ρ, P a ρ → Q a ρ) : OK m Q := by
  first | exact R.OKr.imp | skip
  all_goals (try simp only [okF_eq, ok_eq] at *)
  all_goals first | exact R.OKr.imp | exact R.OKr.imp (by assumption) | exact R.OKr.imp (by assumption) (by assumption) | exact R.OKr.imp (by assumption) (by assumption) (by assumption) | apply R.OKr.imp <;> assumption
theorem OK.at {m : Out α} (h : OK m P) : ∃ a ρ, m = .ok a ρ ∧ P a ρ := by
  first | exact R.OKr.at | skip
  all_goals (try simp only [okF_eq, ok_eq] at *)
  all_goals first | exact R.OKr.at | exact R.OKr.at (by assumption) | exact R.OKr.at (by assumption) (by assumption) | exact R.OKr.at (by assumption) (by assumption) (by assumption) | apply R.OKr.at <;> assumption
theorem ok_calm {m : Out α} : OK m.calm P ↔ OK m P := by
  first | exact R.ok_calm | skip
  all_goals (try simp only [okF_eq, ok_eq] at *)
  all_goals first | exact R.ok_calm | exact R.ok_calm (by assumption) | exact R.ok_calm (by assumption) (by assumption) | exact R.ok_calm (by assumption) (by assumption) (by assumption) | apply R.ok_calm <;> assumption
theorem OKF.imp {o : Out S} {K K' : S → Prop} (h : OKF o K) (k : ∀ s, K s → K' s) : OKF o K' := by
  first | exact R.OKFr.imp | skip
  all_goals (try simp only [okF_eq, ok_eq] at *)
  all_goals first | exact R.OKFr.imp | exact R.OKFr.imp (by assumption) | exact R.OKFr.imp (by assumption) (by assumption) | exact R.OKFr.imp (by assumption) (by assumption) (by assumption) | apply R.OKFr.imp <;> assumption
end
section
variable {ρ : En} {P : S → En → Prop} {PB : Bool → En → Prop} {PA : List D → En → Prop} {PF : Fl → En → Prop} {PU : Unit → En → Prop} {fa fb fe : M S} {fA : M (List D)} {ft fu : M Bool} {F G : M Fl}
theorem ok_dv {f : M S} {K : D → En → Prop} : OK (dv f ρ) K ↔ OK (f ρ) fun s ρ' => ∃ x, toD s = some x ∧ K x ρ' := by
  first | exact R.ok_dv | skip
  all_goals (try simp only [okF_eq, ok_eq] at *)
  all_goals first | exact R.ok_dv | exact R.ok_dv (by assumption) | exact R.ok_dv (by assumption) (by assumption) | exact R.ok_dv (by assumption) (by assumption) (by assumption) | apply R.ok_dv <;> assumption
theorem ex_toD {x : D} {K : D → Prop} : (∃ y, toD (.d x) = some y ∧ K y) ↔ K x := by
  first | exact R.ex_toD | skip
  all_goals (try simp only [okF_eq, ok_eq] at *)
  all_goals first | exact R.ex_toD | exact R.ex_toD (by assumption) | exact R.ex_toD (by assumption) (by assumption) | exact R.ex_toD (by assumption) (by assumption) (by assumption) | apply R.ex_toD <;> assumption
theorem ex_toL {ds : List D} {K : D → Prop} : (∃ y, toD (.o none (.lst ds)) = some y ∧ K y) ↔ K (.lst ds) := by
  first | exact R.ex_toL | skip
  all_goals (try simp only [okF_eq, ok_eq] at *)
  all_goals first | exact R.ex_toL | exact R.ex_toL (by assumption) | exact R.ex_toL (by assumption) (by assumption) | exact R.ex_toL (by assumption) (by assumption) (by assumption) | apply R.ex_toL <;> assumption
theorem ok_c {x : D} : OK (mC x ρ) P ↔ P (.d x) ρ := by
  first | exact R.ok_c | skip
  all_goals (try simp only [okF_eq, ok_eq] at *)
  all_goals first | exact R.ok_c | exact R.ok_c (by assumption) | exact R.ok_c (by assumption) (by assumption) | exact R.ok_c (by assumption) (by assumption) (by assumption) | apply R.ok_c <;> assumption
theorem ok_var {i : Nat} : OK (mVar i ρ) P ↔ OK (mVar i ρ) P := by
  first | exact R.ok_var | skip
  all_goals (try simp only [okF_eq, ok_eq] at *)
  all_goals first | exact R.ok_var | exact R.ok_var (by assumption) | exact R.ok_var (by assumption) (by assumption) | exact R.ok_var (by assumption) (by assumption) (by assumption) | apply R.ok_var <;> assumption
theorem ok_varD {i : Nat} {x : D} (e : ρ[i]? = some (some (.d x))) : OK (mVar i ρ) P ↔ P (.d x) ρ := by
  first | exact R.ok_varD | skip
  all_goals (try simp only [okF_eq, ok_eq] at *)
  all_goals first | exact R.ok_varD | exact R.ok_varD (by assumption) | exact R.ok_varD (by assumption) (by assumption) | exact R.ok_varD (by assumption) (by assumption) (by assumption) | apply R.ok_varD <;> assumption
theorem ok_op {g : D → D → Option S} : OK (mOp g fa fb ρ) P ↔ OK (dv fa ρ) fun x ρ1 => OK (dv fb ρ1) fun y ρ2 => ∃ s, g x y = some s ∧ P s ρ2 := by
  first | exact R.ok_op | skip
  all_goals (try simp only [okF_eq, ok_eq] at *)
  all_goals first | exact R.ok_op | exact R.ok_op (by assumption) | exact R.ok_op (by assumption) (by assumption) | exact R.ok_op (by assumption) (by assumption) (by assumption) | apply R.ok_op <;> assumption
theorem ok_un {g : D → Option S} : OK (mUn g fa ρ) P ↔ OK (dv fa ρ) fun x ρ1 => ∃ s, g x = some s ∧ P s ρ1 := by
  first | exact R.ok_un | skip
  all_goals (try simp only [okF_eq, ok_eq] at *)
  all_goals first | exact R.ok_un | exact R.ok_un (by assumption) | exact R.ok_un (by assumption) (by assumption) | exact R.ok_un (by assumption) (by assumption) (by assumption) | apply R.ok_un <;> assumption
theorem ok_nil : OK (aNil ρ) PA ↔ PA [] ρ := by
  first | exact R.ok_nil | skip
  all_goals (try simp only [okF_eq, ok_eq] at *)
  all_goals first | exact R.ok_nil | exact R.ok_nil (by assumption) | exact R.ok_nil (by assumption) (by assumption) | exact R.ok_nil (by assumption) (by assumption) (by assumption) | apply R.ok_nil <;> assumption
theorem ok_cons {fr : M (List D)} : OK (aCons fa fr ρ) PA ↔ OK (dv fa ρ) fun x ρ1 => OK (fr ρ1) fun ds ρ2 => PA (x :: ds) ρ2 := by
  first | exact R.ok_cons | skip
  all_goals (try simp only [okF_eq, ok_eq] at *)
  all_goals first | exact R.ok_cons | exact R.ok_cons (by assumption) | exact R.ok_cons (by assumption) (by assumption) | exact R.ok_cons (by assumption) (by assumption) (by assumption) | apply R.ok_cons <;> assumption
theorem ok_cb {g : List D → Option S} : OK (mCB g fA ρ) P ↔ OK (fA ρ) fun ds ρ1 => ∃ s, g ds = some s ∧ P s ρ1 := by
  first | exact R.ok_cb | skip
  all_goals (try simp only [okF_eq, ok_eq] at *)
  all_goals first | exact R.ok_cb | exact R.ok_cb (by assumption) | exact R.ok_cb (by assumption) (by assumption) | exact R.ok_cb (by assumption) (by assumption) (by assumption) | apply R.ok_cb <;> assumption
theorem ok_test : OK (mTest fa ρ) PB ↔ OK (dv fa ρ) fun x ρ1 => ∃ b, x = .bl b ∧ PB b ρ1 := by
  first | exact R.ok_test | skip
  all_goals (try simp only [okF_eq, ok_eq] at *)
  all_goals first | exact R.ok_test | exact R.ok_test (by assumption) | exact R.ok_test (by assumption) (by assumption) | exact R.ok_test (by assumption) (by assumption) (by assumption) | apply R.ok_test <;> assumption
theorem ex_bl {b : Bool} {K : Bool → Prop} : (∃ c, D.bl b = D.bl c ∧ K c) ↔ K b := by
  first | exact R.ex_bl | skip
  all_goals (try simp only [okF_eq, ok_eq] at *)
  all_goals first | exact R.ex_bl | exact R.ex_bl (by assumption) | exact R.ex_bl (by assumption) (by assumption) | exact R.ex_bl (by assumption) (by assumption) (by assumption) | apply R.ex_bl <;> assumption
theorem ok_not : OK (mNot ft ρ) PB ↔ OK (ft ρ) fun b ρ1 => PB (!b) ρ1 := by
  first | exact R.ok_not | skip
  all_goals (try simp only [okF_eq, ok_eq] at *)
  all_goals first | exact R.ok_not | exact R.ok_not (by assumption) | exact R.ok_not (by assumption) (by assumption) | exact R.ok_not (by assumption) (by assumption) (by assumption) | apply R.ok_not <;> assumption
theorem ok_and : OK (mAnd ft fu ρ) PB ↔ OK (ft ρ) fun b ρ1 => (b = true → OK (fu ρ1) PB) ∧ (¬b = true → PB false ρ1) := by
  first | exact R.ok_and | skip
  all_goals (try simp only [okF_eq, ok_eq] at *)
  all_goals first | exact R.ok_and | exact R.ok_and (by assumption) | exact R.ok_and (by assumption) (by assumption) | exact R.ok_and (by assumption) (by assumption) (by assumption) | apply R.ok_and <;> assumption
theorem ok_or : OK (mOr ft fu ρ) PB ↔ OK (ft ρ) fun b ρ1 => (b = true → PB true ρ1) ∧ (¬b = true → OK (fu ρ1) PB) := by
  first | exact R.ok_or | skip
  all_goals (try simp only [okF_eq, ok_eq] at *)
  all_goals first | exact R.ok_or | exact R.ok_or (by assumption) | exact R.ok_or (by assumption) (by assumption) | exact R.ok_or (by assumption) (by assumption) (by assumption) | apply R.ok_or <;> assumption
theorem ok_andV : OK (mAndV fa fb ρ) P ↔ OK (mTest fa ρ) fun b ρ1 => (b = true → OK (fb ρ1) P) ∧ (¬b = true → P (.d (.bl false)) ρ1) := by
  first | exact R.ok_andV | skip
  all_goals (try simp only [okF_eq, ok_eq] at *)
  all_goals first | exact R.ok_andV | exact R.ok_andV (by assumption) | exact R.ok_andV (by assumption) (by assumption) | exact R.ok_andV (by assumption) (by assumption) (by assumption) | apply R.ok_andV <;> assumption
theorem ok_orV : OK (mOrV fa fb ρ) P ↔ OK (mTest fa ρ) fun b ρ1 => (b = true → P (.d (.bl true)) ρ1) ∧ (¬b = true → OK (fb ρ1) P) := by
  first | exact R.ok_orV | skip
  all_goals (try simp only [okF_eq, ok_eq] at *)
  all_goals first | exact R.ok_orV | exact R.ok_orV (by assumption) | exact R.ok_orV (by assumption) (by assumption) | exact R.ok_orV (by assumption) (by assumption) (by assumption) | apply R.ok_orV <;> assumption
theorem ok_notV : OK (mNotV fa ρ) P ↔ OK (mTest fa ρ) fun b ρ1 => P (.d (.bl (!b))) ρ1 := by
  first | exact R.ok_notV | skip
  all_goals (try simp only [okF_eq, ok_eq] at *)
  all_goals first | exact R.ok_notV | exact R.ok_notV (by assumption) | exact R.ok_notV (by assumption) (by assumption) | exact R.ok_notV (by assumption) (by assumption) (by assumption) | apply R.ok_notV <;> assumption
theorem ok_if : OK (mIf ft fa fb ρ) P ↔ OK (ft ρ) fun b ρ1 => (b = true → OK (fa ρ1) P) ∧ (¬b = true → OK (fb ρ1) P) := by
  first | exact R.ok_if | skip
  all_goals (try simp only [okF_eq, ok_eq] at *)
  all_goals first | exact R.ok_if | exact R.ok_if (by assumption) | exact R.ok_if (by assumption) (by assumption) | exact R.ok_if (by assumption) (by assumption) (by assumption) | apply R.ok_if <;> assumption
theorem ok_yes : OK (mYes ρ) PB ↔ PB true ρ := by
  first | exact R.ok_yes | skip
  all_goals (try simp only [okF_eq, ok_eq] at *)
  all_goals first | exact R.ok_yes | exact R.ok_yes (by assumption) | exact R.ok_yes (by assumption) (by assumption) | exact R.ok_yes (by assumption) (by assumption) (by assumption) | apply R.ok_yes <;> assumption
/-! statements -/
theorem ok_seq : OK (mSeq F G ρ) PF ↔ OK (F ρ) fun f ρ1 => (f = .nx → OK (G ρ1) PF) ∧ (f ≠ .nx → PF f ρ1) := by
  first | exact R.ok_seq | skip
  all_goals (try simp only [okF_eq, ok_eq] at *)
  all_goals first | exact R.ok_seq | exact R.ok_seq (by assumption) | exact R.ok_seq (by assumption) (by assumption) | exact R.ok_seq (by assumption) (by assumption) (by assumption) | apply R.ok_seq <;> assumption
theorem fl_nx {A : Prop} {B : Prop} : ((Fl.nx = Fl.nx → A) ∧ (Fl.nx ≠ Fl.nx → B)) ↔ A := by
  first | exact R.fl_nx | skip
  all_goals (try simp only [okF_eq, ok_eq] at *)
  all_goals first | exact R.fl_nx | exact R.fl_nx (by assumption) | exact R.fl_nx (by assumption) (by assumption) | exact R.fl_nx (by assumption) (by assumption) (by assumption) | apply R.fl_nx <;> assumption
theorem fl_rt {s : S} {A : Prop} {B : Prop} : ((Fl.rt s = Fl.nx → A) ∧ (Fl.rt s ≠ Fl.nx → B)) ↔ B := by
  first | exact R.fl_rt | skip
  all_goals (try simp only [okF_eq, ok_eq] at *)
  all_goals first | exact R.fl_rt | exact R.fl_rt (by assumption) | exact R.fl_rt (by assumption) (by assumption) | exact R.fl_rt (by assumption) (by assumption) (by assumption) | apply R.fl_rt <;> assumption
theorem fl_bk {A : Prop} {B : Prop} : ((Fl.bk = Fl.nx → A) ∧ (Fl.bk ≠ Fl.nx → B)) ↔ B := by
  first | exact R.fl_bk | skip
  all_goals (try simp only [okF_eq, ok_eq] at *)
  all_goals first | exact R.fl_bk | exact R.fl_bk (by assumption) | exact R.fl_bk (by assumption) (by assumption) | exact R.fl_bk (by assumption) (by assumption) (by assumption) | apply R.fl_bk <;> assumption
theorem fl_ct {A : Prop} {B : Prop} : ((Fl.ct = Fl.nx → A) ∧ (Fl.ct ≠ Fl.nx → B)) ↔ B := by
  first | exact R.fl_ct | skip
  all_goals (try simp only [okF_eq, ok_eq] at *)
  all_goals first | exact R.fl_ct | exact R.fl_ct (by assumption) | exact R.fl_ct (by assumption) (by assumption) | exact R.fl_ct (by assumption) (by assumption) (by assumption) | apply R.fl_ct <;> assumption
theorem ok_nx : OK (mNx ρ) PF ↔ PF .nx ρ := by
  first | exact R.ok_nx | skip
  all_goals (try simp only [okF_eq, ok_eq] at *)
  all_goals first | exact R.ok_nx | exact R.ok_nx (by assumption) | exact R.ok_nx (by assumption) (by assumption) | exact R.ok_nx (by assumption) (by assumption) (by assumption) | apply R.ok_nx <;> assumption
theorem ok_bk : OK (mBk ρ) PF ↔ PF .bk ρ := by
  first | exact R.ok_bk | skip
  all_goals (try simp only [okF_eq, ok_eq] at *)
  all_goals first | exact R.ok_bk | exact R.ok_bk (by assumption) | exact R.ok_bk (by assumption) (by assumption) | exact R.ok_bk (by assumption) (by assumption) (by assumption) | apply R.ok_bk <;> assumption
theorem ok_ct : OK (mCt ρ) PF ↔ PF .ct ρ := by
  first | exact R.ok_ct | skip
  all_goals (try simp only [okF_eq, ok_eq] at *)
  all_goals first | exact R.ok_ct | exact R.ok_ct (by assumption) | exact R.ok_ct (by assumption) (by assumption) | exact R.ok_ct (by assumption) (by assumption) (by assumption) | apply R.ok_ct <;> assumption
theorem ok_st : OK (mSt ρ) PF ↔ False := by
  first | exact R.ok_st | skip
  all_goals (try simp only [okF_eq, ok_eq] at *)
  all_goals first | exact R.ok_st | exact R.ok_st (by assumption) | exact R.ok_st (by assumption) (by assumption) | exact R.ok_st (by assumption) (by assumption) (by assumption) | apply R.ok_st <;> assumption
theorem ok_ret : OK (mRet fa ρ) PF ↔ OK (fa ρ) fun s ρ1 => PF (.rt s) ρ1 := by
  first | exact R.ok_ret | skip
  all_goals (try simp only [okF_eq, ok_eq] at *)
  all_goals first | exact R.ok_ret | exact R.ok_ret (by assumption) | exact R.ok_ret (by assumption) (by assumption) | exact R.ok_ret (by assumption) (by assumption) (by assumption) | apply R.ok_ret <;> assumption
theorem ok_retN : OK (mRetN ρ) PF ↔ PF (.rt (.d .non)) ρ := by
  first | exact R.ok_retN | skip
  all_goals (try simp only [okF_eq, ok_eq] at *)
  all_goals first | exact R.ok_retN | exact R.ok_retN (by assumption) | exact R.ok_retN (by assumption) (by assumption) | exact R.ok_retN (by assumption) (by assumption) (by assumption) | apply R.ok_retN <;> assumption
theorem ok_ifS : OK (mIfS ft F G ρ) PF ↔ OK (ft ρ) fun b ρ1 => (b = true → OK (F ρ1) PF) ∧ (¬b = true → OK (G ρ1) PF) := by
  first | exact R.ok_ifS | skip
  all_goals (try simp only [okF_eq, ok_eq] at *)
  all_goals first | exact R.ok_ifS | exact R.ok_ifS (by assumption) | exact R.ok_ifS (by assumption) (by assumption) | exact R.ok_ifS (by assumption) (by assumption) (by assumption) | apply R.ok_ifS <;> assumption
theorem ok_drop : OK (mDrop fa ρ) PF ↔ OK (fa ρ) fun _ ρ1 => PF .nx ρ1 := by
  first | exact R.ok_drop | skip
  all_goals (try simp only [okF_eq, ok_eq] at *)
  all_goals first | exact R.ok_drop | exact R.ok_drop (by assumption) | exact R.ok_drop (by assumption) (by assumption) | exact R.ok_drop (by assumption) (by assumption) (by assumption) | apply R.ok_drop <;> assumption
theorem ok_asg {g : D → M Unit} : OK (mAsg fa g ρ) PF ↔ OK (dv fa ρ) fun x ρ1 => OK (g x ρ1) fun _ ρ2 => PF .nx ρ2 := by
  first | exact R.ok_asg | skip
  all_goals (try simp only [okF_eq, ok_eq] at *)
  all_goals first | exact R.ok_asg | exact R.ok_asg (by assumption) | exact R.ok_asg (by assumption) (by assumption) | exact R.ok_asg (by assumption) (by assumption) (by assumption) | apply R.ok_asg <;> assumption
theorem ok_gname {i : Nat} {x : D} : OK (gmName i x ρ) PU ↔ PU () (ρ.set i (some (.d x))) := by
  first | exact R.ok_gname | skip
  all_goals (try simp only [okF_eq, ok_eq] at *)
  all_goals first | exact R.ok_gname | exact R.ok_gname (by assumption) | exact R.ok_gname (by assumption) (by assumption) | exact R.ok_gname (by assumption) (by assumption) (by assumption) | apply R.ok_gname <;> assumption
theorem ok_call {f : Fn} : OK (mCall f fA ρ) P ↔ OK (fA ρ) fun ds ρ1 => OKF (f (ds.map .d)) fun s => bare s = true ∧ P s ρ1 := by
  first | exact R.ok_call | skip
  all_goals (try simp only [okF_eq, ok_eq] at *)
  all_goals first | exact R.ok_call | exact R.ok_call (by assumption) | exact R.ok_call (by assumption) (by assumption) | exact R.ok_call (by assumption) (by assumption) (by assumption) | apply R.ok_call <;> assumption
theorem okF_runF {np nN : Nat} {body : M Fl} {args : List S} {K : S → Prop} : OKF (runF np nN body args) K ↔ args.length = np ∧ OK (body (args.map some ++ List.replicate (nN - np) none)) fun f _ => (∃ s, f = .rt s ∧ K s) ∨ (f = .nx ∧ K (.d .non)) := by
  first | exact R.okF_runF | skip
  all_goals (try simp only [okF_eq, ok_eq] at *)
  all_goals first | exact R.okF_runF | exact R.okF_runF (by assumption) | exact R.okF_runF (by assumption) (by assumption) | exact R.okF_runF (by assumption) (by assumption) (by assumption) | apply R.okF_runF <;> assumption
theorem ok_runF {np nN : Nat} {body : M Fl} {args : List S} {K : S → En → Prop} (ha : args.length = np) (h : OK (body (args.map some ++ List.replicate (nN - np) none)) fun f ρ => (∃ s, f = .rt s ∧ K s ρ) ∨ (f = .nx ∧ K (.d .non) ρ)) : OK (runF np nN body args) K := by
  first | exact R.ok_runF | skip
  all_goals (try simp only [okF_eq, ok_eq] at *)
  all_goals first | exact R.ok_runF | exact R.ok_runF (by assumption) | exact R.ok_runF (by assumption) (by assumption) | exact R.ok_runF (by assumption) (by assumption) (by assumption) | apply R.ok_runF <;> assumption
theorem rt_or {s : S} {K : S → Prop} : ((∃ t, Fl.rt s = .rt t ∧ K t) ∨ (Fl.rt s = .nx ∧ K (.d .non))) ↔ K s := by
  first | exact R.rt_or | skip
  all_goals (try simp only [okF_eq, ok_eq] at *)
  all_goals first | exact R.rt_or | exact R.rt_or (by assumption) | exact R.rt_or (by assumption) (by assumption) | exact R.rt_or (by assumption) (by assumption) (by assumption) | apply R.rt_or <;> assumption
theorem nx_or {K : S → Prop} : ((∃ t, Fl.nx = .rt t ∧ K t) ∨ (Fl.nx = .nx ∧ K (.d .non))) ↔ K (.d .non) := by
  first | exact R.nx_or | skip
  all_goals (try simp only [okF_eq, ok_eq] at *)
  all_goals first | exact R.nx_or | exact R.nx_or (by assumption) | exact R.nx_or (by assumption) (by assumption) | exact R.nx_or (by assumption) (by assumption) (by assumption) | apply R.nx_or <;> assumption
theorem okF_runL {np nN : Nat} {fe : M S} {args : List S} {K : S → Prop} : OKF (runL np nN fe args) K ↔ args.length = np ∧ OK (fe (args.map some ++ List.replicate (nN - np) none)) fun s _ => K s := by
  first | exact R.okF_runL | skip
  all_goals (try simp only [okF_eq, ok_eq] at *)
  all_goals first | exact R.okF_runL | exact R.okF_runL (by assumption) | exact R.okF_runL (by assumption) (by assumption) | exact R.okF_runL (by assumption) (by assumption) (by assumption) | apply R.okF_runL <;> assumption
/-! loops by what they keep -/
theorem ok_loop {gm : D → M Unit} {F : M Fl} {I : Nat → En → Prop} {PF : Fl → En → Prop} : ∀ {items : List D} {k : Nat} {ρ : En}, I k ρ →
    (∀ i x ρ, items[i]? = some x → I (k + i) ρ → OK (gm x ρ) fun _ ρ1 => OK (F ρ1) fun f ρ2 => (f = .nx ∨ f = .ct → I (k + i + 1) ρ2) ∧ (f = .bk → PF .nx ρ2) ∧ ∀ s, f = .rt s → PF (.rt s) ρ2) →
    (∀ ρ, I (k + items.length) ρ → PF .nx ρ) → OK (mLoop gm F items ρ) PF := by
  first | exact R.ok_loop | skip
  all_goals (try simp only [okF_eq, ok_eq] at *)
  all_goals first | exact R.ok_loop | exact R.ok_loop (by assumption) | exact R.ok_loop (by assumption) (by assumption) | exact R.ok_loop (by assumption) (by assumption) (by assumption) | apply R.ok_loop <;> assumption
theorem ok_for {fI : M (List D)} {gm : D → M Unit} {F : M Fl} {PF : Fl → En → Prop} : OK (mFor fI gm F ρ) PF ↔ OK (fI ρ) fun items ρ1 => OK (mLoop gm F items ρ1) PF := by
  first | exact R.ok_for | skip
  all_goals (try simp only [okF_eq, ok_eq] at *)
  all_goals first | exact R.ok_for | exact R.ok_for (by assumption) | exact R.ok_for (by assumption) (by assumption) | exact R.ok_for (by assumption) (by assumption) (by assumption) | apply R.ok_for <;> assumption
theorem ok_comp {gm : D → M Unit} {ft : M Bool} {fe : M S} {own : List Nat} {I : Nat → List D → En → Prop} {PL : List D → En → Prop} : ∀ {items : List D} {k : Nat} {acc : List D} {ρ : En}, I k acc ρ →
    (∀ i x acc ρ, items[i]? = some x → I (k + i) acc ρ → OK (gm x ρ) fun _ ρ1 => OK (ft ρ1) fun b ρ2 => (b = true → OK (dv fe ρ2) fun y ρ3 => small (acc.length + 1) = true ∧ I (k + i + 1) (acc ++ [y]) (wipeE ρ3 own)) ∧ (¬b = true → I (k + i + 1) acc (wipeE ρ2 own))) →
    (∀ acc ρ, I (k + items.length) acc ρ → PL acc ρ) → OK (mComp gm ft fe own items acc ρ) PL := by
  first | exact R.ok_comp | skip
  all_goals (try simp only [okF_eq, ok_eq] at *)
  all_goals first | exact R.ok_comp | exact R.ok_comp (by assumption) | exact R.ok_comp (by assumption) (by assumption) | exact R.ok_comp (by assumption) (by assumption) (by assumption) | apply R.ok_comp <;> assumption
theorem ok_lc {fI : M (List D)} {gm : D → M Unit} {ft : M Bool} {fe : M S} {own : List Nat} : OK (mLc fI gm ft fe own ρ) P ↔ OK (fI ρ) fun items ρ1 => OK (mComp gm ft fe own items [] (wipeE ρ1 own)) fun ds ρ2 => P (.o none (.lst ds)) ρ2 := by
  first | exact R.ok_lc | skip
  all_goals (try simp only [okF_eq, ok_eq] at *)
  all_goals first | exact R.ok_lc | exact R.ok_lc (by assumption) | exact R.ok_lc (by assumption) (by assumption) | exact R.ok_lc (by assumption) (by assumption) (by assumption) | apply R.ok_lc <;> assumption
theorem ok_tup : OK (mTup fA ρ) P ↔ OK (fA ρ) fun ds ρ1 => small ds.length = true ∧ P (.d (.tup ds)) ρ1 := by
  first | exact R.ok_tup | skip
  all_goals (try simp only [okF_eq, ok_eq] at *)
  all_goals first | exact R.ok_tup | exact R.ok_tup (by assumption) | exact R.ok_tup (by assumption) (by assumption) | exact R.ok_tup (by assumption) (by assumption) (by assumption) | apply R.ok_tup <;> assumption
end
end Fx
/-! the checks and the draws, on data -/
namespace Fx
open PySem
namespace R
theorem ok_chain {g g' : D → D → Option S} {fa fb fc : M S} {ρ : En} {P : S → En → Prop} : OKr (mChain g g' fa fb fc ρ) P ↔ OKr (dv fa ρ) fun x ρ1 => OKr (dv fb ρ1) fun y ρ2 => ∃ b, g x y = some (.d (.bl b)) ∧ (b = true → OKr (dv fc ρ2) fun z ρ3 => ∃ s, g' y z = some s ∧ P s ρ3) ∧ (¬b = true → P (.d (.bl false)) ρ2) := by
  unfold mChain
  simp only [ok_then]
  constructor
  · exact fun h => h.imp fun x ρ1 h => h.imp fun y ρ2 h => by
      split at h
      · rename_i e
        refine ⟨true, e, fun _ => ?_, fun n => absurd rfl n⟩
        rw [ok_then] at h
        refine h.imp fun z ρ3 h => ?_
        cases e : g' y z with
        | none => rw [e] at h; exact h.elim
        | some s => rw [e] at h; exact ⟨s, rfl, h⟩
      · rename_i e
        exact ⟨false, e, fun n => (by cases n), fun _ => h⟩
      · exact h.elim
  · exact fun h => h.imp fun x ρ1 h => h.imp fun y ρ2 h => by
      obtain ⟨b, e, h1, h2⟩ := h
      rw [e]
      cases b with
      | true =>
        dsimp only
        rw [ok_then]
        refine (h1 rfl).imp fun z ρ3 h => ?_
        obtain ⟨s, e, k⟩ := h
        rw [e]
        exact k
      | false => exact h2 (by decide)
end R
theorem ok_chain {g g' : D → D → Option S} {fa fb fc : M S} {ρ : En} {P : S → En → Prop} : OK (mChain g g' fa fb fc ρ) P ↔ OK (dv fa ρ) fun x ρ1 => OK (dv fb ρ1) fun y ρ2 => ∃ b, g x y = some (.d (.bl b)) ∧ (b = true → OK (dv fc ρ2) fun z ρ3 => ∃ s, g' y z = some s ∧ P s ρ3) ∧ (¬b = true → P (.d (.bl false)) ρ2) := by
  simp only [ok_eq]
  exact R.ok_chain
theorem ex_some {α : Type} {a : α} {K : α → Prop} : (∃ s, some a = some s ∧ K s) ↔ K a := ⟨fun ⟨s, e, k⟩ => by cases e; exact k, fun k => ⟨a, rfl, k⟩⟩
theorem ex_bl1 {b : Bool} {K : Bool → Prop} : (∃ c, some (S.d (.bl b)) = some (S.d (.bl c)) ∧ K c) ↔ K b := ⟨fun ⟨s, e, k⟩ => by cases e; exact k, fun k => ⟨b, rfl, k⟩⟩
section
variable {k : Nat} {fe : M S} {items : List D} {ρ0 : En} {f : D → D} {PL : List D → En → Prop}
/-- a comprehension whose element is told of its item alone -/
theorem ok_map (hw : ρ0.set k none = ρ0) (st : ∀ x ∈ items, OK (dv fe (ρ0.set k (some (.d x)))) fun y ρ3 => y = f x ∧ ρ3.set k none = ρ0) (hs : items.length ≤ 16777216) (q : PL (items.map f) ρ0) : OK (mComp (gmName k) mYes fe [k] items [] ρ0) PL := by
  refine ok_comp (I := fun i acc ρ => acc = (items.take i).map f ∧ ρ = ρ0) (k := 0) ⟨rfl, rfl⟩ ?_ ?_
  · rintro i x acc ρ hx ⟨rfl, rfl⟩
    have hi : i < items.length := (List.getElem?_eq_some_iff.mp hx).1
    rw [ok_gname, ok_yes]
    refine ⟨fun _ => ?_, fun n => absurd rfl n⟩
    refine (st x (List.mem_of_getElem? hx)).imp fun y ρ3 ⟨e1, e2⟩ => ⟨?_, ?_, ?_⟩
    · rw [List.length_map, List.length_take, Nat.zero_add, Nat.min_eq_left (Nat.le_of_lt hi)]
      exact decide_eq_true (by omega)
    · rw [e1, Nat.zero_add, List.take_add_one, hx, List.map_append]
      rfl
    · exact e2
  · rintro acc ρ ⟨rfl, rfl⟩
    rw [Nat.zero_add, List.take_length]
    exact q
end
theorem blsD_map {α : Type} {g : α → Bool} : ∀ xs : List α, blsD (xs.map fun x => D.bl (g x)) = some (xs.map g)
  | [] => rfl
  | x :: xs => by
    show (blsD (xs.map fun x => D.bl (g x))).map (g x :: ·) = _
    rw [blsD_map xs]
    rfl
section
variable {x0 x1 x2 x3 : D}
theorem at2 : L2.atI [x0, x1, x2, x3] 2 = some x2 := rfl
theorem at3 : L2.atI [x0, x1, x2, x3] 3 = some x3 := rfl
end
/-- a law's row of draws -/
def rowD (ns : List Int) (a b c : Int) : D := .lst [.scr ns, .int a, .int b, .int c]
def RowOk (a b c : Int) : Prop := 0 ≤ a ∧ 0 ≤ b ∧ b < 2147483647 ∧ 0 ≤ c
section
variable {K : S → Prop} {i j : Int}
theorem e_add : (∃ s, gAdd (.int i) (.int j) = some s ∧ K s) ↔ K (.d (.int (i + j))) := ex_some
theorem e_sub : (∃ s, gMinus (.int i) (.int j) = some s ∧ K s) ↔ K (.d (.int (i - j))) := ex_some
theorem e_mul (h : i64 j = true) : (∃ s, gMul (.int i) (.int j) = some s ∧ K s) ↔ K (.d (.int (i * j))) := by
  have e : gMul (.int i) (.int j) = ok1 (.int (i * j)) := by
    show (if (i64 i || i64 j) = true then ok1 (.int (i * j)) else none) = _
    rw [if_pos (by rw [h, Bool.or_true])]
  rw [e]
  exact ex_some
theorem e_mod (h : 0 < j) : (∃ s, gMod (.int i) (.int j) = some s ∧ K s) ↔ K (.d (.int (i % j))) := by
  unfold gMod gIIc
  dsimp only
  rw [if_pos (decide_eq_true h)]
  exact ex_some
theorem e_div (h : 0 < j) (h2 : j < 1073741824) : (∃ s, gDiv (.int i) (.int j) = some s ∧ K s) ↔ K (.d (.int (i / j))) := by
  have e : gDiv (.int i) (.int j) = ok1 (.int (i / j)) := by
    show (if (decide (0 < j) && decide (j < 1073741824)) = true then ok1 (.int (i / j)) else none) = _
    rw [if_pos (by simp [h, h2])]
  rw [e]
  exact ex_some
theorem e_pow : (∃ s, gPow (.int 10) (.int 18) = some s ∧ K s) ↔ K (.d (.int 1000000000000000000)) := ex_some
theorem e_int : (∃ s, gInt1 [.int i] = some s ∧ K s) ↔ K (.d (.int i)) := ex_some
theorem e_lenS {ns : List Int} : (∃ s, gLen [.scr ns] = some s ∧ K s) ↔ K (.d (.int ns.length)) := ex_some
theorem e_lenT {ds : List D} : (∃ s, gLen [.tup ds] = some s ∧ K s) ↔ K (.d (.int ds.length)) := ex_some
theorem e_lenL {ds : List D} : (∃ s, gLen [.lst ds] = some s ∧ K s) ↔ K (.d (.int ds.length)) := ex_some
theorem at_nat {α : Type} {xs : List α} {i : Int} (h0 : 0 ≤ i) (h1 : i < xs.length) : ∃ x, L2.atI xs i = some x ∧ xs[i.toNat]? = some x := by
  have hj : i.toNat < xs.length := by omega
  refine ⟨xs[i.toNat], ?_, List.getElem?_eq_getElem hj⟩
  have := L2.atI_nat (xs := xs) (List.getElem?_eq_getElem hj)
  rwa [Int.toNat_of_nonneg h0] at this
theorem e_ixS {ns : List Int} (h0 : 0 ≤ i) (h1 : i < ns.length) : (∃ s, gIx (.scr ns) (.int i) = some s ∧ K s) ↔ K (.d (.int ((ns[i.toNat]?).getD 0))) := by
  obtain ⟨x, e1, e2⟩ := at_nat h0 h1
  show (∃ s, (L2.atI ns i).bind (fun n => ok1 (.int n)) = some s ∧ K s) ↔ _
  rw [e1, e2]
  exact ex_some
theorem e_ixT {ds : List D} (h0 : 0 ≤ i) (h1 : i < ds.length) : (∃ s, gIx (.tup ds) (.int i) = some s ∧ K s) ↔ K (.d ((ds[i.toNat]?).getD .non)) := by
  obtain ⟨x, e1, e2⟩ := at_nat h0 h1
  show (∃ s, (L2.atI ds i).bind ok1 = some s ∧ K s) ↔ _
  rw [e1, e2]
  exact ex_some
theorem e_lt : (∃ s, gLt (.int i) (.int j) = some s ∧ K s) ↔ K (.d (.bl (decide (i < j)))) := ex_some
theorem e_le : (∃ s, gLe (.int i) (.int j) = some s ∧ K s) ↔ K (.d (.bl (decide (i ≤ j)))) := ex_some
theorem e_gt : (∃ s, gGt (.int i) (.int j) = some s ∧ K s) ↔ K (.d (.bl (decide (j < i)))) := ex_some
theorem e_ge : (∃ s, gGe (.int i) (.int j) = some s ∧ K s) ↔ K (.d (.bl (decide (j ≤ i)))) := ex_some
theorem e_leC {K : Bool → Prop} : (∃ b, gLe (.int i) (.int j) = some (S.d (.bl b)) ∧ K b) ↔ K (decide (i ≤ j)) := ex_bl1
theorem e_ltC {K : Bool → Prop} : (∃ b, gLt (.int i) (.int j) = some (S.d (.bl b)) ∧ K b) ↔ K (decide (i < j)) := ex_bl1
theorem e_isN {x : D} : (∃ s, gIsN x .non = some s ∧ K s) ↔ K (.d (.bl (isN x))) := ex_some
theorem e_notN {x : D} : (∃ s, gNotN x .non = some s ∧ K s) ↔ K (.d (.bl (!isN x))) := ex_some
end
section
variable {ns : List Int} {a b c : Int} {o : Option Nat} {P : S → En → Prop} {ρ : En}
theorem ok_row1 : OK (mIxO 0 (mC (.int 1)) (some (.o o (rowD ns a b c)) :: ρ)) P ↔ P (.d (.int a)) (some (.o o (rowD ns a b c)) :: ρ) := by
  rw [ok_eq]
  exact Iff.rfl
theorem ok_row2 : OK (mIxO 0 (mC (.int 2)) (some (.o o (rowD ns a b c)) :: ρ)) P ↔ P (.d (.int b)) (some (.o o (rowD ns a b c)) :: ρ) := by
  rw [ok_eq]
  exact Iff.rfl
theorem ok_row3 : OK (mIxO 0 (mC (.int 3)) (some (.o o (rowD ns a b c)) :: ρ)) P ↔ P (.d (.int c)) (some (.o o (rowD ns a b c)) :: ρ) := by
  rw [ok_eq]
  exact Iff.rfl
theorem ok_row0 : OK (mIxO 0 (mC (.int 0)) (some (.o o (rowD ns a b c)) :: ρ)) P ↔ P (.d (.scr ns)) (some (.o o (rowD ns a b c)) :: ρ) := by
  rw [ok_eq]
  exact Iff.rfl
variable {PU : Unit → En → Prop} {x : Int}
theorem ok_put1 : OK (gmItem 0 (mC (.int 1)) (.int x) (some (.o o (rowD ns a b c)) :: ρ)) PU ↔ PU () (some (.o o (rowD ns x b c)) :: ρ) := by
  rw [ok_eq]
  exact Iff.rfl
theorem ok_put2 : OK (gmItem 0 (mC (.int 2)) (.int x) (some (.o o (rowD ns a b c)) :: ρ)) PU ↔ PU () (some (.o o (rowD ns a x c)) :: ρ) := by
  rw [ok_eq]
  exact Iff.rfl
theorem ok_put3 : OK (gmItem 0 (mC (.int 3)) (.int x) (some (.o o (rowD ns a b c)) :: ρ)) PU ↔ PU () (some (.o o (rowD ns a b x)) :: ρ) := by
  rw [ok_eq]
  exact Iff.rfl
end
local macro_rules | `(tactic| walk_at "wp") => `(tactic| simp only [okF_runF, okF_runL, ok_seq, ok_ret, ok_retN, ok_andV, ok_orV, ok_notV, ok_cb, ok_cons, ok_nil, ok_test, ok_dv, ok_op, ok_un, ok_c, ok_if, ok_ifS, ok_and, ok_or, ok_not, ok_asg, ok_gname, ok_drop, ok_call, ok_chain, ok_nx, ok_bk, ok_ct, ok_st, ok_yes, ok_for, ok_lc, ok_tup, ok_ok, ok_stuck, ex_toD, ex_toL, ex_bl, ex_some, ex_bl1, fl_nx, fl_rt, fl_bk, fl_ct, rt_or, nx_or, mVar, ok1, gIsi, isTy, Option.bind, bare, e_add, e_sub, e_int, e_lenS, e_lenT, e_lenL, e_lt, e_le, e_gt, e_ge, e_leC, e_ltC, e_isN, e_notN, e_pow,
  List.map_cons, List.map_nil, List.length_cons, List.length_nil, List.replicate_succ, List.replicate_zero, List.cons_append, List.nil_append, List.append_nil, List.getElem?_cons_zero, List.getElem?_cons_succ, List.set_cons_zero, List.set_cons_succ, Nat.reduceAdd, Nat.reduceSub, true_and, and_true, Bool.not_true, Bool.not_false, true_implies, forall_const, not_true_eq_false, false_implies, Bool.false_eq_true, not_false_eq_true, implies_true, eq_self, ne_eq, reduceCtorEq, Fl.rt.injEq, S.d.injEq, D.int.injEq, false_and, exists_false, or_false, false_or, exists_eq_left'])
local macro_rules | `(tactic| walk_at "wt") => `(tactic| simp (config := { contextual := false }) only [ok_row0, ok_row1, ok_row2, ok_row3, ok_put1, ok_put2, ok_put3, e_mod, e_div, e_mul, e_ixS, decide_true, decide_false, *, okF_runF, okF_runL, ok_seq, ok_ret, ok_retN, ok_andV, ok_orV, ok_notV, ok_cb, ok_cons, ok_nil, ok_test, ok_dv, ok_op, ok_un, ok_c, ok_if, ok_ifS, ok_and, ok_or, ok_not, ok_asg, ok_gname, ok_drop, ok_call, ok_chain, ok_nx, ok_bk, ok_ct, ok_st, ok_yes, ok_for, ok_lc, ok_tup, ok_ok, ok_stuck, ex_toD, ex_toL, ex_bl, ex_some, ex_bl1, fl_nx, fl_rt, fl_bk, fl_ct, rt_or, nx_or, mVar, ok1, gIsi, isTy, Option.bind, bare, e_add, e_sub, e_int, e_lenS, e_lenT, e_lenL, e_lt, e_le, e_gt, e_ge, e_leC, e_ltC, e_isN, e_notN, e_pow,
  List.map_cons, List.map_nil, List.length_cons, List.length_nil, List.replicate_succ, List.replicate_zero, List.cons_append, List.nil_append, List.append_nil, List.getElem?_cons_zero, List.getElem?_cons_succ, List.set_cons_zero, List.set_cons_succ, Nat.reduceAdd, Nat.reduceSub, true_and, and_true, Bool.not_true, Bool.not_false, true_implies, forall_const, not_true_eq_false, false_implies, Bool.false_eq_true, not_false_eq_true, implies_true, eq_self, ne_eq, reduceCtorEq, Fl.rt.injEq, S.d.injEq, D.int.injEq, false_and, exists_false, or_false, false_or, exists_eq_left'])
namespace Lib
def b_is_number : M Fl := (mRet (mAndV (mCB gIsi (aCons (mVar 0) (aCons (mC (.ty "int")) aNil))) (mAndV (mNotV (mCB gIsi (aCons (mVar 0) (aCons (mC (.ty "bool")) aNil)))) (mChain gLe gLe (mVar 1) (mVar 0) (mVar 2)))))
def f_is_number : Fn := runF 3 3 b_is_number
def oD : Option Int → D
  | none => .non
  | some i => .int i
def numB (lo hi : Int) : Option Int → Bool
  | none => false
  | some i => decide (lo ≤ i) && decide (i ≤ hi)
theorem num {o : Option Int} {lo hi : Int} {K : S → Prop} : OKF (f_is_number [.d (oD o), .d (.int lo), .d (.int hi)]) K ↔ K (.d (.bl (numB lo hi o))) := by
  cases o with
  | none =>
    unfold f_is_number b_is_number oD numB
    walk_at "wp"
  | some i =>
    unfold f_is_number b_is_number oD numB
    walk_at "wp"
    by_cases h : lo ≤ i <;> simp [h]
def b_is_tuple : M Fl := (mRet (mAndV (mCB gIsi (aCons (mVar 0) (aCons (mC (.ty "tuple")) aNil))) (mChain gLe gLe (mVar 1) (mCB gLen (aCons (mVar 0) aNil)) (mVar 2))))
def f_is_tuple : Fn := runF 3 3 b_is_tuple
theorem tup {ds : List D} {lo hi : Int} {K : S → Prop} : OKF (f_is_tuple [.d (.tup ds), .d (.int lo), .d (.int hi)]) K ↔ K (.d (.bl (decide (lo ≤ ds.length) && decide ((ds.length : Int) ≤ hi)))) := by
  unfold f_is_tuple b_is_tuple
  walk_at "wp"
  by_cases h : lo ≤ ds.length <;> simp [h]
def b_are_numbers : M Fl := (mRet (mAndV (mCB gIsi (aCons (mVar 0) (aCons (mC (.ty "tuple")) aNil))) (mCB gAll (aCons (mLc (iSeq (mVar 0)) (gmName 3) mYes (mCall f_is_number (aCons (mVar 3) (aCons (mVar 1) (aCons (mVar 2) aNil)))) [3]) aNil))))
def f_are_numbers : Fn := runF 3 4 b_are_numbers
theorem nums {os : List (Option Int)} {lo hi : Int} {K : S → Prop} (hl : os.length ≤ 16777216) (h : K (.d (.bl (os.all (numB lo hi))))) : OKF (f_are_numbers [.d (.tup (os.map oD)), .d (.int lo), .d (.int hi)]) K := by
  unfold f_are_numbers b_are_numbers
  walk_at "wp"
  simp only [iSeq, ok_then, ok_dv, ok_var]
  walk_at "wp"
  simp only [itemsD, ok_ok, wipeE]
  walk_at "wp"
  refine ok_map (f := fun x => .bl (match x with | .int i => decide (lo ≤ i) && decide (i ≤ hi) | _ => false)) rfl ?_ (by rw [List.length_map]; exact hl) ?_
  · intro x hx
    obtain ⟨o, _, rfl⟩ := List.mem_map.mp hx
    walk_at "wp"
    rw [num]
    walk_at "wp"
    cases o <;> rfl
  · refine ⟨_, ?_, h⟩
    show (blsD _).bind _ = _
    have e : List.map (fun x => D.bl (match x with | D.int i => decide (lo ≤ i) && decide (i ≤ hi) | x => false)) (List.map oD os) = os.map fun o => D.bl (numB lo hi o) := by
      rw [List.map_map]
      refine List.map_congr_left fun o _ => ?_
      cases o <;> rfl
    rw [e, blsD_map, Option.bind_some, List.all_map]
    rfl
def b_law_taken : M Fl := (mSeq (mIfS (mTest (mOp gGt (mIxO 0 (mC (.int 3))) (mC (.int 0)))) (mSeq (mAsg (mOp gMod (mCB gInt1 (aCons (mIxO 0 (mC (.int 3))) aNil)) (mVar 1)) (gmName 2))
    (mSeq (mAsg (mOp gDiv (mIxO 0 (mC (.int 3))) (mVar 1)) (gmItem 0 (mC (.int 3))))
    (mRet (mVar 2)))) mNx)
    (mSeq (mAsg (mOp gAdd (mIxO 0 (mC (.int 1))) (mC (.int 1))) (gmItem 0 (mC (.int 1))))
    (mSeq (mIfS (mTest (mOp gGt (mIxO 0 (mC (.int 1))) (mCB gLen (aCons (mIxO 0 (mC (.int 0))) aNil)))) (mSeq (mAsg (mOp gMod (mCB gInt1 (aCons (mOp gAdd (mOp gMul (mIxO 0 (mC (.int 2))) (mC (.int 48271))) (mC (.int 11))) aNil)) (mC (.int 2147483647))) (gmItem 0 (mC (.int 2))))
    (mRet (mOp gMod (mCB gInt1 (aCons (mOp gDiv (mIxO 0 (mC (.int 2))) (mC (.int 7))) aNil)) (mVar 1)))) mNx)
    (mSeq (mAsg (mOp gIx (mIxO 0 (mC (.int 0))) (mOp gMinus (mIxO 0 (mC (.int 1))) (mC (.int 1)))) (gmName 3))
    (mSeq (mAsg (mOp gMod (mCB gInt1 (aCons (mOp gAdd (mOp gAdd (mOp gMul (mIxO 0 (mC (.int 2))) (mC (.int 48271))) (mVar 3)) (mC (.int 11))) aNil)) (mC (.int 2147483647))) (gmItem 0 (mC (.int 2))))
    (mSeq (mIfS (mTest (mOp gGe (mVar 3) (mOp gPow (mC (.int 10)) (mC (.int 18))))) (mAsg (mOp gDiv (mVar 3) (mVar 1)) (gmItem 0 (mC (.int 3)))) mNx)
    (mRet (mOp gMod (mCB gInt1 (aCons (mVar 3) aNil)) (mVar 1)))))))))
def f_law_taken : Fn := runF 2 4 b_law_taken
theorem taken {ns : List Int} {a b c m : Int} (h : RowOk a b c) (h1 : 0 < m) (h2 : m < 1073741824) : OK (f_law_taken [.o (some 0) (rowD ns a b c), .d (.int m)]) fun s ρ => ∃ k a' b' c', s = .d (.int k) ∧ 0 ≤ k ∧ k < m ∧ RowOk a' b' c' ∧ ∃ ρ', ρ = some (.o (some 0) (rowD ns a' b' c')) :: ρ' := by
  obtain ⟨ha, hb, hb2, hc⟩ := h
  have key : OK (b_law_taken [some (.o (some 0) (rowD ns a b c)), some (.d (.int m)), none, none]) fun f ρ => ∃ k a' b' c', f = .rt (.d (.int k)) ∧ 0 ≤ k ∧ k < m ∧ RowOk a' b' c' ∧ ∃ ρ', ρ = some (.o (some 0) (rowD ns a' b' c')) :: ρ' := by
    unfold b_law_taken
    by_cases c0 : 0 < c
    · walk_at "wt"
      refine ⟨c % m, a, b, c / m, rfl, Int.emod_nonneg _ (by omega), Int.emod_lt_of_pos _ h1, ⟨ha, hb, hb2, Int.ediv_nonneg hc (Int.le_of_lt h1)⟩, _, rfl⟩
    · have q1 : i64 48271 = true := rfl
      have q2 : (0 : Int) < 2147483647 := by decide
      have q3 : (0 : Int) < 7 := by decide
      have q4 : (7 : Int) < 1073741824 := by decide
      by_cases c1 : (ns.length : Int) < a + 1
      · walk_at "wt"
        have hm := Int.emod_nonneg ((b * 48271 + 11) % 2147483647 / 7) (show m ≠ 0 by omega)
        have hl := Int.emod_lt_of_pos ((b * 48271 + 11) % 2147483647 / 7) h1
        have hb3 := Int.emod_nonneg (b * 48271 + 11) (show (2147483647 : Int) ≠ 0 by decide)
        have hb4 := Int.emod_lt_of_pos (b * 48271 + 11) q2
        exact ⟨_, _, _, _, rfl, hm, hl, ⟨by omega, hb3, hb4, hc⟩, _, rfl⟩
      · have q5 : 0 ≤ a + 1 - 1 := by omega
        have q6 : a + 1 - 1 < (ns.length : Int) := by omega
        by_cases c2 : 1000000000000000000 ≤ (ns[(a + 1 - 1).toNat]?).getD 0
        · walk_at "wt"
          have hm := Int.emod_nonneg ((ns[(a + 1 - 1).toNat]?).getD 0) (show m ≠ 0 by omega)
          have hl := Int.emod_lt_of_pos ((ns[(a + 1 - 1).toNat]?).getD 0) h1
          have hb3 := Int.emod_nonneg (b * 48271 + (ns[(a + 1 - 1).toNat]?).getD 0 + 11) (show (2147483647 : Int) ≠ 0 by decide)
          have hb4 := Int.emod_lt_of_pos (b * 48271 + (ns[(a + 1 - 1).toNat]?).getD 0 + 11) q2
          exact ⟨_, _, _, _, rfl, hm, hl, ⟨by omega, hb3, hb4, Int.ediv_nonneg (by omega) (Int.le_of_lt h1)⟩, _, rfl⟩
        · walk_at "wt"
          have hm := Int.emod_nonneg ((ns[(a + 1 - 1).toNat]?).getD 0) (show m ≠ 0 by omega)
          have hl := Int.emod_lt_of_pos ((ns[(a + 1 - 1).toNat]?).getD 0) h1
          have hb3 := Int.emod_nonneg (b * 48271 + (ns[(a + 1 - 1).toNat]?).getD 0 + 11) (show (2147483647 : Int) ≠ 0 by decide)
          have hb4 := Int.emod_lt_of_pos (b * 48271 + (ns[(a + 1 - 1).toNat]?).getD 0 + 11) q2
          exact ⟨_, _, _, _, rfl, hm, hl, ⟨by omega, hb3, hb4, hc⟩, _, rfl⟩
  refine ok_runF rfl (key.imp fun f ρ h => ?_)
  obtain ⟨k, a', b', c', rfl, h⟩ := h
  exact .inl ⟨_, rfl, k, a', b', c', rfl, h⟩
end Lib
end Fx
/-! draws within a def, comprehensions that draw -/
namespace Fx
open PySem
def rowS (o : Option Nat) (ns : List Int) (a b c : Int) : Option S := some (.o o (rowD ns a b c))
theorem ok_callO {F : Fn} {i j : Nat} {fA : M (List D)} {ρ : En} {P : S → En → Prop} (h : OK (fA ρ) fun ds ρ1 => ∃ b x, ρ1[i]? = some (some (.o b x)) ∧ j ≤ ds.length ∧ OK (F ((ds.take j).map .d ++ .o (some j) x :: (ds.drop j).map .d)) fun s ρ' => ∃ y, ρ'[j]? = some (some (.o (some j) y)) ∧ bare s = true ∧ P s (ρ1.set i (some (.o b y)))) : OK (mCallO F i j fA ρ) P := by
  unfold mCallO
  rw [ok_then]
  refine h.imp fun ds ρ1 ⟨b, x, e, hj, k⟩ => ?_
  rw [e]
  dsimp only
  rw [if_pos hj]
  obtain ⟨s, ρ', e2, y, e3, hb, k⟩ := k.at
  rw [e2]
  dsimp only
  rw [e3]
  dsimp only
  rw [if_pos ⟨rfl, hb⟩, ok_ok]
  exact k
theorem ok_own {i : Nat} {fr : M (List D)} {ρ : En} {P : List D → En → Prop} : OK (aOwn i fr ρ) P ↔ isOwn ρ i = true ∧ OK (fr ρ) P := by
  unfold aOwn
  rw [ok_ite]
  exact ⟨fun h => by
    by_cases ho : isOwn ρ i = true
    · exact ⟨ho, h.1 ho⟩
    · exact (ok_stuck.mp (h.2 ho)).elim, fun h => ⟨fun _ => h.2, fun n => absurd h.1 n⟩⟩
section
variable {r k : Nat} {o : Option Nat} {ns : List Int} {ρ : En} {P : S → En → Prop} {fm fe : M S} {m : Int}
theorem own_row {a b c : Int} (e : ρ[r]? = some (rowS o ns a b c)) : isOwn ρ r = true := by
  unfold isOwn
  rw [e]
  rfl
/-- a draw of m ways -/
theorem ok_taken {a b c : Int} (e : ρ[r]? = some (rowS o ns a b c)) (hr : RowOk a b c) (hm : OK (dv fm ρ) fun x ρ1 => x = .int m ∧ ρ1 = ρ) (h1 : 0 < m) (h2 : m < 1073741824)
    (q : ∀ v a b c, 0 ≤ v → v < m → RowOk a b c → P (.d (.int v)) (ρ.set r (rowS o ns a b c))) : OK (mCallO Lib.f_law_taken r 0 (aOwn r (aCons fm aNil)) ρ) P := by
  refine ok_callO (ok_own.mpr ⟨own_row e, ?_⟩)
  rw [ok_cons]
  refine hm.imp fun x ρ1 ⟨e1, e2⟩ => ?_
  subst e1
  subst e2
  rw [ok_nil]
  refine ⟨o, rowD ns a b c, e, Nat.zero_le _, (Lib.taken hr h1 h2).imp fun s ρ' h => ?_⟩
  obtain ⟨v, a', b', c', rfl, v0, v1, hr', ρ2, rfl⟩ := h
  exact ⟨rowD ns a' b' c', rfl, rfl, q v a' b' c' v0 v1 hr'⟩
variable {items : List D} {PL : List D → En → Prop}
end
end Fx
/-! algebras: drawn, made, on data -/
namespace Fx
open PySem
theorem ok_seqI {F G : M Fl} {ρ : En} {PF : Fl → En → Prop} (I : En → Prop) (h : OK (F ρ) fun f ρ1 => f = .nx ∧ I ρ1) (k : ∀ ρ1, I ρ1 → OK (G ρ1) PF) : OK (mSeq F G ρ) PF := by
  rw [ok_seq]
  exact h.imp fun f ρ1 ⟨e, hi⟩ => ⟨fun _ => k ρ1 hi, fun n => absurd e n⟩
theorem ok_asgO {i : Nat} {fa : M S} {ρ : En} {PF : Fl → En → Prop} : OK (mAsgO i fa ρ) PF ↔ OK (fa ρ) fun s ρ1 => (∃ x, s = .o none x ∧ PF .nx (ρ1.set i (some (.o none x)))) ∨ ∃ x, s = .d x ∧ PF .nx (ρ1.set i (some (.d x))) := by
  unfold mAsgO
  rw [ok_then]
  refine ⟨fun h => h.imp fun s ρ1 h => ?_, fun h => h.imp fun s ρ1 h => ?_⟩
  · split at h
    · exact .inl ⟨_, rfl, ok_out h⟩
    · exact .inr ⟨_, rfl, ok_out h⟩
    · exact (ok_out h).elim
  · rcases h with ⟨x, rfl, h⟩ | ⟨x, rfl, h⟩
    · exact ok_of h
    · exact ok_of h
theorem ok_lst {fA : M (List D)} {ρ : En} {P : S → En → Prop} : OK (mLst fA ρ) P ↔ OK (fA ρ) fun ds ρ1 => small ds.length = true ∧ P (.o none (.lst ds)) ρ1 := by
  unfold mLst
  rw [ok_then]
  refine ⟨fun h => h.imp fun ds ρ1 h => ?_, fun h => h.imp fun ds ρ1 h => ?_⟩
  · by_cases hz : small ds.length = true
    · rw [if_pos hz] at h
      exact ⟨hz, ok_out h⟩
    · rw [if_neg hz] at h
      exact (ok_out h).elim
  · rw [if_pos h.1]
    exact ok_of h.2
theorem ok_iseq {f : M S} {ρ : En} {P : List D → En → Prop} : OK (iSeq f ρ) P ↔ OK (dv f ρ) fun x ρ1 => ∃ ds, itemsD x = some ds ∧ P ds ρ1 := by
  unfold iSeq
  rw [ok_then]
  refine ⟨fun h => h.imp fun x ρ1 h => ?_, fun h => h.imp fun x ρ1 h => ?_⟩
  · cases e : itemsD x with
    | none => rw [e] at h; exact (ok_out h).elim
    | some ds => rw [e] at h; exact ⟨ds, rfl, ok_out h⟩
  · obtain ⟨ds, e, h⟩ := h
    rw [e]
    exact ok_of h
theorem ok_sl {fe : M S} {fl fh : M (Option Int)} {ρ : En} {P : S → En → Prop} (h : OK (dv fe ρ) fun x ρ1 => OK (fl ρ1) fun lo ρ2 => OK (fh ρ2) fun hi ρ3 => ∃ s, gSl x lo hi = some s ∧ P s ρ3) : OK (mSl fe fl fh ρ) P := by
  unfold mSl
  simp only [ok_then]
  refine h.imp fun x ρ1 h => h.imp fun lo ρ2 h => h.imp fun hi ρ3 ⟨s, e, h⟩ => ?_
  rw [e]
  exact ok_of h
theorem ok_osome {f : M S} {ρ : En} {P : Option Int → En → Prop} (h : OK (dv f ρ) fun x ρ1 => ∃ i, x = .int i ∧ P (some i) ρ1) : OK (oSome f ρ) P := by
  unfold oSome
  rw [ok_then]
  refine h.imp fun x ρ1 ⟨i, e, h⟩ => ?_
  subst e
  exact ok_of h
local macro_rules | `(tactic| walk_at "wp") => `(tactic| simp only [okF_runF, okF_runL, ok_seq, ok_ret, ok_retN, ok_andV, ok_orV, ok_notV, ok_cb, ok_cons, ok_nil, ok_test, ok_dv, ok_op, ok_un, ok_c, ok_if, ok_ifS, ok_and, ok_or, ok_not, ok_asg, ok_gname, ok_drop, ok_call, ok_chain, ok_nx, ok_bk, ok_ct, ok_st, ok_yes, ok_tup, ok_ok, ok_stuck, ex_toD, ex_toL, ex_bl, ex_some, ex_bl1, fl_nx, fl_rt, fl_bk, fl_ct, rt_or, nx_or, mVar, ok1, gIsi, mIsi2, gIsi2, isTy2, isTy, Option.bind, bare, e_add, e_sub, e_int, e_lenS, e_lenT, e_lenL, e_lt, e_le, e_gt, e_ge, e_leC, e_ltC, e_isN, e_notN, e_pow,
  List.map_cons, List.map_nil, List.length_cons, List.length_nil, List.replicate_succ, List.replicate_zero, List.cons_append, List.nil_append, List.append_nil, List.getElem?_cons_zero, List.getElem?_cons_succ, List.set_cons_zero, List.set_cons_succ, Nat.reduceAdd, Nat.reduceSub, true_and, and_true, Bool.not_true, Bool.not_false, true_implies, forall_const, not_true_eq_false, false_implies, Bool.false_eq_true, not_false_eq_true, implies_true, eq_self, ne_eq, reduceCtorEq, Fl.rt.injEq, S.d.injEq, D.int.injEq, false_and, exists_false, or_false, false_or, exists_eq_left'])
local macro_rules | `(tactic| walk_at "wt") => `(tactic| simp (config := { contextual := false }) only [ok_row0, ok_row1, ok_row2, ok_row3, ok_put1, ok_put2, ok_put3, e_mod, e_div, e_mul, e_ixS, decide_true, decide_false, *, okF_runF, okF_runL, ok_seq, ok_ret, ok_retN, ok_andV, ok_orV, ok_notV, ok_cb, ok_cons, ok_nil, ok_test, ok_dv, ok_op, ok_un, ok_c, ok_if, ok_ifS, ok_and, ok_or, ok_not, ok_asg, ok_gname, ok_drop, ok_call, ok_chain, ok_nx, ok_bk, ok_ct, ok_st, ok_yes, ok_tup, ok_ok, ok_stuck, ex_toD, ex_toL, ex_bl, ex_some, ex_bl1, fl_nx, fl_rt, fl_bk, fl_ct, rt_or, nx_or, mVar, ok1, gIsi, mIsi2, gIsi2, isTy2, isTy, Option.bind, bare, e_add, e_sub, e_int, e_lenS, e_lenT, e_lenL, e_lt, e_le, e_gt, e_ge, e_leC, e_ltC, e_isN, e_notN, e_pow,
  List.map_cons, List.map_nil, List.length_cons, List.length_nil, List.replicate_succ, List.replicate_zero, List.cons_append, List.nil_append, List.append_nil, List.getElem?_cons_zero, List.getElem?_cons_succ, List.set_cons_zero, List.set_cons_succ, Nat.reduceAdd, Nat.reduceSub, true_and, and_true, Bool.not_true, Bool.not_false, true_implies, forall_const, not_true_eq_false, false_implies, Bool.false_eq_true, not_false_eq_true, implies_true, eq_self, ne_eq, reduceCtorEq, Fl.rt.injEq, S.d.injEq, D.int.injEq, false_and, exists_false, or_false, false_or, exists_eq_left'])
local macro_rules | `(tactic| walk_at "wy") => `(tactic| try walk_at "wp")
local macro_rules | `(tactic| walk_at "we") => `(tactic| first | done | rfl | exact ⟨rfl, rfl⟩ | exact ⟨rfl, rfl, rfl⟩)
namespace Lib
def b_is_table : M Fl := (mSeq (mIfS (mNot (mTest (mCall f_is_tuple (aCons (mVar 0) (aCons (mVar 1) (aCons (mVar 1) aNil)))))) (mRet (mC (.bl false))) mNx)
    (mRet (mCB gAll (aCons (mLc (iSeq (mVar 0)) (gmName 2) mYes (mOrV (mOp gIsN (mVar 2) (mC .non)) (mCall f_is_number (aCons (mVar 2) (aCons (mC (.int 0)) (aCons (mOp gMinus (mVar 1) (mC (.int 1))) aNil))))) [2]) aNil))))
def f_is_table : Fn := runF 2 3 b_is_table
def b_levels_after : M Fl := (mSeq (mAsg (mOp gIx (mFldE "Algebra" 1 (mVar 0)) (mVar 1)) (gmName 2))
    (mRet (mLc (iSeq (mVar 2)) (gmName 3) mYes (mIf (mTest (mOp gIsN (mVar 3) (mC .non))) (mC (.int 4096)) (mOp gIx (mFldE "Algebra" 0 (mVar 0)) (mVar 3))) [3])))
def f_levels_after : Fn := runF 2 4 b_levels_after
def b_Algebra_init : M Fl := (mSeq (mIfS (mOr (mNot (mTest (mCall f_is_tuple (aCons (mVar 1) (aCons (mC (.int 1)) (aCons (mC (.int 64)) aNil)))))) (mNot (mTest (mCall f_are_numbers (aCons (mVar 1) (aCons (mC (.int 0)) (aCons (mC (.int 4095)) aNil))))))) mSt mNx)
    (mSeq (mIfS (mNot (mTest (mCall f_is_tuple (aCons (mVar 2) (aCons (mC (.int 1)) (aCons (mC (.int 64)) aNil)))))) mSt mNx)
    (mSeq (mFor (iEnu (aCons (mVar 2) aNil)) (gmTup 2 (gmCons (gmName 3) (gmCons (gmName 4) gmNil))) (mIfS (mNot (mTest (mCall f_is_table (aCons (mVar 4) (aCons (mCB gLen (aCons (mVar 1) aNil)) aNil))))) mSt mNx))
    (mSeq (mSetF "Algebra" 0 0 (mVar 1))
    (mSetF "Algebra" 1 0 (mVar 2))))))
def f_Algebra_init : Fn := runF 3 5 b_Algebra_init
def tabD (t : List (Option Int)) : D := .tup (t.map oD)
/-- an algebra as it is drawn -/
structure OkAlg (most many : Int) (ls : List Int) (ts : List (List (Option Int))) : Prop where
  l1 : 1 ≤ ls.length
  l2 : (ls.length : Int) ≤ most
  lv : ∀ l ∈ ls, 0 ≤ l ∧ l ≤ most
  t1 : 1 ≤ ts.length
  t2 : (ts.length : Int) ≤ many
  tb : ∀ t ∈ ts, t.length = ls.length ∧ ∀ i, some i ∈ t → 0 ≤ i ∧ i < (ls.length : Int)
end Lib
end Fx
/-! a value is alike itself -/
namespace Fx
open PySem
theorem eqD_self {x : D} (h : pl60 x = true) : eqD x x = true := SeqAt.eqv_refl_plain _ (pl60_shaped h).1
theorem gEq_self {x : D} (h : pl60 x = true) : gEq x x = some (.d (.bl true)) := by
  unfold gEq
  rw [h, eqD_self h]
  rfl
theorem gNe_self {x : D} (h : pl60 x = true) : gNe x x = some (.d (.bl false)) := by
  unfold gNe
  rw [h, eqD_self h]
  rfl
/-- data at most n deep, of bounded width -/
def fit : Nat → D → Bool
  | 0, .non => true
  | 0, .bl _ => true
  | 0, .int _ => true
  | 0, .str _ => true
  | 0, _ => false
  | _ + 1, .non => true
  | _ + 1, .bl _ => true
  | _ + 1, .int _ => true
  | _ + 1, .str _ => true
  | n + 1, .tup ds => decide (ds.length ≤ 1000000) && ds.all (fit n)
  | n + 1, .lst ds => decide (ds.length ≤ 1000000) && ds.all (fit n)
  | _ + 1, _ => false
local macro_rules | `(tactic| walk_at "wp") => `(tactic| simp only [okF_runF, okF_runL, ok_seq, ok_ret, ok_retN, ok_andV, ok_orV, ok_notV, ok_cb, ok_cons, ok_nil, ok_test, ok_dv, ok_op, ok_un, ok_c, ok_if, ok_ifS, ok_and, ok_or, ok_not, ok_asg, ok_gname, ok_drop, ok_call, ok_chain, ok_nx, ok_bk, ok_ct, ok_st, ok_yes, ok_tup, ok_ok, ok_stuck, ex_toD, ex_toL, ex_bl, ex_some, ex_bl1, fl_nx, fl_rt, fl_bk, fl_ct, rt_or, nx_or, mVar, ok1, gIsi, mIsi2, gIsi2, isTy2, isTy, Option.bind, bare, e_add, e_sub, e_int, e_lenS, e_lenT, e_lenL, e_lt, e_le, e_gt, e_ge, e_leC, e_ltC, e_isN, e_notN, e_pow,
  List.map_cons, List.map_nil, List.length_cons, List.length_nil, List.replicate_succ, List.replicate_zero, List.cons_append, List.nil_append, List.append_nil, List.getElem?_cons_zero, List.getElem?_cons_succ, List.set_cons_zero, List.set_cons_succ, Nat.reduceAdd, Nat.reduceSub, true_and, and_true, Bool.not_true, Bool.not_false, true_implies, forall_const, not_true_eq_false, false_implies, Bool.false_eq_true, not_false_eq_true, implies_true, eq_self, ne_eq, reduceCtorEq, Fl.rt.injEq, S.d.injEq, D.int.injEq, false_and, exists_false, or_false, false_or, exists_eq_left'])
local macro_rules | `(tactic| walk_at "wt") => `(tactic| simp (config := { contextual := false }) only [ok_row0, ok_row1, ok_row2, ok_row3, ok_put1, ok_put2, ok_put3, e_mod, e_div, e_mul, e_ixS, decide_true, decide_false, *, okF_runF, okF_runL, ok_seq, ok_ret, ok_retN, ok_andV, ok_orV, ok_notV, ok_cb, ok_cons, ok_nil, ok_test, ok_dv, ok_op, ok_un, ok_c, ok_if, ok_ifS, ok_and, ok_or, ok_not, ok_asg, ok_gname, ok_drop, ok_call, ok_chain, ok_nx, ok_bk, ok_ct, ok_st, ok_yes, ok_tup, ok_ok, ok_stuck, ex_toD, ex_toL, ex_bl, ex_some, ex_bl1, fl_nx, fl_rt, fl_bk, fl_ct, rt_or, nx_or, mVar, ok1, gIsi, mIsi2, gIsi2, isTy2, isTy, Option.bind, bare, e_add, e_sub, e_int, e_lenS, e_lenT, e_lenL, e_lt, e_le, e_gt, e_ge, e_leC, e_ltC, e_isN, e_notN, e_pow,
  List.map_cons, List.map_nil, List.length_cons, List.length_nil, List.replicate_succ, List.replicate_zero, List.cons_append, List.nil_append, List.append_nil, List.getElem?_cons_zero, List.getElem?_cons_succ, List.set_cons_zero, List.set_cons_succ, Nat.reduceAdd, Nat.reduceSub, true_and, and_true, Bool.not_true, Bool.not_false, true_implies, forall_const, not_true_eq_false, false_implies, Bool.false_eq_true, not_false_eq_true, implies_true, eq_self, ne_eq, reduceCtorEq, Fl.rt.injEq, S.d.injEq, D.int.injEq, false_and, exists_false, or_false, false_or, exists_eq_left'])
local macro_rules | `(tactic| walk_at "wy") => `(tactic| try walk_at "wp")
local macro_rules | `(tactic| walk_at "we") => `(tactic| first | done | rfl | exact ⟨rfl, rfl⟩ | exact ⟨rfl, rfl, rfl⟩)
namespace Lib
theorem e_eqT {b : Bool} {K : S → Prop} : (∃ s, gEq (.bl b) (.bl b) = some s ∧ K s) ↔ K (.d (.bl true)) := by
  rw [gEq_self rfl]
  exact ex_some
theorem e_neF {b : Bool} {K : S → Prop} : (∃ s, gNe (.bl b) (.bl b) = some s ∧ K s) ↔ K (.d (.bl false)) := by
  rw [gNe_self rfl]
  exact ex_some
theorem e_neI {i : Int} {K : S → Prop} : (∃ s, gNe (.int i) (.int i) = some s ∧ K s) ↔ K (.d (.bl false)) := by
  rw [gNe_self rfl]
  exact ex_some
theorem e_eqI {i : Int} {K : S → Prop} : (∃ s, gEq (.int i) (.int i) = some s ∧ K s) ↔ K (.d (.bl true)) := by
  rw [gEq_self rfl]
  exact ex_some
theorem e_eqN {K : S → Prop} : (∃ s, gEq .non .non = some s ∧ K s) ↔ K (.d (.bl true)) := by
  rw [gEq_self rfl]
  exact ex_some
theorem e_eqS {z : Str} {K : S → Prop} : (∃ s, gEq (.str z) (.str z) = some s ∧ K s) ↔ K (.d (.bl true)) := by
  rw [gEq_self rfl]
  exact ex_some
local macro_rules | `(tactic| walk_at "wz") => `(tactic| repeat (first | walk_at "wp" | simp only [isN, e_eqN, e_eqT, e_eqI, e_eqS, e_neF, e_neI]))
end Lib
end Fx
/-! algebras on data: made, checked, followed -/
namespace Fx
open PySem
theorem ok_setF {n : String} {i k : Nat} {fe : M S} {ρ : En} {PF : Fl → En → Prop} (h : OK (dv fe ρ) fun x ρ1 => ∃ b ds, ρ1[k]? = some (some (.o b (.ins n ds))) ∧ ds.length = i ∧ PF .nx (ρ1.set k (some (.o b (.ins n (ds ++ [x])))))) : OK (mSetF n i k fe ρ) PF := by
  unfold mSetF
  rw [ok_then]
  refine h.imp fun x ρ1 ⟨b, ds, e, hl, q⟩ => ?_
  rw [e]
  dsimp only
  rw [if_pos ⟨rfl, hl⟩]
  exact ok_of q
theorem ok_ienu {fA : M (List D)} {ρ : En} {P : List D → En → Prop} (h : OK (fA ρ) fun ds ρ1 => ∃ x es, ds = [x] ∧ itemsD x = some es ∧ P (enumD 0 es) ρ1) : OK (iEnu fA ρ) P := by
  unfold iEnu
  rw [ok_then]
  refine h.imp fun ds ρ1 ⟨x, es, e, e2, q⟩ => ?_
  subst e
  dsimp only
  rw [e2]
  exact ok_of q
theorem enumD_at {ds : List D} {i : Nat} {x : D} (h : (enumD 0 ds)[i]? = some x) : ∃ d, ds[i]? = some d ∧ x = .tup [.int (i : Nat), d] := by
  have hi := (List.getElem?_eq_some_iff.mp h).1
  rw [enumD_length] at hi
  have e := List.getElem?_eq_getElem hi
  rw [enumD_get ds 0 i _ e] at h
  cases h
  exact ⟨_, e, by rw [Nat.zero_add]⟩
theorem ok_gtup2 {i j : Nat} {x y : D} {ρ : En} {P : Unit → En → Prop} (h : P () ((ρ.set i (some (.d x))).set j (some (.d y)))) : OK (gmTup 2 (gmCons (gmName i) (gmCons (gmName j) gmNil)) (.tup [x, y]) ρ) P := ok_of h
theorem ok_fld {n : String} {i : Nat} {fe : M S} {ρ : En} {P : S → En → Prop} (h : OK (dv fe ρ) fun x ρ1 => ∃ ds y, x = .ins n ds ∧ ds[i]? = some y ∧ P (.d y) ρ1) : OK (mFldE n i fe ρ) P := by
  unfold mFldE
  rw [ok_un]
  refine h.imp fun x ρ1 ⟨ds, y, e, e2, q⟩ => ⟨.d y, ?_, q⟩
  subst e
  show (if n = n then (ds[i]?).bind ok1 else none) = _
  rw [if_pos rfl, e2]
  rfl
local macro_rules | `(tactic| walk_at "wp") => `(tactic| simp only [okF_runF, okF_runL, ok_seq, ok_ret, ok_retN, ok_andV, ok_orV, ok_notV, ok_cb, ok_cons, ok_nil, ok_test, ok_dv, ok_op, ok_un, ok_c, ok_if, ok_ifS, ok_and, ok_or, ok_not, ok_asg, ok_gname, ok_drop, ok_call, ok_chain, ok_nx, ok_bk, ok_ct, ok_st, ok_yes, ok_tup, ok_ok, ok_stuck, ex_toD, ex_toL, ex_bl, ex_some, ex_bl1, fl_nx, fl_rt, fl_bk, fl_ct, rt_or, nx_or, mVar, ok1, gIsi, mIsi2, gIsi2, isTy2, isTy, Option.bind, bare, e_add, e_sub, e_int, e_lenS, e_lenT, e_lenL, e_lt, e_le, e_gt, e_ge, e_leC, e_ltC, e_isN, e_notN, e_pow,
  List.map_cons, List.map_nil, List.length_cons, List.length_nil, List.replicate_succ, List.replicate_zero, List.cons_append, List.nil_append, List.append_nil, List.getElem?_cons_zero, List.getElem?_cons_succ, List.set_cons_zero, List.set_cons_succ, Nat.reduceAdd, Nat.reduceSub, true_and, and_true, Bool.not_true, Bool.not_false, true_implies, forall_const, not_true_eq_false, false_implies, Bool.false_eq_true, not_false_eq_true, implies_true, eq_self, ne_eq, reduceCtorEq, Fl.rt.injEq, S.d.injEq, D.int.injEq, false_and, exists_false, or_false, false_or, exists_eq_left'])
local macro_rules | `(tactic| walk_at "wt") => `(tactic| simp (config := { contextual := false }) only [ok_row0, ok_row1, ok_row2, ok_row3, ok_put1, ok_put2, ok_put3, e_mod, e_div, e_mul, e_ixS, decide_true, decide_false, *, okF_runF, okF_runL, ok_seq, ok_ret, ok_retN, ok_andV, ok_orV, ok_notV, ok_cb, ok_cons, ok_nil, ok_test, ok_dv, ok_op, ok_un, ok_c, ok_if, ok_ifS, ok_and, ok_or, ok_not, ok_asg, ok_gname, ok_drop, ok_call, ok_chain, ok_nx, ok_bk, ok_ct, ok_st, ok_yes, ok_tup, ok_ok, ok_stuck, ex_toD, ex_toL, ex_bl, ex_some, ex_bl1, fl_nx, fl_rt, fl_bk, fl_ct, rt_or, nx_or, mVar, ok1, gIsi, mIsi2, gIsi2, isTy2, isTy, Option.bind, bare, e_add, e_sub, e_int, e_lenS, e_lenT, e_lenL, e_lt, e_le, e_gt, e_ge, e_leC, e_ltC, e_isN, e_notN, e_pow,
  List.map_cons, List.map_nil, List.length_cons, List.length_nil, List.replicate_succ, List.replicate_zero, List.cons_append, List.nil_append, List.append_nil, List.getElem?_cons_zero, List.getElem?_cons_succ, List.set_cons_zero, List.set_cons_succ, Nat.reduceAdd, Nat.reduceSub, true_and, and_true, Bool.not_true, Bool.not_false, true_implies, forall_const, not_true_eq_false, false_implies, Bool.false_eq_true, not_false_eq_true, implies_true, eq_self, ne_eq, reduceCtorEq, Fl.rt.injEq, S.d.injEq, D.int.injEq, false_and, exists_false, or_false, false_or, exists_eq_left'])
local macro_rules | `(tactic| walk_at "wy") => `(tactic| try walk_at "wp")
local macro_rules | `(tactic| walk_at "we") => `(tactic| first | done | rfl | exact ⟨rfl, rfl⟩ | exact ⟨rfl, rfl, rfl⟩)
namespace Lib
def algD (ls : List Int) (ts : List (List (Option Int))) : D := .ins "Algebra" [.tup (ls.map D.int), .tup (ts.map tabD)]
theorem nums1 {ls : List Int} {lo hi : Int} {K : S → Prop} (hl : ls.length ≤ 16777216) (hv : ∀ l ∈ ls, lo ≤ l ∧ l ≤ hi) (h : K (.d (.bl true))) : OKF (f_are_numbers [.d (.tup (ls.map D.int)), .d (.int lo), .d (.int hi)]) K := by
  have e : ls.map D.int = (ls.map some).map oD := by
    rw [List.map_map]
    rfl
  rw [e]
  refine nums (by rw [List.length_map]; exact hl) ?_
  have e2 : (ls.map some).all (numB lo hi) = true := by
    rw [List.all_eq_true]
    intro o ho
    obtain ⟨l, hm, rfl⟩ := List.mem_map.mp ho
    have := hv l hm
    simp [numB, this.1, this.2]
  rw [e2]
  exact h
theorem table {t : List (Option Int)} {n : Int} {K : S → Prop} (hl : (t.length : Int) = n) (hn : n ≤ 1000) (ht : ∀ i, some i ∈ t → 0 ≤ i ∧ i < n) (h : K (.d (.bl true))) : OKF (f_is_table [.d (tabD t), .d (.int n)]) K := by
  unfold f_is_table b_is_table tabD
  walk_at "wp"
  rw [tup, List.length_map, hl]
  walk_at "wp"
  have e : (decide (n ≤ n)) = true := decide_eq_true (Int.le_refl n)
  simp only [e, Bool.and_true]
  walk_at "wp"
  simp only [ok_lc, ok_iseq]
  walk_at "wp"
  simp only [itemsD, ex_some, wipeE]
  walk_at "wp"
  refine ok_map (f := fun _ => .bl true) rfl ?_ (by rw [List.length_map]; omega) ?_
  · intro y hy
    obtain ⟨o, ho, rfl⟩ := List.mem_map.mp hy
    walk_at "wp"
    cases o with
    | none => exact fun n => absurd rfl n
    | some i =>
      intro _
      rw [num]
      have := ht i ho
      have e : numB 0 (n - 1) (some i) = true := by
        show (decide (0 ≤ i) && decide (i ≤ n - 1)) = true
        rw [decide_eq_true this.1, decide_eq_true (show i ≤ n - 1 by omega)]
        rfl
      rw [e]
      exact ⟨rfl, _, rfl, rfl⟩
  · refine ⟨.d (.bl true), ?_, h⟩
    show (blsD _).bind _ = _
    rw [blsD_map (g := fun _ => true), Option.bind_some]
    show ok1 (.bl ((List.map (fun _ => true) (t.map oD)).all id)) = _
    rw [List.all_map]
    simp [ok1]
theorem made {most many : Int} {ls : List Int} {ts : List (List (Option Int))} (o : OkAlg most many ls ts) (h1 : most ≤ 64) (h2 : many ≤ 64) :
    OK (f_Algebra_init [.o (some 0) (.ins "Algebra" []), .d (.tup (ls.map D.int)), .d (.tup (ts.map tabD))]) fun s ρ => s = .d .non ∧ ρ[0]? = some (some (.o (some 0) (algD ls ts))) := by
  obtain ⟨l1, l2, lv, t1, t2, tb⟩ := o
  unfold f_Algebra_init
  refine ok_runF rfl ?_
  show OK (b_Algebra_init [some (.o (some 0) (.ins "Algebra" [])), some (.d (.tup (ls.map D.int))), some (.d (.tup (ts.map tabD))), none, none]) _
  unfold b_Algebra_init
  refine ok_seqI (fun ρ => ρ = [some (.o (some 0) (.ins "Algebra" [])), some (.d (.tup (ls.map D.int))), some (.d (.tup (ts.map tabD))), none, none]) ?_ ?_
  · walk_at "wp"
    rw [tup, List.length_map, decide_eq_true (show (1 : Int) ≤ ls.length by omega), decide_eq_true (show (ls.length : Int) ≤ 64 by omega)]
    walk_at "wp"
    refine ⟨fun n => (by cases n), fun _ => nums1 (ls := ls) (lo := 0) (hi := 4095) (by omega) (fun l hl => by have := lv l hl; omega) ?_⟩
    walk_at "wp"
  rintro _ rfl
  refine ok_seqI (fun ρ => ρ = [some (.o (some 0) (.ins "Algebra" [])), some (.d (.tup (ls.map D.int))), some (.d (.tup (ts.map tabD))), none, none]) ?_ ?_
  · walk_at "wp"
    rw [tup, List.length_map, decide_eq_true (show (1 : Int) ≤ ts.length by omega), decide_eq_true (show (ts.length : Int) ≤ 64 by omega)]
    walk_at "wp"
    exact fun n => (by cases n)
  rintro _ rfl
  refine ok_seqI (fun ρ => ∃ x3 x4, ρ = [some (.o (some 0) (.ins "Algebra" [])), some (.d (.tup (ls.map D.int))), some (.d (.tup (ts.map tabD))), x3, x4]) ?_ ?_
  · rw [ok_for]
    refine ok_ienu ?_
    walk_at "wp"
    refine ⟨_, _, rfl, rfl, ?_⟩
    refine ok_loop (k := 0) (I := fun i ρ => ∃ x3 x4, ρ = [some (.o (some 0) (.ins "Algebra" [])), some (.d (.tup (ls.map D.int))), some (.d (.tup (ts.map tabD))), x3, x4]) ⟨_, _, rfl⟩ ?_ ?_
    · rintro i x ρ hx ⟨x3, x4, rfl⟩
      obtain ⟨d, hd, rfl⟩ := enumD_at hx
      rw [List.getElem?_map] at hd
      obtain ⟨t, ht, rfl⟩ := Option.map_eq_some_iff.mp hd
      refine ok_gtup2 ?_
      walk_at "wp"
      rw [List.length_map]
      have hm := tb t (List.mem_of_getElem? ht)
      refine table (by rw [hm.1]) (by omega) hm.2 ?_
      walk_at "wp"
      exact ⟨_, _, rfl⟩
    · rintro ρ ⟨x3, x4, rfl⟩
      exact ⟨rfl, _, _, rfl⟩
  rintro _ ⟨x3, x4, rfl⟩
  rw [ok_seq]
  refine ok_setF ?_
  walk_at "wp"
  refine ⟨_, _, rfl, rfl, ?_⟩
  walk_at "wp"
  refine ok_setF ?_
  walk_at "wp"
  exact ⟨_, _, rfl, rfl, rfl⟩
/-! ### what is asked of an algebra -/
/-- the level of what was made -/
def lev (ls : List Int) : Option Int → Int
  | none => 4096
  | some i => (ls[i.toNat]?).getD 0
theorem after {ls : List Int} {ts : List (List (Option Int))} {t : List (Option Int)} {f : Nat} {K : S → Prop} (ht : ts[f]? = some t) (hl : t.length ≤ 1000) (hr : ∀ i, some i ∈ t → 0 ≤ i ∧ i < (ls.length : Int)) (h : K (.o none (.lst (t.map fun o => .int (lev ls o))))) : OKF (f_levels_after [.d (algD ls ts), .d (.int (f : Nat))]) K := by
  unfold f_levels_after b_levels_after
  walk_at "wp"
  refine ok_fld ?_
  walk_at "wp"
  refine ⟨_, _, rfl, rfl, ?_⟩
  have hf := (List.getElem?_eq_some_iff.mp ht).1
  rw [e_ixT (by omega) (by rw [List.length_map]; omega), Int.toNat_natCast, List.getElem?_map, ht]
  walk_at "wp"
  show OK (mLc _ _ _ _ _ [some (.d (algD ls ts)), some (.d (.int (f : Nat))), some (.d (tabD t)), none]) _
  simp only [ok_lc, ok_iseq]
  walk_at "wp"
  simp only [tabD, itemsD, ex_some, wipeE]
  walk_at "wp"
  refine ok_map (f := fun y => match y with | .int i => .int ((ls[i.toNat]?).getD 0) | _ => .int 4096) rfl ?_ (by rw [List.length_map]; omega) ?_
  · intro y hy
    obtain ⟨o, ho, rfl⟩ := List.mem_map.mp hy
    walk_at "wp"
    cases o with
    | none => exact ⟨fun _ => rfl, fun n => absurd rfl n⟩
    | some i =>
      refine ⟨fun n => (by cases n), fun _ => ?_⟩
      have := hr i ho
      refine ok_fld ?_
      walk_at "wp"
      refine ⟨_, _, rfl, rfl, ?_⟩
      show ∃ s, gIx (.tup (ls.map D.int)) (.int i) = some s ∧ _
      rw [e_ixT this.1 (by rw [List.length_map]; exact this.2), List.getElem?_map]
      walk_at "wp"
      obtain ⟨v, e1, e2⟩ := at_nat (xs := ls) this.1 this.2
      show (Option.map D.int ls[i.toNat]?).getD D.non = D.int ((ls[i.toNat]?).getD 0)
      rw [e2]
      rfl
  · have e : (t.map oD).map (fun y => match y with | .int i => D.int ((ls[i.toNat]?).getD 0) | _ => D.int 4096) = t.map fun o => D.int (lev ls o) := by
      rw [List.map_map]
      refine List.map_congr_left fun o _ => ?_
      cases o <;> rfl
    rw [e]
    exact h
/-- a breaks at element j of the table at f -/
def Brk2 (br : Int → Int → Bool) (ls : List Int) (ts : List (List (Option Int))) (f j : Nat) : Bool := match ts[f]?, ls[j]? with
  | some t, some l => br l (lev ls ((t[j]?).getD none))
  | _, _ => false
theorem Brk2.out {br : Int → Int → Bool} {ls : List Int} {ts : List (List (Option Int))} {f j : Nat} (h : ts.length ≤ f ∨ ls.length ≤ j) : Brk2 br ls ts f j = false := by
  unfold Brk2
  rcases h with h | h
  · rw [List.getElem?_eq_none h]
  · rw [List.getElem?_eq_none h]
    cases ts[f]? <;> rfl
/-- a breaks at elements i, j of the table at f -/
def Brk3 (br : Int → Int → Int → Int → Bool) (ls : List Int) (ts : List (List (Option Int))) (f i j : Nat) : Bool := match ts[f]?, ls[i]?, ls[j]? with
  | some t, some a, some b => br a b (lev ls ((t[i]?).getD none)) (lev ls ((t[j]?).getD none))
  | _, _, _ => false
theorem Brk3.out {br : Int → Int → Int → Int → Bool} {ls : List Int} {ts : List (List (Option Int))} {f i j : Nat} (h : ts.length ≤ f ∨ ls.length ≤ i ∨ ls.length ≤ j) : Brk3 br ls ts f i j = false := by
  unfold Brk3
  rcases h with h | h | h
  · rw [List.getElem?_eq_none h]
  · rw [List.getElem?_eq_none h]
    cases ts[f]? <;> rfl
  · rw [List.getElem?_eq_none h]
    cases ts[f]? <;> cases ls[i]? <;> rfl
end Lib
end Fx
/-! words followed, on data -/
namespace Fx
open PySem
local macro_rules | `(tactic| walk_at "wp") => `(tactic| simp only [okF_runF, okF_runL, ok_seq, ok_ret, ok_retN, ok_andV, ok_orV, ok_notV, ok_cb, ok_cons, ok_nil, ok_test, ok_dv, ok_op, ok_un, ok_c, ok_if, ok_ifS, ok_and, ok_or, ok_not, ok_asg, ok_gname, ok_drop, ok_call, ok_chain, ok_nx, ok_bk, ok_ct, ok_st, ok_yes, ok_tup, ok_ok, ok_stuck, ex_toD, ex_toL, ex_bl, ex_some, ex_bl1, fl_nx, fl_rt, fl_bk, fl_ct, rt_or, nx_or, mVar, ok1, gIsi, mIsi2, gIsi2, isTy2, isTy, Option.bind, bare, e_add, e_sub, e_int, e_lenS, e_lenT, e_lenL, e_lt, e_le, e_gt, e_ge, e_leC, e_ltC, e_isN, e_notN, e_pow,
  List.map_cons, List.map_nil, List.length_cons, List.length_nil, List.replicate_succ, List.replicate_zero, List.cons_append, List.nil_append, List.append_nil, List.getElem?_cons_zero, List.getElem?_cons_succ, List.set_cons_zero, List.set_cons_succ, Nat.reduceAdd, Nat.reduceSub, true_and, and_true, Bool.not_true, Bool.not_false, true_implies, forall_const, not_true_eq_false, false_implies, Bool.false_eq_true, not_false_eq_true, implies_true, eq_self, ne_eq, reduceCtorEq, Fl.rt.injEq, S.d.injEq, D.int.injEq, false_and, exists_false, or_false, false_or, exists_eq_left'])
local macro_rules | `(tactic| walk_at "wt") => `(tactic| simp (config := { contextual := false }) only [ok_row0, ok_row1, ok_row2, ok_row3, ok_put1, ok_put2, ok_put3, e_mod, e_div, e_mul, e_ixS, decide_true, decide_false, *, okF_runF, okF_runL, ok_seq, ok_ret, ok_retN, ok_andV, ok_orV, ok_notV, ok_cb, ok_cons, ok_nil, ok_test, ok_dv, ok_op, ok_un, ok_c, ok_if, ok_ifS, ok_and, ok_or, ok_not, ok_asg, ok_gname, ok_drop, ok_call, ok_chain, ok_nx, ok_bk, ok_ct, ok_st, ok_yes, ok_tup, ok_ok, ok_stuck, ex_toD, ex_toL, ex_bl, ex_some, ex_bl1, fl_nx, fl_rt, fl_bk, fl_ct, rt_or, nx_or, mVar, ok1, gIsi, mIsi2, gIsi2, isTy2, isTy, Option.bind, bare, e_add, e_sub, e_int, e_lenS, e_lenT, e_lenL, e_lt, e_le, e_gt, e_ge, e_leC, e_ltC, e_isN, e_notN, e_pow,
  List.map_cons, List.map_nil, List.length_cons, List.length_nil, List.replicate_succ, List.replicate_zero, List.cons_append, List.nil_append, List.append_nil, List.getElem?_cons_zero, List.getElem?_cons_succ, List.set_cons_zero, List.set_cons_succ, Nat.reduceAdd, Nat.reduceSub, true_and, and_true, Bool.not_true, Bool.not_false, true_implies, forall_const, not_true_eq_false, false_implies, Bool.false_eq_true, not_false_eq_true, implies_true, eq_self, ne_eq, reduceCtorEq, Fl.rt.injEq, S.d.injEq, D.int.injEq, false_and, exists_false, or_false, false_or, exists_eq_left'])
local macro_rules | `(tactic| walk_at "wy") => `(tactic| try walk_at "wp")
local macro_rules | `(tactic| walk_at "we") => `(tactic| first | done | rfl | exact ⟨rfl, rfl⟩ | exact ⟨rfl, rfl, rfl⟩)
namespace Lib
def step (ts : List (List (Option Int))) (f : Int) : Option Int → Option Int
  | none => none
  | some i => (((ts[f.toNat]?).getD [])[i.toNat]?).getD none
def In (ls : List Int) (x : Option Int) : Prop := ∀ i, x = some i → 0 ≤ i ∧ i < (ls.length : Int)
end Lib
end Fx
/-! words keep laws; more of rows -/
namespace Fx
open PySem
namespace Lib
end Lib
end Fx
/-! data that fit, slices, sums of tuples -/
namespace Fx
open PySem
/-! slices of tuples -/
local macro_rules | `(tactic| walk_at "wp") => `(tactic| simp only [okF_runF, okF_runL, ok_seq, ok_ret, ok_retN, ok_andV, ok_orV, ok_notV, ok_cb, ok_cons, ok_nil, ok_test, ok_dv, ok_op, ok_un, ok_c, ok_if, ok_ifS, ok_and, ok_or, ok_not, ok_asg, ok_gname, ok_drop, ok_call, ok_chain, ok_nx, ok_bk, ok_ct, ok_st, ok_yes, ok_tup, ok_ok, ok_stuck, ex_toD, ex_toL, ex_bl, ex_some, ex_bl1, fl_nx, fl_rt, fl_bk, fl_ct, rt_or, nx_or, mVar, ok1, gIsi, mIsi2, gIsi2, isTy2, isTy, Option.bind, bare, e_add, e_sub, e_int, e_lenS, e_lenT, e_lenL, e_lt, e_le, e_gt, e_ge, e_leC, e_ltC, e_isN, e_notN, e_pow,
  List.map_cons, List.map_nil, List.length_cons, List.length_nil, List.replicate_succ, List.replicate_zero, List.cons_append, List.nil_append, List.append_nil, List.getElem?_cons_zero, List.getElem?_cons_succ, List.set_cons_zero, List.set_cons_succ, Nat.reduceAdd, Nat.reduceSub, true_and, and_true, Bool.not_true, Bool.not_false, true_implies, forall_const, not_true_eq_false, false_implies, Bool.false_eq_true, not_false_eq_true, implies_true, eq_self, ne_eq, reduceCtorEq, Fl.rt.injEq, S.d.injEq, D.int.injEq, false_and, exists_false, or_false, false_or, exists_eq_left'])
local macro_rules | `(tactic| walk_at "wt") => `(tactic| simp (config := { contextual := false }) only [ok_row0, ok_row1, ok_row2, ok_row3, ok_put1, ok_put2, ok_put3, e_mod, e_div, e_mul, e_ixS, decide_true, decide_false, *, okF_runF, okF_runL, ok_seq, ok_ret, ok_retN, ok_andV, ok_orV, ok_notV, ok_cb, ok_cons, ok_nil, ok_test, ok_dv, ok_op, ok_un, ok_c, ok_if, ok_ifS, ok_and, ok_or, ok_not, ok_asg, ok_gname, ok_drop, ok_call, ok_chain, ok_nx, ok_bk, ok_ct, ok_st, ok_yes, ok_tup, ok_ok, ok_stuck, ex_toD, ex_toL, ex_bl, ex_some, ex_bl1, fl_nx, fl_rt, fl_bk, fl_ct, rt_or, nx_or, mVar, ok1, gIsi, mIsi2, gIsi2, isTy2, isTy, Option.bind, bare, e_add, e_sub, e_int, e_lenS, e_lenT, e_lenL, e_lt, e_le, e_gt, e_ge, e_leC, e_ltC, e_isN, e_notN, e_pow,
  List.map_cons, List.map_nil, List.length_cons, List.length_nil, List.replicate_succ, List.replicate_zero, List.cons_append, List.nil_append, List.append_nil, List.getElem?_cons_zero, List.getElem?_cons_succ, List.set_cons_zero, List.set_cons_succ, Nat.reduceAdd, Nat.reduceSub, true_and, and_true, Bool.not_true, Bool.not_false, true_implies, forall_const, not_true_eq_false, false_implies, Bool.false_eq_true, not_false_eq_true, implies_true, eq_self, ne_eq, reduceCtorEq, Fl.rt.injEq, S.d.injEq, D.int.injEq, false_and, exists_false, or_false, false_or, exists_eq_left'])
local macro_rules | `(tactic| walk_at "wy") => `(tactic| try walk_at "wp")
local macro_rules | `(tactic| walk_at "we") => `(tactic| first | done | rfl | exact ⟨rfl, rfl⟩ | exact ⟨rfl, rfl, rfl⟩)
namespace Lib
theorem OkAlg.app {most m1 m2 : Int} {ls : List Int} {A B : List (List (Option Int))} (a : OkAlg most m1 ls A) (b : OkAlg most m2 ls B) : OkAlg most (m1 + m2) ls (A ++ B) := by
  refine ⟨a.l1, a.l2, a.lv, by rw [List.length_append]; have := a.t1; omega, by rw [List.length_append]; have := a.t2; have := b.t2; omega, fun t ht => ?_⟩
  rcases List.mem_append.mp ht with h | h
  · exact a.tb t h
  · exact b.tb t h
/-! breaks of both -/
end Lib
end Fx
/-! lexicographic products: their levels and functions, when they are isotone -/
namespace Fx
open PySem
namespace Lib
/-- the level of an element, what a function makes of it -/
def Lv (ls : List Int) (i : Nat) : Int := (ls[i]?).getD 0
/-! ### the product -/
def code (u : List Int) (ls : List Int) (i : Nat) : Int := (Rw.plc u (Lv ls i) : Nat)
/-! ### isotone exactly by the parts -/
end Lib
end Fx
/-! comprehensions of two fors -/
/-! expressions that change nothing: their value -/
namespace Fx
open PySem
/-- what stands there has the value x and changes nothing -/
def Ev (f : M S) (ρ : En) (x : D) : Prop := OK (dv f ρ) fun y ρ1 => y = x ∧ ρ1 = ρ
def EvA (f : M (List D)) (ρ : En) (xs : List D) : Prop := OK (f ρ) fun ys ρ1 => ys = xs ∧ ρ1 = ρ
def EvB (f : M Bool) (ρ : En) (b : Bool) : Prop := OK (f ρ) fun c ρ1 => c = b ∧ ρ1 = ρ
section
variable {ρ : En} {x y z : D} {fa fb fe : M S} {fA : M (List D)} {xs : List D} {p q b : Bool} {ft fu : M Bool}
theorem Ev.dv (h : Ev fe ρ x) {P : D → En → Prop} (k : P x ρ) : OK (Fx.dv fe ρ) P := h.imp fun y ρ1 ⟨e1, e2⟩ => by rw [e1, e2]; exact k
theorem EvA.ok (h : EvA fA ρ xs) {P : List D → En → Prop} (k : P xs ρ) : OK (fA ρ) P := h.imp fun y ρ1 ⟨e1, e2⟩ => by rw [e1, e2]; exact k
theorem EvB.ok (h : EvB ft ρ b) {P : Bool → En → Prop} (k : P b ρ) : OK (ft ρ) P := h.imp fun y ρ1 ⟨e1, e2⟩ => by rw [e1, e2]; exact k
theorem ev_of (h : OK (fe ρ) fun s ρ1 => s = .d x ∧ ρ1 = ρ) : Ev fe ρ x := by
  unfold Ev
  rw [ok_dv]
  exact h.imp fun s ρ1 ⟨e1, e2⟩ => ⟨x, by rw [e1]; rfl, rfl, e2⟩
theorem ev_var (i : Nat) (e : ρ[i]? = some (some (.d x))) : Ev (mVar i) ρ x := ev_of (by rw [ok_varD e]; exact ⟨rfl, rfl⟩)
theorem ev_c : Ev (mC x) ρ x := ev_of (by rw [ok_c]; exact ⟨rfl, rfl⟩)
theorem ev_op {g : D → D → Option S} (ha : Ev fa ρ x) (hb : Ev fb ρ y) (e : g x y = some (.d z)) : Ev (mOp g fa fb) ρ z := ev_of (by
  rw [ok_op]
  exact ha.dv (hb.dv ⟨_, e, rfl, rfl⟩))
theorem ea_nil : EvA aNil ρ [] := by
  unfold EvA
  rw [ok_nil]
  exact ⟨rfl, rfl⟩
theorem ea_cons (h : Ev fe ρ x) (k : EvA fA ρ xs) : EvA (aCons fe fA) ρ (x :: xs) := by
  unfold EvA
  rw [ok_cons]
  exact h.dv (k.ok ⟨rfl, rfl⟩)
theorem ev_ixT {ds : List D} {i : Nat} (ha : Ev fa ρ (.tup ds)) (hb : Ev fb ρ (.int (i : Nat))) (e : ds[i]? = some x) : Ev (mOp gIx fa fb) ρ x := ev_op ha hb (by
  have hi := (List.getElem?_eq_some_iff.mp e).1
  obtain ⟨s, e1, k⟩ := (e_ixT (ds := ds) (i := (i : Int)) (by omega) (by omega) (K := fun s => s = .d x)).mpr (by rw [Int.toNat_natCast, e]; rfl)
  rw [e1, k])
theorem atI_nat {α : Type} {ds : List α} {i : Nat} {x : α} (e : ds[i]? = some x) : L2.atI ds (i : Int) = some x := by
  have hi := (List.getElem?_eq_some_iff.mp e).1
  obtain ⟨y, e1, e2⟩ := at_nat (xs := ds) (i := (i : Int)) (by omega) (by omega)
  rw [Int.toNat_natCast, e] at e2
  cases e2
  exact e1
theorem Ev.raw (h : Ev fe ρ x) : OK (fe ρ) fun s ρ1 => toD s = some x ∧ ρ1 = ρ := by
  unfold Ev at h
  rw [ok_dv] at h
  exact h.imp fun s ρ1 ⟨x', e1, e2, e3⟩ => ⟨by rw [e1, e2], e3⟩
end
end Fx
/-! graphs on data: drawn -/
namespace Fx
open PySem
namespace Lib
/-- an arc -/
def arcD (p : Nat × Nat) : D := .tup [.int p.1, .int p.2]
def ltA (p q : Nat × Nat) : Prop := p.1 < q.1 ∨ (p.1 = q.1 ∧ p.2 < q.2)
/-- arcs of n nodes, ascending -/
structure OkArcs (n : Nat) (as : List (Nat × Nat)) : Prop where
  rng : ∀ p ∈ as, p.1 < n ∧ p.2 < n ∧ p.1 ≠ p.2
  asc : as.Pairwise ltA
theorem OkArcs.len {n : Nat} : ∀ {as : List (Nat × Nat)}, OkArcs n as → as.length ≤ n * n := by
  intro as o
  have key : ∀ (l : List (Nat × Nat)) (k : Nat), (∀ p ∈ l, k ≤ p.1 * n + p.2 ∧ p.1 * n + p.2 < n * n) → (l.map fun p => p.1 * n + p.2).Pairwise (· < ·) → l.length + k ≤ n * n ∨ l = [] := by
    intro l
    induction l with
    | nil => exact fun _ _ _ => .inr rfl
    | cons p l ih =>
      intro k h hp
      obtain ⟨h1, h2⟩ := h p List.mem_cons_self
      rw [List.map_cons, List.pairwise_cons] at hp
      have := ih (p.1 * n + p.2 + 1) (fun q hq => ⟨hp.1 _ (List.mem_map.mpr ⟨q, hq, rfl⟩), (h q (List.mem_cons_of_mem _ hq)).2⟩) hp.2
      left
      rcases this with this | rfl
      · rw [List.length_cons]
        omega
      · simp only [List.length_cons, List.length_nil]
        omega
  have hb : ∀ p ∈ as, 0 ≤ p.1 * n + p.2 ∧ p.1 * n + p.2 < n * n := fun p hp => by
    obtain ⟨a, b, _⟩ := o.rng p hp
    have : (p.1 + 1) * n ≤ n * n := Nat.mul_le_mul (by omega) (Nat.le_refl _)
    rw [Nat.add_mul, Nat.one_mul] at this
    exact ⟨Nat.zero_le _, by omega⟩
  have hp : (as.map fun p => p.1 * n + p.2).Pairwise (· < ·) := by
    rw [List.pairwise_map]
    refine List.Pairwise.imp_of_mem (fun {p q} hp hq h => ?_) o.asc
    obtain ⟨_, b, _⟩ := o.rng p hp
    rcases h with h | ⟨h1, h2⟩
    · have : (p.1 + 1) * n ≤ q.1 * n := Nat.mul_le_mul (by omega) (Nat.le_refl _)
      rw [Nat.add_mul, Nat.one_mul] at this
      omega
    · rw [h1]
      omega
  rcases key as 0 hb hp with h | rfl
  · omega
  · exact Nat.zero_le _
end Lib
end Fx
/-! graphs on data: made, checked -/
namespace Fx
open PySem
local macro_rules | `(tactic| walk_at "wp") => `(tactic| simp only [okF_runF, okF_runL, ok_seq, ok_ret, ok_retN, ok_andV, ok_orV, ok_notV, ok_cb, ok_cons, ok_nil, ok_test, ok_dv, ok_op, ok_un, ok_c, ok_if, ok_ifS, ok_and, ok_or, ok_not, ok_asg, ok_gname, ok_drop, ok_call, ok_chain, ok_nx, ok_bk, ok_ct, ok_st, ok_yes, ok_tup, ok_ok, ok_stuck, ex_toD, ex_toL, ex_bl, ex_some, ex_bl1, fl_nx, fl_rt, fl_bk, fl_ct, rt_or, nx_or, mVar, ok1, gIsi, mIsi2, gIsi2, isTy2, isTy, Option.bind, bare, e_add, e_sub, e_int, e_lenS, e_lenT, e_lenL, e_lt, e_le, e_gt, e_ge, e_leC, e_ltC, e_isN, e_notN, e_pow,
  List.map_cons, List.map_nil, List.length_cons, List.length_nil, List.replicate_succ, List.replicate_zero, List.cons_append, List.nil_append, List.append_nil, List.getElem?_cons_zero, List.getElem?_cons_succ, List.set_cons_zero, List.set_cons_succ, Nat.reduceAdd, Nat.reduceSub, true_and, and_true, Bool.not_true, Bool.not_false, true_implies, forall_const, not_true_eq_false, false_implies, Bool.false_eq_true, not_false_eq_true, implies_true, eq_self, ne_eq, reduceCtorEq, Fl.rt.injEq, S.d.injEq, D.int.injEq, false_and, exists_false, or_false, false_or, exists_eq_left'])
local macro_rules | `(tactic| walk_at "wt") => `(tactic| simp (config := { contextual := false }) only [ok_row0, ok_row1, ok_row2, ok_row3, ok_put1, ok_put2, ok_put3, e_mod, e_div, e_mul, e_ixS, decide_true, decide_false, *, okF_runF, okF_runL, ok_seq, ok_ret, ok_retN, ok_andV, ok_orV, ok_notV, ok_cb, ok_cons, ok_nil, ok_test, ok_dv, ok_op, ok_un, ok_c, ok_if, ok_ifS, ok_and, ok_or, ok_not, ok_asg, ok_gname, ok_drop, ok_call, ok_chain, ok_nx, ok_bk, ok_ct, ok_st, ok_yes, ok_tup, ok_ok, ok_stuck, ex_toD, ex_toL, ex_bl, ex_some, ex_bl1, fl_nx, fl_rt, fl_bk, fl_ct, rt_or, nx_or, mVar, ok1, gIsi, mIsi2, gIsi2, isTy2, isTy, Option.bind, bare, e_add, e_sub, e_int, e_lenS, e_lenT, e_lenL, e_lt, e_le, e_gt, e_ge, e_leC, e_ltC, e_isN, e_notN, e_pow,
  List.map_cons, List.map_nil, List.length_cons, List.length_nil, List.replicate_succ, List.replicate_zero, List.cons_append, List.nil_append, List.append_nil, List.getElem?_cons_zero, List.getElem?_cons_succ, List.set_cons_zero, List.set_cons_succ, Nat.reduceAdd, Nat.reduceSub, true_and, and_true, Bool.not_true, Bool.not_false, true_implies, forall_const, not_true_eq_false, false_implies, Bool.false_eq_true, not_false_eq_true, implies_true, eq_self, ne_eq, reduceCtorEq, Fl.rt.injEq, S.d.injEq, D.int.injEq, false_and, exists_false, or_false, false_or, exists_eq_left'])
local macro_rules | `(tactic| walk_at "wy") => `(tactic| try walk_at "wp")
local macro_rules | `(tactic| walk_at "we") => `(tactic| first | done | rfl | exact ⟨rfl, rfl⟩ | exact ⟨rfl, rfl, rfl⟩)
namespace Lib
end Lib
end Fx
/-! graphs on data: drawn whole -/
namespace Fx
open PySem
local macro_rules | `(tactic| walk_at "wp") => `(tactic| simp only [okF_runF, okF_runL, ok_seq, ok_ret, ok_retN, ok_andV, ok_orV, ok_notV, ok_cb, ok_cons, ok_nil, ok_test, ok_dv, ok_op, ok_un, ok_c, ok_if, ok_ifS, ok_and, ok_or, ok_not, ok_asg, ok_gname, ok_drop, ok_call, ok_chain, ok_nx, ok_bk, ok_ct, ok_st, ok_yes, ok_tup, ok_ok, ok_stuck, ex_toD, ex_toL, ex_bl, ex_some, ex_bl1, fl_nx, fl_rt, fl_bk, fl_ct, rt_or, nx_or, mVar, ok1, gIsi, mIsi2, gIsi2, isTy2, isTy, Option.bind, bare, e_add, e_sub, e_int, e_lenS, e_lenT, e_lenL, e_lt, e_le, e_gt, e_ge, e_leC, e_ltC, e_isN, e_notN, e_pow,
  List.map_cons, List.map_nil, List.length_cons, List.length_nil, List.replicate_succ, List.replicate_zero, List.cons_append, List.nil_append, List.append_nil, List.getElem?_cons_zero, List.getElem?_cons_succ, List.set_cons_zero, List.set_cons_succ, Nat.reduceAdd, Nat.reduceSub, true_and, and_true, Bool.not_true, Bool.not_false, true_implies, forall_const, not_true_eq_false, false_implies, Bool.false_eq_true, not_false_eq_true, implies_true, eq_self, ne_eq, reduceCtorEq, Fl.rt.injEq, S.d.injEq, D.int.injEq, false_and, exists_false, or_false, false_or, exists_eq_left'])
local macro_rules | `(tactic| walk_at "wt") => `(tactic| simp (config := { contextual := false }) only [ok_row0, ok_row1, ok_row2, ok_row3, ok_put1, ok_put2, ok_put3, e_mod, e_div, e_mul, e_ixS, decide_true, decide_false, *, okF_runF, okF_runL, ok_seq, ok_ret, ok_retN, ok_andV, ok_orV, ok_notV, ok_cb, ok_cons, ok_nil, ok_test, ok_dv, ok_op, ok_un, ok_c, ok_if, ok_ifS, ok_and, ok_or, ok_not, ok_asg, ok_gname, ok_drop, ok_call, ok_chain, ok_nx, ok_bk, ok_ct, ok_st, ok_yes, ok_tup, ok_ok, ok_stuck, ex_toD, ex_toL, ex_bl, ex_some, ex_bl1, fl_nx, fl_rt, fl_bk, fl_ct, rt_or, nx_or, mVar, ok1, gIsi, mIsi2, gIsi2, isTy2, isTy, Option.bind, bare, e_add, e_sub, e_int, e_lenS, e_lenT, e_lenL, e_lt, e_le, e_gt, e_ge, e_leC, e_ltC, e_isN, e_notN, e_pow,
  List.map_cons, List.map_nil, List.length_cons, List.length_nil, List.replicate_succ, List.replicate_zero, List.cons_append, List.nil_append, List.append_nil, List.getElem?_cons_zero, List.getElem?_cons_succ, List.set_cons_zero, List.set_cons_succ, Nat.reduceAdd, Nat.reduceSub, true_and, and_true, Bool.not_true, Bool.not_false, true_implies, forall_const, not_true_eq_false, false_implies, Bool.false_eq_true, not_false_eq_true, implies_true, eq_self, ne_eq, reduceCtorEq, Fl.rt.injEq, S.d.injEq, D.int.injEq, false_and, exists_false, or_false, false_or, exists_eq_left'])
local macro_rules | `(tactic| walk_at "wy") => `(tactic| try walk_at "wp")
local macro_rules | `(tactic| walk_at "we") => `(tactic| first | done | rfl | exact ⟨rfl, rfl⟩ | exact ⟨rfl, rfl, rfl⟩)
namespace Lib
end Lib
end Fx
/-! dict comprehensions on data -/
namespace Fx
open PySem
local macro_rules | `(tactic| walk_at "wp") => `(tactic| simp only [okF_runF, okF_runL, ok_seq, ok_ret, ok_retN, ok_andV, ok_orV, ok_notV, ok_cb, ok_cons, ok_nil, ok_test, ok_dv, ok_op, ok_un, ok_c, ok_if, ok_ifS, ok_and, ok_or, ok_not, ok_asg, ok_gname, ok_drop, ok_call, ok_chain, ok_nx, ok_bk, ok_ct, ok_st, ok_yes, ok_tup, ok_ok, ok_stuck, ex_toD, ex_toL, ex_bl, ex_some, ex_bl1, fl_nx, fl_rt, fl_bk, fl_ct, rt_or, nx_or, mVar, ok1, gIsi, mIsi2, gIsi2, isTy2, isTy, Option.bind, bare, e_add, e_sub, e_int, e_lenS, e_lenT, e_lenL, e_lt, e_le, e_gt, e_ge, e_leC, e_ltC, e_isN, e_notN, e_pow,
  List.map_cons, List.map_nil, List.length_cons, List.length_nil, List.replicate_succ, List.replicate_zero, List.cons_append, List.nil_append, List.append_nil, List.getElem?_cons_zero, List.getElem?_cons_succ, List.set_cons_zero, List.set_cons_succ, Nat.reduceAdd, Nat.reduceSub, true_and, and_true, Bool.not_true, Bool.not_false, true_implies, forall_const, not_true_eq_false, false_implies, Bool.false_eq_true, not_false_eq_true, implies_true, eq_self, ne_eq, reduceCtorEq, Fl.rt.injEq, S.d.injEq, D.int.injEq, false_and, exists_false, or_false, false_or, exists_eq_left'])
local macro_rules | `(tactic| walk_at "wt") => `(tactic| simp (config := { contextual := false }) only [ok_row0, ok_row1, ok_row2, ok_row3, ok_put1, ok_put2, ok_put3, e_mod, e_div, e_mul, e_ixS, decide_true, decide_false, *, okF_runF, okF_runL, ok_seq, ok_ret, ok_retN, ok_andV, ok_orV, ok_notV, ok_cb, ok_cons, ok_nil, ok_test, ok_dv, ok_op, ok_un, ok_c, ok_if, ok_ifS, ok_and, ok_or, ok_not, ok_asg, ok_gname, ok_drop, ok_call, ok_chain, ok_nx, ok_bk, ok_ct, ok_st, ok_yes, ok_tup, ok_ok, ok_stuck, ex_toD, ex_toL, ex_bl, ex_some, ex_bl1, fl_nx, fl_rt, fl_bk, fl_ct, rt_or, nx_or, mVar, ok1, gIsi, mIsi2, gIsi2, isTy2, isTy, Option.bind, bare, e_add, e_sub, e_int, e_lenS, e_lenT, e_lenL, e_lt, e_le, e_gt, e_ge, e_leC, e_ltC, e_isN, e_notN, e_pow,
  List.map_cons, List.map_nil, List.length_cons, List.length_nil, List.replicate_succ, List.replicate_zero, List.cons_append, List.nil_append, List.append_nil, List.getElem?_cons_zero, List.getElem?_cons_succ, List.set_cons_zero, List.set_cons_succ, Nat.reduceAdd, Nat.reduceSub, true_and, and_true, Bool.not_true, Bool.not_false, true_implies, forall_const, not_true_eq_false, false_implies, Bool.false_eq_true, not_false_eq_true, implies_true, eq_self, ne_eq, reduceCtorEq, Fl.rt.injEq, S.d.injEq, D.int.injEq, false_and, exists_false, or_false, false_or, exists_eq_left'])
local macro_rules | `(tactic| walk_at "wy") => `(tactic| try walk_at "wp")
local macro_rules | `(tactic| walk_at "we") => `(tactic| first | done | rfl | exact ⟨rfl, rfl⟩ | exact ⟨rfl, rfl, rfl⟩)
end Fx
/-! a while, a stack -/
/-! lists of numbers on data; statements one after another -/
namespace Fx.Nl
open PySem Lib
abbrev nl (L : List Nat) : List D := L.map fun i : Nat => D.int i
theorem nl_len (a : List Nat) : (nl a).length = a.length := List.length_map _
theorem nl_get {a : List Nat} {i v : Nat} (e : a[i]? = some v) : (nl a)[i]? = some (.int (v : Nat)) := by
  show (a.map fun i : Nat => D.int i)[i]? = _
  rw [List.getElem?_map, e]
  rfl
section
variable {ρ : En} {i j k : Nat} {b : Option Nat} {t : Bool} {x y : D} {xs : List D} {fa fb fe ff : M S} {fA : M (List D)} {ft : M Bool} {F G : M Fl} {PF : Fl → En → Prop}
theorem sq (h : OK (F ρ) fun f ρ1 => f = .nx ∧ OK (G ρ1) PF) : OK (mSeq F G ρ) PF := ok_seqI _ h fun _ h => h
theorem asgL (h : EvA fA ρ xs) (hs : small xs.length = true) (q : PF .nx (ρ.set i (some (.o none (.lst xs))))) : OK (mAsgO i (mLst fA) ρ) PF := by
  rw [ok_asgO, ok_lst]
  exact h.ok ⟨hs, .inl ⟨_, rfl, q⟩⟩
end
/-! numbers in lists -/
end Fx.Nl
/-! loops, draws -/
namespace Fx.Nl
open PySem Lib
section
variable {ρ : En} {i j k r : Nat} {o b : Option Nat} {t : Bool} {x y : D} {xs ds : List D} {fa fb fe ff fs fm : M S} {fA : M (List D)} {ft : M Bool} {F G : M Fl} {PF : Fl → En → Prop} {I : Nat → En → Prop} {gm : D → M Unit}
theorem fin {I A : Prop} {B : S → Prop} (h : I) : (Fl.nx = .nx ∨ Fl.nx = .ct → I) ∧ (Fl.nx = .bk → A) ∧ ∀ s, Fl.nx = .rt s → B s := ⟨fun _ => h, fun z => (nomatch z), fun _ z => (nomatch z)⟩
/-- a draw within an expression -/
theorem tk {a c d : Int} {ns : List Int} {m : Nat} {P : D → En → Prop} (e : ρ[r]? = some (rowS o ns a c d)) (hr : RowOk a c d) (hm : Ev fm ρ (.int (m : Nat))) (h1 : 0 < m) (h2 : m ≤ 1000000)
    (q : ∀ (v : Nat) a c d, v < m → RowOk a c d → P (.int (v : Nat)) (ρ.set r (rowS o ns a c d))) : OK (dv (mCallO Lib.f_law_taken r 0 (aOwn r (aCons fm aNil))) ρ) P := by
  rw [ok_dv]
  refine ok_taken e hr (hm.dv ⟨rfl, rfl⟩) (by omega) (by omega) fun v a c d v0 v1 h => ?_
  refine ⟨_, rfl, ?_⟩
  have := q v.toNat a c d (by omega) h
  rw [Int.toNat_of_nonneg v0] at this
  exact this
/-- t[i:i + 2] -/
theorem sl2 {fl fh : M S} {L : List Nat} {i v w : Nat} (ha : Ev fa ρ (.tup (nl L))) (hl : Ev fl ρ (.int (i : Nat))) (hh : Ev fh ρ (.int ((i + 2 : Nat) : Int))) (e1 : L[i]? = some v) (e2 : L[i + 1]? = some w) : Ev (mSl fa (oSome fl) (oSome fh)) ρ (arcD (v, w)) := ev_of (by
  have hi : i + 1 < L.length := (List.getElem?_eq_some_iff.mp e2).1
  refine ok_sl (ha.dv ?_)
  refine ok_osome (hl.dv ⟨_, rfl, ?_⟩)
  refine ok_osome (hh.dv ⟨_, rfl, .d (arcD (v, w)), ?_, rfl, rfl⟩)
  show some (S.d (.tup (cutD (nl L) (some (i : Nat)) (some ((i + 2 : Nat) : Int))))) = _
  have e : cutD (nl L) (some (i : Nat)) (some ((i + 2 : Nat) : Int)) = [.int (v : Nat), .int (w : Nat)] := by
    unfold cutD
    have k1 : HT.sIx (nl L).length 0 (some (i : Int)) = i := by
      show (if (i : Int) < 0 then ((nl L).length + (i : Int)).toNat else min (i : Int).toNat (nl L).length) = _
      rw [if_neg (by omega), nl_len, Int.toNat_natCast, Nat.min_eq_left (by omega)]
    have k2 : HT.sIx (nl L).length (nl L).length (some ((i + 2 : Nat) : Int)) = i + 2 := by
      show (if ((i + 2 : Nat) : Int) < 0 then ((nl L).length + ((i + 2 : Nat) : Int)).toNat else min ((i + 2 : Nat) : Int).toNat (nl L).length) = _
      rw [if_neg (by omega), nl_len, Int.toNat_natCast, Nat.min_eq_left (by omega)]
    rw [k1, k2, show i + 2 - i = 2 by omega, ← List.map_drop, ← List.map_take]
    have e3 : (L.drop i).take 2 = [v, w] := by
      refine List.ext_getElem? fun j => ?_
      rw [List.getElem?_take]
      split
      · rw [List.getElem?_drop]
        rename_i hj
        match j, hj with
        | 0, _ => simpa using e1
        | 1, _ => simpa using e2
      · rename_i hj
        rw [List.getElem?_eq_none (by simp; omega)]
    rw [e3]
    rfl
  rw [e]
  rfl)
theorem ixN {L : List Nat} {i v : Nat} (ha : Ev fa ρ (.tup (nl L))) (hb : Ev fb ρ (.int (i : Nat))) (e : L[i]? = some v) : Ev (mOp gIx fa fb) ρ (.int (v : Nat)) := ev_ixT ha hb (nl_get e)
end
end Fx.Nl
/-! k66: the law, closed up to one number (made by mkp66.py) -/
namespace Fx.K66
open PySem Lib Nl
theorem e_tk : K66.f_law_taken = Lib.f_law_taken := rfl
def b_tail : Fx.M Fl := (mSeq (mAsg (mTupRg (mVar 2)) (gmName 3))
    (mSeq (mAsg (mOp gAdd (mCB gTuple (aCons (mLc (iRange1 (aCons (mOp gMinus (mVar 2) (mC (.int 1))) aNil)) (gmName 5) mYes (mOp gAdd (mVar 5) (mC (.int 2))) [5]) aNil)) (mTup (aCons (mC (.int 0)) aNil))) (gmName 4))
    (mSeq (mAsg (mCall f_least_rounds (aCons (mVar 3) (aCons (mVar 4) aNil))) (gmName 6))
    (mSeq (mIfS (mOr (mAnd (mTest (mOp gIsN (mCall f_ring_of_round (aCons (mVar 3) (aCons (mVar 4) (aCons (mTup aNil) (aCons (mTup (aCons (mC (.int 1)) (aCons (mC (.int 2)) aNil))) aNil))))) (mC .non))) (mTest (mOp gGt (mVar 2) (mC (.int 2))))) (mTest (mOp gNotN (mCall f_ring_of_round (aCons (mVar 3) (aCons (mVar 3) (aCons (mTup aNil) (aCons (mTupRg2 (mC (.int 1)) (mOp gAdd (mVar 2) (mC (.int 1)))) aNil))))) (mC .non)))) (mRet (mC (.bl false))) mNx)
    (mSeq (mIfS (mOr (mTest (mOp gNe (mCB gLen (aCons (mCall f_depth_rounds (aCons (mVar 3) (aCons (mVar 4) aNil))) aNil)) (mVar 2))) (mOr (mAnd (mTest (mOp gGt (mCB gLen (aCons (mVar 6) aNil)) (mC (.int 3)))) (mTest (mOp gLt (mVar 2) (mC (.int 4))))) (mTest (mOp gNe (mCall f_least_rounds (aCons (mVar 3) (aCons (mVar 3) aNil))) (mTup aNil))))) (mRet (mC (.bl false))) mNx)
    (mSeq (mPar2 7 false 8 false (psCons (mTup (aCons (mC (.int 2)) (aCons (mC (.int 0)) (aCons (mC (.int 0)) aNil)))) (psCons (mTup (aCons (mC (.int 3)) (aCons (mC (.int 0)) (aCons (mC (.int 2)) aNil)))) psNil)))
    (mSeq (mIfS (mOr (mTest (mOp gIsN (mCall f_guarded_rounds (aCons (mVar 7) (aCons (mVar 8) (aCons (mC (.int 1)) (aCons (mC (.int 2)) aNil))))) (mC .non))) (mTest (mOp gNotN (mCall f_guarded_rounds (aCons (mVar 7) (aCons (mTup (aCons (mC (.int 3)) (aCons (mC (.int 0)) (aCons (mC (.int 0)) aNil)))) (aCons (mC (.int 1)) (aCons (mC (.int 2)) aNil))))) (mC .non)))) (mRet (mC (.bl false))) mNx)
    (mRet (mAndV (mOp gNe (mCall f_guarded_rounds (aCons (mTup (aCons (mC (.int 2)) (aCons (mC (.int 3)) (aCons (mC (.int 0)) aNil)))) (aCons (mTup (aCons (mC (.int 3)) (aCons (mC (.int 0)) (aCons (mC (.int 2)) aNil)))) (aCons (mC (.int 1)) (aCons (mC (.int 2)) aNil))))) (mTup aNil)) (mOp gIn (mCall f_ring_of_round (aCons (mTup (aCons (mC (.int 2)) (aCons (mC (.int 0)) aNil))) (aCons (mTup (aCons (mC (.int 0)) (aCons (mC (.int 1)) aNil))) (aCons (mTup aNil) (aCons (mTup (aCons (mC (.int 2)) aNil)) aNil))))) (mLst (aCons (mTup (aCons (mC (.int 1)) (aCons (mC (.int 2)) (aCons (mC (.int 1)) aNil)))) (aCons (mTup (aCons (mC (.int 2)) (aCons (mC (.int 1)) (aCons (mC (.int 2)) aNil)))) aNil)))))))))))))
theorem b_law_eq : b_law = (mSeq (mAsgO 1 (mLst (aCons (mVar 0) (aCons (mC (.int 0)) (aCons (mC (.int 3566)) (aCons (mC (.int 0)) aNil))))))
    (mSeq (mAsg (mOp gAdd (mC (.int 2)) (mCallO f_law_taken 1 0 (aOwn 1 (aCons (mC (.int 5)) aNil)))) (gmName 2))
    b_tail)) := rfl
def isT (o : Out Fl) : Bool := match o with
  | .ok (.rt (.d (.bl true))) _ => true
  | _ => false
theorem tail2 (ns : List Int) (a b c : Int) : isT (b_tail [some (.d (.scr ns)), rowS none ns a b c, some (.d (.int 2)), none, none, none, none, none, none]) = true := by kernel_rfl
theorem tail3 (ns : List Int) (a b c : Int) : isT (b_tail [some (.d (.scr ns)), rowS none ns a b c, some (.d (.int 3)), none, none, none, none, none, none]) = true := by kernel_rfl
theorem tail4 (ns : List Int) (a b c : Int) : isT (b_tail [some (.d (.scr ns)), rowS none ns a b c, some (.d (.int 4)), none, none, none, none, none, none]) = true := by kernel_rfl
theorem tail5 (ns : List Int) (a b c : Int) : isT (b_tail [some (.d (.scr ns)), rowS none ns a b c, some (.d (.int 5)), none, none, none, none, none, none]) = true := by kernel_rfl
theorem tail6 (ns : List Int) (a b c : Int) : isT (b_tail [some (.d (.scr ns)), rowS none ns a b c, some (.d (.int 6)), none, none, none, none, none, none]) = true := by kernel_rfl
theorem tails (ns : List Int) (a b c : Int) {v : Nat} (hv : v < 5) : isT (b_tail [some (.d (.scr ns)), rowS none ns a b c, some (.d (.int ((2 : Int) + (v : Nat)))), none, none, none, none, none, none]) = true := by
  match v, hv with
  | 0, _ => exact tail2 ns a b c
  | 1, _ => exact tail3 ns a b c
  | 2, _ => exact tail4 ns a b c
  | 3, _ => exact tail5 ns a b c
  | 4, _ => exact tail6 ns a b c
  | v + 5, h => exact absurd h (by omega)
theorem law_pure (ns : List Int) (hns : ns.length ≤ 63) : ∃ ρ, f_law [.d (.scr ns)] = .ok (.d (.bl true)) ρ := by
  have key : OK (f_law [.d (.scr ns)]) fun s _ => s = .d (.bl true) := by
    unfold f_law
    refine ok_runF rfl ?_
    show OK (b_law [some (.d (.scr ns)), none, none, none, none, none, none, none, none]) _
    rw [b_law_eq, e_tk]
    refine sq (asgL (ea_cons (ev_var 0 rfl) (ea_cons ev_c (ea_cons ev_c (ea_cons ev_c ea_nil)))) rfl ⟨rfl, ?_⟩)
    simp only [List.set_cons_succ, List.set_cons_zero]
    have h0 : RowOk 0 3566 0 := by unfold RowOk; decide
    show OK (mSeq _ _ [some (.d (.scr ns)), rowS none ns 0 3566 0, none, none, none, none, none, none, none]) _
    refine sq ?_
    rw [ok_asg, ok_dv, ok_op]
    refine ev_c.dv ?_
    refine tk (r := 1) (m := 5) rfl h0 ev_c (by omega) (by omega) fun v a b c hv h => ?_
    refine ⟨.d (.int ((2 : Int) + (v : Nat))), rfl, .int ((2 : Int) + (v : Nat)), rfl, ?_⟩
    rw [ok_gname]
    refine ⟨rfl, ?_⟩
    simp only [List.set_cons_succ, List.set_cons_zero]
    have ht := tails ns a b c hv
    cases hb : b_tail [some (.d (.scr ns)), rowS none ns a b c, some (.d (.int ((2 : Int) + (v : Nat)))), none, none, none, none, none, none] with
    | stuck => rw [hb] at ht; cases ht
    | err e ρ => rw [hb] at ht; cases ht
    | ok fl ρ =>
      rw [hb] at ht
      rw [ok_ok]
      match fl, ht with
      | .rt (.d (.bl true)), _ => exact .inl ⟨_, rfl, rfl⟩
  rw [ok_eq] at key
  obtain ⟨s, ρ, e, rfl⟩ := R.OKr.at key
  exact ⟨ρ, e⟩
end Fx.K66
/-! the end of routeweb_k66_updates_known -/
namespace Fx.K66
open PySem PySem.Spec PyProof.Rows L2
open C8 (Cal Mak pe_c pe_mk)
open LamX (Tabs TabS TabB ExtN CodeO codeO_ne)
/-- what is known of the text -/
def clsF : String → Addr := fun n => 0
def cfg (w : World) (K : PySem.W.Frag) (T : List (Addr × Str)) : Cfg := ⟨K, (clsF ), fun n => [], T, fun _ _ _ _ => False, fun k => match k with
  | _ => lamQ "" noE, w, none, fun _ => none⟩
section
theorem all_mk {l : PySem.W.OpenLaw} {w : World} {K : PySem.W.Frag} {h : Heap} {mg : Str → Option Value} {fa : Addr} (X : K.In h) (G : h.Ns mainGlobals mg) (hfa : mg "law" = some (.ref fa))
    {tk0 : Tok} {f0 : Addr} {od0 an0 : Option Addr} {sl0 : Array (Option Value)} {oc0 kV0 dc0 pm0 cd0 ct0 : Value} {f1 : Addr} {od1 an1 : Option Addr} {sl1 : Array (Option Value)} {oc1 kV1 dc1 pm1 cd1 ct1 : Value} {f2 : Addr} {od2 an2 : Option Addr} {sl2 : Array (Option Value)} {oc2 kV2 dc2 pm2 cd2 ct2 : Value} {f3 : Addr} {od3 an3 : Option Addr} {sl3 : Array (Option Value)} {oc3 kV3 dc3 pm3 cd3 ct3 : Value} {f4 : Addr} {od4 an4 : Option Addr} {sl4 : Array (Option Value)} {oc4 kV4 dc4 pm4 cd4 ct4 : Value} {f5 : Addr} {od5 an5 : Option Addr} {sl5 : Array (Option Value)} {oc5 kV5 dc5 pm5 cd5 ct5 : Value} {f6 : Addr} {od6 an6 : Option Addr} {sl6 : Array (Option Value)} {oc6 kV6 dc6 pm6 cd6 ct6 : Value} {f7 : Addr} {od7 an7 : Option Addr} {sl7 : Array (Option Value)} {oc7 kV7 dc7 pm7 cd7 ct7 : Value} {f8 : Addr} {od8 an8 : Option Addr} {sl8 : Array (Option Value)} {oc8 kV8 dc8 pm8 cd8 ct8 : Value} {f9 : Addr} {od9 an9 : Option Addr} {sl9 : Array (Option Value)} {oc9 kV9 dc9 pm9 cd9 ct9 : Value} {f10 : Addr} {od10 an10 : Option Addr} {sl10 : Array (Option Value)} {oc10 kV10 dc10 pm10 cd10 ct10 : Value} {f11 : Addr} {od11 an11 : Option Addr} {sl11 : Array (Option Value)} {oc11 kV11 dc11 pm11 cd11 ct11 : Value} {f12 : Addr} {od12 an12 : Option Addr} {sl12 : Array (Option Value)} {oc12 kV12 dc12 pm12 cd12 ct12 : Value} {f13 : Addr} {od13 an13 : Option Addr} {sl13 : Array (Option Value)} {oc13 kV13 dc13 pm13 cd13 ct13 : Value} {f14 : Addr} {od14 an14 : Option Addr} {sl14 : Array (Option Value)} {oc14 kV14 dc14 pm14 cd14 ct14 : Value} {f15 : Addr} {od15 an15 : Option Addr} {sl15 : Array (Option Value)} {oc15 kV15 dc15 pm15 cd15 ct15 : Value} {f16 cc16 tb16 : Addr} {od16 an16 cod16 : Option Addr} {sl16 csl16 : Array (Option Value)} {oc16 kV16 dc16 pm16 ct16 : Value} {cvs16 : Array Value} {f17 : Addr} {od17 an17 : Option Addr} {sl17 : Array (Option Value)} {oc17 kV17 dc17 pm17 cd17 ct17 : Value} {f18 : Addr} {od18 an18 : Option Addr} {sl18 : Array (Option Value)} {oc18 kV18 dc18 pm18 cd18 ct18 : Value} {f19 cc19 tb19 : Addr} {od19 an19 cod19 : Option Addr} {sl19 csl19 : Array (Option Value)} {oc19 kV19 dc19 pm19 ct19 : Value} {cvs19 : Array Value} {f20 : Addr} {od20 an20 : Option Addr} {sl20 : Array (Option Value)} {oc20 kV20 dc20 pm20 cd20 ct20 : Value} {f21 : Addr} {od21 an21 : Option Addr} {sl21 : Array (Option Value)} {oc21 kV21 dc21 pm21 cd21 ct21 : Value}
    (m0 : PySem.W.nsIn K mainGlobals "MOST_HOPS" = some (some (Value.int 7 tk0)))
    (hk_combinations : PySem.W.nsIn K mainGlobals "combinations" = some (some (.type "itertools.combinations")))
    (z_all : PySem.W.nsIn K mainGlobals "all" = some none)
    (z_any : PySem.W.nsIn K mainGlobals "any" = some none)
    (z_bool : PySem.W.nsIn K mainGlobals "bool" = some none)
    (z_enumerate : PySem.W.nsIn K mainGlobals "enumerate" = some none)
    (z_int : PySem.W.nsIn K mainGlobals "int" = some none)
    (z_isinstance : PySem.W.nsIn K mainGlobals "isinstance" = some none)
    (z_len : PySem.W.nsIn K mainGlobals "len" = some none)
    (z_list : PySem.W.nsIn K mainGlobals "list" = some none)
    (z_range : PySem.W.nsIn K mainGlobals "range" = some none)
    (z_reversed : PySem.W.nsIn K mainGlobals "reversed" = some none)
    (z_set : PySem.W.nsIn K mainGlobals "set" = some none)
    (z_sorted : PySem.W.nsIn K mainGlobals "sorted" = some none)
    (z_tuple : PySem.W.nsIn K mainGlobals "tuple" = some none)
    (z_zip : PySem.W.nsIn K mainGlobals "zip" = some none)
    (a0 : PySem.W.nsIn K mainGlobals "is_number" = some (some (.ref f0)))
    (l0 : K.lookup f0 = some ⟨oc0, od0, .func (PySem.W.fnOf "is_number" "is_number" (defArgs s_is_number) (defBody s_is_number) (defScope s_is_number) .none kV0 dc0 pm0 an0 cd0 ct0), sl0⟩)
    (c0 : PySem.W.codeIn K cd0 "is_number" = true)
    (k0 : PySem.W.keepIn K (.ref f0) = true)
    (a1 : PySem.W.nsIn K mainGlobals "is_tuple" = some (some (.ref f1)))
    (l1 : K.lookup f1 = some ⟨oc1, od1, .func (PySem.W.fnOf "is_tuple" "is_tuple" (defArgs s_is_tuple) (defBody s_is_tuple) (defScope s_is_tuple) .none kV1 dc1 pm1 an1 cd1 ct1), sl1⟩)
    (c1 : PySem.W.codeIn K cd1 "is_tuple" = true)
    (k1 : PySem.W.keepIn K (.ref f1) = true)
    (a2 : PySem.W.nsIn K mainGlobals "are_numbers" = some (some (.ref f2)))
    (l2 : K.lookup f2 = some ⟨oc2, od2, .func (PySem.W.fnOf "are_numbers" "are_numbers" (defArgs s_are_numbers) (defBody s_are_numbers) (defScope s_are_numbers) .none kV2 dc2 pm2 an2 cd2 ct2), sl2⟩)
    (c2 : PySem.W.codeIn K cd2 "are_numbers" = true)
    (k2 : PySem.W.keepIn K (.ref f2) = true)
    (a3 : PySem.W.nsIn K mainGlobals "paths_to" = some (some (.ref f3)))
    (l3 : K.lookup f3 = some ⟨oc3, od3, .func (PySem.W.fnOf "paths_to" "paths_to" (defArgs s_paths_to) (defBody s_paths_to) (defScope s_paths_to) .none kV3 dc3 pm3 an3 cd3 ct3), sl3⟩)
    (c3 : PySem.W.codeIn K cd3 "paths_to" = true)
    (k3 : PySem.W.keepIn K (.ref f3) = true)
    (a4 : PySem.W.nsIn K mainGlobals "ring_among" = some (some (.ref f4)))
    (l4 : K.lookup f4 = some ⟨oc4, od4, .func (PySem.W.fnOf "ring_among" "ring_among" (defArgs s_ring_among) (defBody s_ring_among) (defScope s_ring_among) .none kV4 dc4 pm4 an4 cd4 ct4), sl4⟩)
    (c4 : PySem.W.codeIn K cd4 "ring_among" = true)
    (k4 : PySem.W.keepIn K (.ref f4) = true)
    (a5 : PySem.W.nsIn K mainGlobals "_depth" = some (some (.ref f5)))
    (l5 : K.lookup f5 = some ⟨oc5, od5, .func (PySem.W.fnOf "_depth" "_depth" (defArgs s_depth) (defBody s_depth) (defScope s_depth) .none kV5 dc5 pm5 an5 cd5 ct5), sl5⟩)
    (c5 : PySem.W.codeIn K cd5 "_depth" = true)
    (k5 : PySem.W.keepIn K (.ref f5) = true)
    (a6 : PySem.W.nsIn K mainGlobals "_check_tree" = some (some (.ref f6)))
    (l6 : K.lookup f6 = some ⟨oc6, od6, .func (PySem.W.fnOf "_check_tree" "_check_tree" (defArgs s_check_tree) (defBody s_check_tree) (defScope s_check_tree) .none kV6 dc6 pm6 an6 cd6 ct6), sl6⟩)
    (c6 : PySem.W.codeIn K cd6 "_check_tree" = true)
    (k6 : PySem.W.keepIn K (.ref f6) = true)
    (a7 : PySem.W.nsIn K mainGlobals "_check_trees" = some (some (.ref f7)))
    (l7 : K.lookup f7 = some ⟨oc7, od7, .func (PySem.W.fnOf "_check_trees" "_check_trees" (defArgs s_check_trees) (defBody s_check_trees) (defScope s_check_trees) .none kV7 dc7 pm7 an7 cd7 ct7), sl7⟩)
    (c7 : PySem.W.codeIn K cd7 "_check_trees" = true)
    (k7 : PySem.W.keepIn K (.ref f7) = true)
    (a8 : PySem.W.nsIn K mainGlobals "_is_round" = some (some (.ref f8)))
    (l8 : K.lookup f8 = some ⟨oc8, od8, .func (PySem.W.fnOf "_is_round" "_is_round" (defArgs s_is_round) (defBody s_is_round) (defScope s_is_round) .none kV8 dc8 pm8 an8 cd8 ct8), sl8⟩)
    (c8 : PySem.W.codeIn K cd8 "_is_round" = true)
    (k8 : PySem.W.keepIn K (.ref f8) = true)
    (a9 : PySem.W.nsIn K mainGlobals "_check_rounds" = some (some (.ref f9)))
    (l9 : K.lookup f9 = some ⟨oc9, od9, .func (PySem.W.fnOf "_check_rounds" "_check_rounds" (defArgs s_check_rounds) (defBody s_check_rounds) (defScope s_check_rounds) .none kV9 dc9 pm9 an9 cd9 ct9), sl9⟩)
    (c9 : PySem.W.codeIn K cd9 "_check_rounds" = true)
    (k9 : PySem.W.keepIn K (.ref f9) = true)
    (a10 : PySem.W.nsIn K mainGlobals "_heads_at" = some (some (.ref f10)))
    (l10 : K.lookup f10 = some ⟨oc10, od10, .func (PySem.W.fnOf "_heads_at" "_heads_at" (defArgs s_heads_at) (defBody s_heads_at) (defScope s_heads_at) .none kV10 dc10 pm10 an10 cd10 ct10), sl10⟩)
    (c10 : PySem.W.codeIn K cd10 "_heads_at" = true)
    (k10 : PySem.W.keepIn K (.ref f10) = true)
    (a11 : PySem.W.nsIn K mainGlobals "_differing" = some (some (.ref f11)))
    (l11 : K.lookup f11 = some ⟨oc11, od11, .func (PySem.W.fnOf "_differing" "_differing" (defArgs s_differing) (defBody s_differing) (defScope s_differing) .none kV11 dc11 pm11 an11 cd11 ct11), sl11⟩)
    (c11 : PySem.W.codeIn K cd11 "_differing" = true)
    (k11 : PySem.W.keepIn K (.ref f11) = true)
    (a12 : PySem.W.nsIn K mainGlobals "_ring" = some (some (.ref f12)))
    (l12 : K.lookup f12 = some ⟨oc12, od12, .func (PySem.W.fnOf "_ring" "_ring" (defArgs s_ring) (defBody s_ring) (defScope s_ring) .none kV12 dc12 pm12 an12 cd12 ct12), sl12⟩)
    (c12 : PySem.W.codeIn K cd12 "_ring" = true)
    (k12 : PySem.W.keepIn K (.ref f12) = true)
    (a13 : PySem.W.nsIn K mainGlobals "ring_of_round" = some (some (.ref f13)))
    (l13 : K.lookup f13 = some ⟨oc13, od13, .func (PySem.W.fnOf "ring_of_round" "ring_of_round" (defArgs s_ring_of_round) (defBody s_ring_of_round) (defScope s_ring_of_round) .none kV13 dc13 pm13 an13 cd13 ct13), sl13⟩)
    (c13 : PySem.W.codeIn K cd13 "ring_of_round" = true)
    (k13 : PySem.W.keepIn K (.ref f13) = true)
    (a14 : PySem.W.nsIn K mainGlobals "depth_rounds" = some (some (.ref f14)))
    (l14 : K.lookup f14 = some ⟨oc14, od14, .func (PySem.W.fnOf "depth_rounds" "depth_rounds" (defArgs s_depth_rounds) (defBody s_depth_rounds) (defScope s_depth_rounds) .none kV14 dc14 pm14 an14 cd14 ct14), sl14⟩)
    (c14 : PySem.W.codeIn K cd14 "depth_rounds" = true)
    (k14 : PySem.W.keepIn K (.ref f14) = true)
    (a15 : PySem.W.nsIn K mainGlobals "_fewest_rounds" = some (some (.ref f15)))
    (l15 : K.lookup f15 = some ⟨oc15, od15, .func (PySem.W.fnOf "_fewest_rounds" "_fewest_rounds" (defArgs s_fewest_rounds) (defBody s_fewest_rounds) (defScope s_fewest_rounds) .none kV15 dc15 pm15 an15 cd15 ct15), sl15⟩)
    (c15 : PySem.W.codeIn K cd15 "_fewest_rounds" = true)
    (k15 : PySem.W.keepIn K (.ref f15) = true)
    (a16 : PySem.W.nsIn K mainGlobals "least_rounds" = some (some (.ref f16)))
    (l16 : K.lookup f16 = some ⟨oc16, od16, .func (PySem.W.fnOf "least_rounds" "least_rounds" (defArgs s_least_rounds) (defBody s_least_rounds) (defScope s_least_rounds) .none kV16 dc16 pm16 an16 (.ref cc16) ct16), sl16⟩)
    (c16 : PySem.W.codeIn K (.ref cc16) "least_rounds" = true)
    (k16 : PySem.W.keepIn K (.ref f16) = true)
    (u16 : K.lookup cc16 = some ⟨.type "code", cod16, .fields cvs16, csl16⟩)
    (v16 : (cvs16[11]? : Option Value) = some (.ref tb16))
    (d16 : PySem.W.codeHdIn K cc16 tb16 = true)
    (e16 : K.lookup tb16 = none)
    (h16 : h.get? tb16 = some (PySem.W.tabObj #[]))
    (a17 : PySem.W.nsIn K mainGlobals "_bypass" = some (some (.ref f17)))
    (l17 : K.lookup f17 = some ⟨oc17, od17, .func (PySem.W.fnOf "_bypass" "_bypass" (defArgs s_bypass) (defBody s_bypass) (defScope s_bypass) .none kV17 dc17 pm17 an17 cd17 ct17), sl17⟩)
    (c17 : PySem.W.codeIn K cd17 "_bypass" = true)
    (k17 : PySem.W.keepIn K (.ref f17) = true)
    (a18 : PySem.W.nsIn K mainGlobals "_check_guard" = some (some (.ref f18)))
    (l18 : K.lookup f18 = some ⟨oc18, od18, .func (PySem.W.fnOf "_check_guard" "_check_guard" (defArgs s_check_guard) (defBody s_check_guard) (defScope s_check_guard) .none kV18 dc18 pm18 an18 cd18 ct18), sl18⟩)
    (c18 : PySem.W.codeIn K cd18 "_check_guard" = true)
    (k18 : PySem.W.keepIn K (.ref f18) = true)
    (a19 : PySem.W.nsIn K mainGlobals "guarded_rounds" = some (some (.ref f19)))
    (l19 : K.lookup f19 = some ⟨oc19, od19, .func (PySem.W.fnOf "guarded_rounds" "guarded_rounds" (defArgs s_guarded_rounds) (defBody s_guarded_rounds) (defScope s_guarded_rounds) .none kV19 dc19 pm19 an19 (.ref cc19) ct19), sl19⟩)
    (c19 : PySem.W.codeIn K (.ref cc19) "guarded_rounds" = true)
    (k19 : PySem.W.keepIn K (.ref f19) = true)
    (u19 : K.lookup cc19 = some ⟨.type "code", cod19, .fields cvs19, csl19⟩)
    (v19 : (cvs19[11]? : Option Value) = some (.ref tb19))
    (d19 : PySem.W.codeHdIn K cc19 tb19 = true)
    (e19 : K.lookup tb19 = none)
    (h19 : h.get? tb19 = some (PySem.W.tabObj #[]))
    (a20 : PySem.W.nsIn K mainGlobals "_law_taken" = some (some (.ref f20)))
    (l20 : K.lookup f20 = some ⟨oc20, od20, .func (PySem.W.fnOf "_law_taken" "_law_taken" (defArgs s_law_taken) (defBody s_law_taken) (defScope s_law_taken) .none kV20 dc20 pm20 an20 cd20 ct20), sl20⟩)
    (c20 : PySem.W.codeIn K cd20 "_law_taken" = true)
    (k20 : PySem.W.keepIn K (.ref f20) = true)
    (a21 : PySem.W.nsIn K mainGlobals "law" = some (some (.ref f21)))
    (l21 : K.lookup f21 = some ⟨oc21, od21, .func (PySem.W.fnOf "law" "law" (defArgs s_law) (defBody s_law) (defScope s_law) .none kV21 dc21 pm21 an21 cd21 ct21), sl21⟩)
    (c21 : PySem.W.codeIn K cd21 "law" = true)
    (k21 : PySem.W.keepIn K (.ref f21) = true)
    (y16_19 : tb16 ≠ tb19) :
    LamX.LawAtS l w K CX0 6 63 "script" mg fa h := by
  have e := hfa.symm.trans (PySem.W.mg_of X G a21)
  cases e
  have F0 := fun_mk (st := s_is_number) l0 c0 k0
  have b0 := F0.binds (ps := ["value", "low", "high"]) fun _ _ _ _ _ _ us hl => match us, hl with | [_, _, _], _ => rfl
  have F1 := fun_mk (st := s_is_tuple) l1 c1 k1
  have b1 := F1.binds (ps := ["value", "least", "most"]) fun _ _ _ _ _ _ us hl => match us, hl with | [_, _, _], _ => rfl
  have F2 := fun_mk (st := s_are_numbers) l2 c2 k2
  have b2 := F2.binds (ps := ["value", "low", "high"]) fun _ _ _ _ _ _ us hl => match us, hl with | [_, _, _], _ => rfl
  have F3 := fun_mk (st := s_paths_to) l3 c3 k3
  have b3 := F3.binds (ps := ["heads", "node", "goals"]) fun _ _ _ _ _ _ us hl => match us, hl with | [_, _, _], _ => rfl
  have F4 := fun_mk (st := s_ring_among) l4 c4 k4
  have b4 := F4.binds (ps := ["heads"]) fun _ _ _ _ _ _ us hl => match us, hl with | [_], _ => rfl
  have F5 := fun_mk (st := s_depth) l5 c5 k5
  have b5 := F5.binds (ps := ["hops", "node"]) fun _ _ _ _ _ _ us hl => match us, hl with | [_, _], _ => rfl
  have F6 := fun_mk (st := s_check_tree) l6 c6 k6
  have b6 := F6.binds (ps := ["hops", "least", "most"]) fun _ _ _ _ _ _ us hl => match us, hl with | [_, _, _], _ => rfl
  have F7 := fun_mk (st := s_check_trees) l7 c7 k7
  have b7 := F7.binds (ps := ["old", "new"]) fun _ _ _ _ _ _ us hl => match us, hl with | [_, _], _ => rfl
  have F8 := fun_mk (st := s_is_round) l8 c8 k8
  have b8 := F8.binds (ps := ["many", "value"]) fun _ _ _ _ _ _ us hl => match us, hl with | [_, _], _ => rfl
  have F9 := fun_mk (st := s_check_rounds) l9 c9 k9
  have b9 := F9.binds (ps := ["many", "done", "now"]) fun _ _ _ _ _ _ us hl => match us, hl with | [_, _, _], _ => rfl
  have F10 := fun_mk (st := s_heads_at) l10 c10 k10
  have b10 := F10.binds (ps := ["old", "new", "done", "now"]) fun _ _ _ _ _ _ us hl => match us, hl with | [_, _, _, _], _ => rfl
  have F11 := fun_mk (st := s_differing) l11 c11 k11
  have b11 := F11.binds (ps := ["old", "new"]) fun _ _ _ _ _ _ us hl => match us, hl with | [_, _], _ => rfl
  have F12 := fun_mk (st := s_ring) l12 c12 k12
  have b12 := F12.binds (ps := ["old", "new", "done", "now"]) fun _ _ _ _ _ _ us hl => match us, hl with | [_, _, _, _], _ => rfl
  have F13 := fun_mk (st := s_ring_of_round) l13 c13 k13
  have b13 := F13.binds (ps := ["old", "new", "done", "now"]) fun _ _ _ _ _ _ us hl => match us, hl with | [_, _, _, _], _ => rfl
  have F14 := fun_mk (st := s_depth_rounds) l14 c14 k14
  have b14 := F14.binds (ps := ["old", "new"]) fun _ _ _ _ _ _ us hl => match us, hl with | [_, _], _ => rfl
  have F15 := fun_mk (st := s_fewest_rounds) l15 c15 k15
  have b15 := F15.binds (ps := ["nodes", "is_safe"]) fun _ _ _ _ _ _ us hl => match us, hl with | [_, _], _ => rfl
  have F16 : FunC K "least_rounds" "least_rounds" s_least_rounds f16 _ cc16 := ⟨⟨oc16, od16, kV16, dc16, pm16, an16, ct16, sl16, rfl, l16, c16⟩, k16⟩
  have b16 := F16.toFun.binds (ps := ["old", "new"]) fun _ _ _ _ _ _ us hl => match us, hl with | [_, _], _ => rfl
  have F17 := fun_mk (st := s_bypass) l17 c17 k17
  have b17 := F17.binds (ps := ["old", "new", "done", "now", "start", "guard"]) fun _ _ _ _ _ _ us hl => match us, hl with | [_, _, _, _, _, _], _ => rfl
  have F18 := fun_mk (st := s_check_guard) l18 c18 k18
  have b18 := F18.binds (ps := ["many", "start", "guard"]) fun _ _ _ _ _ _ us hl => match us, hl with | [_, _, _], _ => rfl
  have F19 : FunC K "guarded_rounds" "guarded_rounds" s_guarded_rounds f19 _ cc19 := ⟨⟨oc19, od19, kV19, dc19, pm19, an19, ct19, sl19, rfl, l19, c19⟩, k19⟩
  have b19 := F19.toFun.binds (ps := ["old", "new", "start", "guard"]) fun _ _ _ _ _ _ us hl => match us, hl with | [_, _, _, _], _ => rfl
  have F20 := fun_mk (st := s_law_taken) l20 c20 k20
  have b20 := F20.binds (ps := ["row", "many"]) fun _ _ _ _ _ _ us hl => match us, hl with | [_, _], _ => rfl
  have F21 := fun_mk (st := s_law) l21 c21 k21
  have mm : ∀ (Pp : Addr × Addr → Prop), Pp (cc16, tb16) → Pp (cc19, tb19) → ∀ p ∈ [(cc16, tb16), (cc19, tb19)], Pp p := fun Pp y16 y19 p hp => by
    simp only [List.mem_cons, List.not_mem_nil, or_false] at hp
    rcases hp with rfl | rfl <;> assumption
  refine ⟨PySem.W.fnOf "law" "law" (defArgs s_law) (defBody s_law) (defScope s_law) .none kV21 dc21 pm21 an21 cd21 ct21, [(cc16, tb16), (cc19, tb19)], spLawX (cfg w K  [(tb16, (Str.ofString "least_rounds" ++ ".<locals>.") ++ "<lambda>"), (tb19, (Str.ofString "guarded_rounds" ++ ".<locals>.") ++ "is_safe")]), mm _ h16 h19, mm _ e16 e19, mm _ (PySem.W.codeHd_of_K X d16) (PySem.W.codeHd_of_K X d19), fun s v => .of_eq rfl, fun H a ns hl hz hT hS => ⟨a, ns, rfl, hl, hS, ?_, fun _ => rfl⟩, fun base _ _ hB => ?_⟩
  · show Tabs [(tb16, (Str.ofString "least_rounds" ++ ".<locals>.") ++ "<lambda>"), (tb19, (Str.ofString "guarded_rounds" ++ ".<locals>.") ++ "is_safe")] H
    intro p hp
    simp only [List.mem_cons, List.not_mem_nil, or_false] at hp
    rcases hp with rfl | rfl
    · exact LamX.TabS.nil (hT (cc16, tb16) (by simp))
    · exact LamX.TabS.nil (hT (cc19, tb19) (by simp))
  have TB16 := hB (cc16, tb16) (by simp)
  have hu16 : ∀ p ∈ [(tb16, (Str.ofString "least_rounds" ++ ".<locals>.") ++ "<lambda>"), (tb19, (Str.ofString "guarded_rounds" ++ ".<locals>.") ++ "is_safe")], p.1 = tb16 → p.2 = (Str.ofString "least_rounds" ++ ".<locals>.") ++ "<lambda>" := by
    intro p hp e
    simp only [List.mem_cons, List.not_mem_nil, or_false] at hp
    rcases hp with rfl | rfl
    · rfl
    · exact absurd e (Ne.symm y16_19)
  have TB19 := hB (cc19, tb19) (by simp)
  have hu19 : ∀ p ∈ [(tb16, (Str.ofString "least_rounds" ++ ".<locals>.") ++ "<lambda>"), (tb19, (Str.ofString "guarded_rounds" ++ ".<locals>.") ++ "is_safe")], p.1 = tb19 → p.2 = (Str.ofString "guarded_rounds" ++ ".<locals>.") ++ "is_safe" := by
    intro p hp e
    simp only [List.mem_cons, List.not_mem_nil, or_false] at hp
    rcases hp with rfl | rfl
    · exact absurd e y16_19
    · rfl
  have T : Tx l.prog w (cfg w K  [(tb16, (Str.ofString "least_rounds" ++ ".<locals>.") ++ "<lambda>"), (tb19, (Str.ofString "guarded_rounds" ++ ".<locals>.") ++ "is_safe")]) mg base := {
    w_ := rfl,
    k_combinations := PySem.W.mg_of X G hk_combinations,
    b_all := PySem.W.mg_none_of X G z_all,
    b_any := PySem.W.mg_none_of X G z_any,
    b_bool := PySem.W.mg_none_of X G z_bool,
    b_enumerate := PySem.W.mg_none_of X G z_enumerate,
    b_int := PySem.W.mg_none_of X G z_int,
    b_isinstance := PySem.W.mg_none_of X G z_isinstance,
    b_len := PySem.W.mg_none_of X G z_len,
    b_list := PySem.W.mg_none_of X G z_list,
    b_range := PySem.W.mg_none_of X G z_range,
    b_reversed := PySem.W.mg_none_of X G z_reversed,
    b_set := PySem.W.mg_none_of X G z_set,
    b_sorted := PySem.W.mg_none_of X G z_sorted,
    b_tuple := PySem.W.mg_none_of X G z_tuple,
    b_zip := PySem.W.mg_none_of X G z_zip,
    c_MOST_HOPS := ⟨_, PySem.W.mg_of X G m0⟩}
  have C_is_number : Cal l.prog w K mg base 1 "is_number" (spF (cfg w K  [(tb16, (Str.ofString "least_rounds" ++ ".<locals>.") ++ "<lambda>"), (tb19, (Str.ofString "guarded_rounds" ++ ".<locals>.") ++ "is_safe")]) f_is_number) [] := cal_mk F0 (PySem.W.mg_of X G a0) b0 (ok_is_number T F0 )
  have C_is_tuple : Cal l.prog w K mg base 1 "is_tuple" (spF (cfg w K  [(tb16, (Str.ofString "least_rounds" ++ ".<locals>.") ++ "<lambda>"), (tb19, (Str.ofString "guarded_rounds" ++ ".<locals>.") ++ "is_safe")]) f_is_tuple) [] := cal_mk F1 (PySem.W.mg_of X G a1) b1 (ok_is_tuple T F1 )
  have C_are_numbers : Cal l.prog w K mg base 2 "are_numbers" (spF (cfg w K  [(tb16, (Str.ofString "least_rounds" ++ ".<locals>.") ++ "<lambda>"), (tb19, (Str.ofString "guarded_rounds" ++ ".<locals>.") ++ "is_safe")]) f_are_numbers) [] := cal_mk F2 (PySem.W.mg_of X G a2) b2 (ok_are_numbers T F2 C_is_number)
  have C_paths_to : Cal l.prog w K mg base 1 "paths_to" (spF (cfg w K  [(tb16, (Str.ofString "least_rounds" ++ ".<locals>.") ++ "<lambda>"), (tb19, (Str.ofString "guarded_rounds" ++ ".<locals>.") ++ "is_safe")]) f_paths_to) [] := cal_mk F3 (PySem.W.mg_of X G a3) b3 (ok_paths_to T F3 )
  have CQ_paths_to : ∀ (fq : Addr) (kq : Hp), Cal l.prog w K mg base 1 "paths_to" (spF (cF (cfg w K  [(tb16, (Str.ofString "least_rounds" ++ ".<locals>.") ++ "<lambda>"), (tb19, (Str.ofString "guarded_rounds" ++ ".<locals>.") ++ "is_safe")]) fq kq) f_paths_to) [] := fun fq kq => cal_mk F3 (PySem.W.mg_of X G a3) b3 (ok_paths_to (T.cF fq kq) F3 )
  have C_ring_among : Cal l.prog w K mg base 1 "ring_among" (spF (cfg w K  [(tb16, (Str.ofString "least_rounds" ++ ".<locals>.") ++ "<lambda>"), (tb19, (Str.ofString "guarded_rounds" ++ ".<locals>.") ++ "is_safe")]) f_ring_among) [] := cal_mk F4 (PySem.W.mg_of X G a4) b4 (ok_ring_among T F4 )
  have CQ_ring_among : ∀ (fq : Addr) (kq : Hp), Cal l.prog w K mg base 1 "ring_among" (spF (cF (cfg w K  [(tb16, (Str.ofString "least_rounds" ++ ".<locals>.") ++ "<lambda>"), (tb19, (Str.ofString "guarded_rounds" ++ ".<locals>.") ++ "is_safe")]) fq kq) f_ring_among) [] := fun fq kq => cal_mk F4 (PySem.W.mg_of X G a4) b4 (ok_ring_among (T.cF fq kq) F4 )
  have C_depth : Cal l.prog w K mg base 1 "_depth" (spF (cfg w K  [(tb16, (Str.ofString "least_rounds" ++ ".<locals>.") ++ "<lambda>"), (tb19, (Str.ofString "guarded_rounds" ++ ".<locals>.") ++ "is_safe")]) f_depth) [] := cal_mk F5 (PySem.W.mg_of X G a5) b5 (ok_depth T F5 )
  have C_check_tree : Cal l.prog w K mg base 3 "_check_tree" (spF (cfg w K  [(tb16, (Str.ofString "least_rounds" ++ ".<locals>.") ++ "<lambda>"), (tb19, (Str.ofString "guarded_rounds" ++ ".<locals>.") ++ "is_safe")]) f_check_tree) [] := cal_mk F6 (PySem.W.mg_of X G a6) b6 (ok_check_tree T F6 C_is_number C_is_tuple C_depth)
  have C_check_trees : Cal l.prog w K mg base 4 "_check_trees" (spF (cfg w K  [(tb16, (Str.ofString "least_rounds" ++ ".<locals>.") ++ "<lambda>"), (tb19, (Str.ofString "guarded_rounds" ++ ".<locals>.") ++ "is_safe")]) f_check_trees) [] := cal_mk F7 (PySem.W.mg_of X G a7) b7 (ok_check_trees T F7 C_check_tree)
  have C_is_round : Cal l.prog w K mg base 3 "_is_round" (spF (cfg w K  [(tb16, (Str.ofString "least_rounds" ++ ".<locals>.") ++ "<lambda>"), (tb19, (Str.ofString "guarded_rounds" ++ ".<locals>.") ++ "is_safe")]) f_is_round) [] := cal_mk F8 (PySem.W.mg_of X G a8) b8 (ok_is_round T F8 C_are_numbers)
  have C_check_rounds : Cal l.prog w K mg base 4 "_check_rounds" (spF (cfg w K  [(tb16, (Str.ofString "least_rounds" ++ ".<locals>.") ++ "<lambda>"), (tb19, (Str.ofString "guarded_rounds" ++ ".<locals>.") ++ "is_safe")]) f_check_rounds) [] := cal_mk F9 (PySem.W.mg_of X G a9) b9 (ok_check_rounds T F9 C_is_round)
  have C_heads_at : Cal l.prog w K mg base 1 "_heads_at" (spF (cfg w K  [(tb16, (Str.ofString "least_rounds" ++ ".<locals>.") ++ "<lambda>"), (tb19, (Str.ofString "guarded_rounds" ++ ".<locals>.") ++ "is_safe")]) f_heads_at) [] := cal_mk F10 (PySem.W.mg_of X G a10) b10 (ok_heads_at T F10 )
  have CQ_heads_at : ∀ (fq : Addr) (kq : Hp), Cal l.prog w K mg base 1 "_heads_at" (spF (cF (cfg w K  [(tb16, (Str.ofString "least_rounds" ++ ".<locals>.") ++ "<lambda>"), (tb19, (Str.ofString "guarded_rounds" ++ ".<locals>.") ++ "is_safe")]) fq kq) f_heads_at) [] := fun fq kq => cal_mk F10 (PySem.W.mg_of X G a10) b10 (ok_heads_at (T.cF fq kq) F10 )
  have C_differing : Cal l.prog w K mg base 1 "_differing" (spF (cfg w K  [(tb16, (Str.ofString "least_rounds" ++ ".<locals>.") ++ "<lambda>"), (tb19, (Str.ofString "guarded_rounds" ++ ".<locals>.") ++ "is_safe")]) f_differing) [] := cal_mk F11 (PySem.W.mg_of X G a11) b11 (ok_differing T F11 )
  have CQ_differing : ∀ (fq : Addr) (kq : Hp), Cal l.prog w K mg base 1 "_differing" (spF (cF (cfg w K  [(tb16, (Str.ofString "least_rounds" ++ ".<locals>.") ++ "<lambda>"), (tb19, (Str.ofString "guarded_rounds" ++ ".<locals>.") ++ "is_safe")]) fq kq) f_differing) [] := fun fq kq => cal_mk F11 (PySem.W.mg_of X G a11) b11 (ok_differing (T.cF fq kq) F11 )
  have C_ring : Cal l.prog w K mg base 2 "_ring" (spF (cfg w K  [(tb16, (Str.ofString "least_rounds" ++ ".<locals>.") ++ "<lambda>"), (tb19, (Str.ofString "guarded_rounds" ++ ".<locals>.") ++ "is_safe")]) f_ring) [] := cal_mk F12 (PySem.W.mg_of X G a12) b12 (ok_ring T F12 C_ring_among C_heads_at)
  have CQ_ring : ∀ (fq : Addr) (kq : Hp), Cal l.prog w K mg base 2 "_ring" (spF (cF (cfg w K  [(tb16, (Str.ofString "least_rounds" ++ ".<locals>.") ++ "<lambda>"), (tb19, (Str.ofString "guarded_rounds" ++ ".<locals>.") ++ "is_safe")]) fq kq) f_ring) [] := fun fq kq => cal_mk F12 (PySem.W.mg_of X G a12) b12 (ok_ring (T.cF fq kq) F12 (CQ_ring_among fq kq) (CQ_heads_at fq kq))
  have C_ring_of_round : Cal l.prog w K mg base 5 "ring_of_round" (spF (cfg w K  [(tb16, (Str.ofString "least_rounds" ++ ".<locals>.") ++ "<lambda>"), (tb19, (Str.ofString "guarded_rounds" ++ ".<locals>.") ++ "is_safe")]) f_ring_of_round) [] := cal_mk F13 (PySem.W.mg_of X G a13) b13 (ok_ring_of_round T F13 C_check_trees C_check_rounds C_ring)
  have C_depth_rounds : Cal l.prog w K mg base 5 "depth_rounds" (spF (cfg w K  [(tb16, (Str.ofString "least_rounds" ++ ".<locals>.") ++ "<lambda>"), (tb19, (Str.ofString "guarded_rounds" ++ ".<locals>.") ++ "is_safe")]) f_depth_rounds) [] := cal_mk F14 (PySem.W.mg_of X G a14) b14 (ok_depth_rounds T F14 C_depth C_check_trees C_differing)
  have CG_fewest_rounds : CalG l.prog w K mg base 2 "_fewest_rounds" (cfg w K  [(tb16, (Str.ofString "least_rounds" ++ ".<locals>.") ++ "<lambda>"), (tb19, (Str.ofString "guarded_rounds" ++ ".<locals>.") ++ "is_safe")]) f_fewest_rounds := ⟨⟨f15, _, _, _, _, _, _, _, _, _, _, _, _, _, n_fewest_rounds, "nodes", "is_safe", b_fewest_rounds, PySem.W.mg_of X G a15, k15, l15, c15, b15, sc_fewest_rounds, rfl, .inl rfl, by decide, by decide, fun _ => rfl, gf_fewest_rounds T⟩⟩
  have C_least_rounds : Cal l.prog w K mg base 5 "least_rounds" (spF (cfg w K  [(tb16, (Str.ofString "least_rounds" ++ ".<locals>.") ++ "<lambda>"), (tb19, (Str.ofString "guarded_rounds" ++ ".<locals>.") ++ "is_safe")]) f_least_rounds) [] := cal_mkC F16 (PySem.W.mg_of X G a16) b16 (ok_least_rounds T F16 TB16 (by simp [cfg]) hu16 C_check_trees C_differing CQ_ring rfl CG_fewest_rounds)
  have C_bypass : Cal l.prog w K mg base 2 "_bypass" (spF (cfg w K  [(tb16, (Str.ofString "least_rounds" ++ ".<locals>.") ++ "<lambda>"), (tb19, (Str.ofString "guarded_rounds" ++ ".<locals>.") ++ "is_safe")]) f_bypass) [] := cal_mk F17 (PySem.W.mg_of X G a17) b17 (ok_bypass T F17 C_paths_to C_heads_at)
  have CQ_bypass : ∀ (fq : Addr) (kq : Hp), Cal l.prog w K mg base 2 "_bypass" (spF (cF (cfg w K  [(tb16, (Str.ofString "least_rounds" ++ ".<locals>.") ++ "<lambda>"), (tb19, (Str.ofString "guarded_rounds" ++ ".<locals>.") ++ "is_safe")]) fq kq) f_bypass) [] := fun fq kq => cal_mk F17 (PySem.W.mg_of X G a17) b17 (ok_bypass (T.cF fq kq) F17 (CQ_paths_to fq kq) (CQ_heads_at fq kq))
  have C_check_guard : Cal l.prog w K mg base 2 "_check_guard" (spF (cfg w K  [(tb16, (Str.ofString "least_rounds" ++ ".<locals>.") ++ "<lambda>"), (tb19, (Str.ofString "guarded_rounds" ++ ".<locals>.") ++ "is_safe")]) f_check_guard) [] := cal_mk F18 (PySem.W.mg_of X G a18) b18 (ok_check_guard T F18 C_is_number)
  have C_guarded_rounds : Cal l.prog w K mg base 5 "guarded_rounds" (spF (cfg w K  [(tb16, (Str.ofString "least_rounds" ++ ".<locals>.") ++ "<lambda>"), (tb19, (Str.ofString "guarded_rounds" ++ ".<locals>.") ++ "is_safe")]) f_guarded_rounds) [] := cal_mkC F19 (PySem.W.mg_of X G a19) b19 (ok_guarded_rounds T F19 TB19 (by simp [cfg]) hu19 C_check_trees CQ_differing CQ_ring rfl CG_fewest_rounds CQ_bypass C_check_guard)
  have C_law_taken : Cal l.prog w K mg base 1 "_law_taken" (spF (cfg w K  [(tb16, (Str.ofString "least_rounds" ++ ".<locals>.") ++ "<lambda>"), (tb19, (Str.ofString "guarded_rounds" ++ ".<locals>.") ++ "is_safe")]) f_law_taken) [] := cal_mk F20 (PySem.W.mg_of X G a20) b20 (ok_law_taken T F20 )
  exact law_ok law_pure (ok_law T F21 C_ring_of_round C_depth_rounds C_least_rounds C_guarded_rounds C_law_taken)
theorem walk {l : PySem.W.OpenLaw} {q : Program} {loose : List Str} {XP : (Str → Option Value) → Heap → Prop} {YP : World → Heap → Prop} {d : DefRec} {K : Params → PySem.W.Frag} (hn : l.most = some 63) (hdf : d.params.defaults = [])
    (hY : ∀ (w : World) (h : Heap), YP w h → (K w.params).In h)
    (F : ∀ (w : World) (mg : Str → Option Value) (fa : Addr) (h : Heap), YP w h → (K w.params).In h → h.Ns mainGlobals mg → mg d.name = some (.ref fa) → LamX.LawAtS l w (K w.params) CX0 6 63 "script" mg fa h) :
    PySem.W.WalkO q loose XP YP l.row.toRowW d [] (fun f vs => PySem.call f vs) :=
  LamX.walk_ofTs (n := 63) (k := 6) (x := "script") (CX := fun _ => CX0) hn (by decide) hdf ⟨rfl, by decide, by decide⟩ hY F fun _ _ _ _ _ z => z
end
end Fx.K66
open PySem PySem.W PyProof.Rows in
set_option maxRecDepth 100000 in
set_option maxHeartbeats 0 in
theorem PySem.Challenge.cw_routeweb_k66_updates_known_holds : PySem.Challenge.rw_routeweb_k66_updates_known.Holds := by
  w_on; o_law; k_head; (case hw => w_witness2)
  k_fill
  refine Fx.K66.walk (l := PySem.Challenge.rw_routeweb_k66_updates_known) rfl rfl (fun w h Y => PySem.W.km_in_of Y) ?F
  case F =>
    intro w mg fa h Y KX G hmg
    have hT8 := PySem.W.km_tabs_of Y
    refine' Fx.K66.all_mk KX G hmg ?m0 ?hk_combinations ?z_all ?z_any ?z_bool ?z_enumerate ?z_int ?z_isinstance ?z_len ?z_list ?z_range ?z_reversed ?z_set ?z_sorted ?z_tuple ?z_zip ?a0 ?l0 ?c0 ?k0 ?a1 ?l1 ?c1 ?k1 ?a2 ?l2 ?c2 ?k2 ?a3 ?l3 ?c3 ?k3 ?a4 ?l4 ?c4 ?k4 ?a5 ?l5 ?c5 ?k5 ?a6 ?l6 ?c6 ?k6 ?a7 ?l7 ?c7 ?k7 ?a8 ?l8 ?c8 ?k8 ?a9 ?l9 ?c9 ?k9 ?a10 ?l10 ?c10 ?k10 ?a11 ?l11 ?c11 ?k11 ?a12 ?l12 ?c12 ?k12 ?a13 ?l13 ?c13 ?k13 ?a14 ?l14 ?c14 ?k14 ?a15 ?l15 ?c15 ?k15 ?a16 ?l16 ?c16 ?k16 ?u16 ?v16 ?d16 ?e16 ?h16 ?a17 ?l17 ?c17 ?k17 ?a18 ?l18 ?c18 ?k18 ?a19 ?l19 ?c19 ?k19 ?u19 ?v19 ?d19 ?e19 ?h19 ?a20 ?l20 ?c20 ?k20 ?a21 ?l21 ?c21 ?k21 ?y16_19
    (case m0 => k_is)
    (case hk_combinations => k_is)
    (case z_all => k_is)
    (case z_any => k_is)
    (case z_bool => k_is)
    (case z_enumerate => k_is)
    (case z_int => k_is)
    (case z_isinstance => k_is)
    (case z_len => k_is)
    (case z_list => k_is)
    (case z_range => k_is)
    (case z_reversed => k_is)
    (case z_set => k_is)
    (case z_sorted => k_is)
    (case z_tuple => k_is)
    (case z_zip => k_is)
    (case a0 => k_is)
    (case l0 => k_is)
    (case c0 => k_is)
    (case k0 => k_is)
    (case a1 => k_is)
    (case l1 => k_is)
    (case c1 => k_is)
    (case k1 => k_is)
    (case a2 => k_is)
    (case l2 => k_is)
    (case c2 => k_is)
    (case k2 => k_is)
    (case a3 => k_is)
    (case l3 => k_is)
    (case c3 => k_is)
    (case k3 => k_is)
    (case a4 => k_is)
    (case l4 => k_is)
    (case c4 => k_is)
    (case k4 => k_is)
    (case a5 => k_is)
    (case l5 => k_is)
    (case c5 => k_is)
    (case k5 => k_is)
    (case a6 => k_is)
    (case l6 => k_is)
    (case c6 => k_is)
    (case k6 => k_is)
    (case a7 => k_is)
    (case l7 => k_is)
    (case c7 => k_is)
    (case k7 => k_is)
    (case a8 => k_is)
    (case l8 => k_is)
    (case c8 => k_is)
    (case k8 => k_is)
    (case a9 => k_is)
    (case l9 => k_is)
    (case c9 => k_is)
    (case k9 => k_is)
    (case a10 => k_is)
    (case l10 => k_is)
    (case c10 => k_is)
    (case k10 => k_is)
    (case a11 => k_is)
    (case l11 => k_is)
    (case c11 => k_is)
    (case k11 => k_is)
    (case a12 => k_is)
    (case l12 => k_is)
    (case c12 => k_is)
    (case k12 => k_is)
    (case a13 => k_is)
    (case l13 => k_is)
    (case c13 => k_is)
    (case k13 => k_is)
    (case a14 => k_is)
    (case l14 => k_is)
    (case c14 => k_is)
    (case k14 => k_is)
    (case a15 => k_is)
    (case l15 => k_is)
    (case c15 => k_is)
    (case k15 => k_is)
    (case a16 => k_is)
    (case l16 => k_is)
    (case c16 => k_is)
    (case k16 => k_is)
    (case u16 => k_is)
    (case v16 => first | rfl | with_unfolding_all rfl)
    (case d16 => kernel_rfl)
    (case e16 => first | kernel_rfl | rfl | k_is)
    (case h16 => first | exact hT8 _ (by k_mem) | exact hT8 _ (by simp) | exact hT8 _ (by decide))
    (case a17 => k_is)
    (case l17 => k_is)
    (case c17 => k_is)
    (case k17 => k_is)
    (case a18 => k_is)
    (case l18 => k_is)
    (case c18 => k_is)
    (case k18 => k_is)
    (case a19 => k_is)
    (case l19 => k_is)
    (case c19 => k_is)
    (case k19 => k_is)
    (case u19 => k_is)
    (case v19 => first | rfl | with_unfolding_all rfl)
    (case d19 => kernel_rfl)
    (case e19 => first | kernel_rfl | rfl | k_is)
    (case h19 => first | exact hT8 _ (by k_mem) | exact hT8 _ (by simp) | exact hT8 _ (by decide))
    (case a20 => k_is)
    (case l20 => k_is)
    (case c20 => k_is)
    (case k20 => k_is)
    (case a21 => k_is)
    (case l21 => k_is)
    (case c21 => k_is)
    (case k21 => k_is)
    (case y16_19 => decide)
