import PyProof.Rows.All
import Wide.All
import OpenK.AllK
import Wide.FinOn
import KE.GoesEnum
import HandS.ForMost
import HandS.Walk
import HandS.Codes
import HandS.IsInst
import HandS.SortInts
import HandS.Strs
import HandS.SetFor
import HandS.Property
import HandS.TupMul
import HandS.TupAny
import HandS.Style
import HandS.Lambda
import HandS.Words
import HandS.Dict
import KE.KDictKeyed
import KE.KDictWalk
import HandS.Deep
import KE.DataEq
import HandS.Zip
import HandS.Zip0
import PyProof.ZipIter
import HandS.Rev
import HandS.EndTab
import HandS.Exc
import HandS.ExcOwn
import HandS.TryOnly
import HandS.WordsExc
import HandS.Conv
import HandS.Star
import HandS.Iter
import HandS.DictComp
import KE.KDictList
import PyProof.Rows.TupDisplay
import KE.KDictCopyH
import KE.KDictSum
import PyProof.DictTruth
import HandS.SortRule
import HandS.Flow
import KE.DataMinMax
import KE.DataFind
import KE.GoesEnumKw
import PyProof.Rows.CallKwBuiltin
import KE.KDictOf
import HandS.ExcInit
import HandS.FStr
import HandS.Nested
import KE.KExcSuper
import KE.KSuperObj
import PyProof.FString2
import PyProof.FitsInt
import KE.SortData
import HandS.SortKw
import KE.SortKeyHeap
import HandS.ExcValue
import PySem.Challenge.RW_routeweb_k44_storms_known
set_option Elab.async false
set_option linter.all false
set_option maxRecDepth 100000
set_option maxHeartbeats 8000000
/-! what stays, data, rules of our own -/
namespace Rw
open PySem PySem.Spec PyProof.Rows L2
/-! ### what stays -/
/-- an object that nobody changes -/
def Fixed : HO → Prop
  | .tup _ => True
  | .frz _ _ => True
  | .ins _ _ _ => True
  | _ => False
def Stay (H H' : Hp) : Prop := ∀ a o, Fixed o → H a = some o → H' a = some o
theorem Stay.refl (H : Hp) : Stay H H := fun _ _ _ h => h
theorem Stay.trans {H H1 H2 : Hp} (p : Stay H H1) (q : Stay H1 H2) : Stay H H2 := fun a o f h => q a o f (p a o f h)
theorem Stay.same {H H' : Hp} (p : Same H H') : Stay H H' := fun a o _ h => p a o h
theorem Stay.new {H : Hp} {p : Addr} {o : HO} (h : H p = none) : Stay H (upd H p o) := fun a u _ e => by
  rw [upd_ne (ne_of_none e h)]
  exact e
theorem Stay.put {H : Hp} {p : Addr} {u o : HO} (h : H p = some u) (n : ¬ Fixed u) : Stay H (upd H p o) := fun a v f e => by
  have : a ≠ p := fun z => by
    rw [z, h] at e
    cases e
    exact n f
  rw [upd_ne this]
  exact e
theorem Same.new {H : Hp} {p : Addr} {o : HO} (h : H p = none) : Same H (upd H p o) := fun a u e => by
  rw [upd_ne (ne_of_none e h)]
  exact e
/-- all but what stands at r -/
def Ext (r : Addr) (H H' : Hp) : Prop := ∀ a o, a ≠ r → H a = some o → H' a = some o
theorem Ext.refl (r : Addr) (H : Hp) : Ext r H H := fun _ _ _ h => h
theorem Ext.trans {r : Addr} {H H1 H2 : Hp} (p : Ext r H H1) (q : Ext r H1 H2) : Ext r H H2 := fun a o n h => q a o n (p a o n h)
theorem Ext.same {r : Addr} {H H' : Hp} (p : Same H H') : Ext r H H' := fun a o _ h => p a o h
theorem Ext.put {r : Addr} {H : Hp} {o : HO} : Ext r H (upd H r o) := fun a u n e => by
  rw [upd_ne n]
  exact e
theorem Ext.free {r p : Addr} {H H' : Hp} (x : Ext r H H') (n : p ≠ r) (h : H' p = none) : H p = none := by
  cases q : H p with
  | none => rfl
  | some o =>
    rw [x p o n q] at h
    cases h
/-! ### data -/
theorem DpAll.length {K : PySem.W.Frag} {H : Hp} : ∀ {vs : List V} {ds : List PyData}, DpAll K H vs ds → vs.length = ds.length
  | _, _, .nil => rfl
  | _, _, .cons _ k => by rw [List.length_cons, List.length_cons, DpAll.length k]
theorem DpAll.get {K : PySem.W.Frag} {H : Hp} : ∀ {vs : List V} {ds : List PyData} {i : Nat} {d : PyData}, DpAll K H vs ds → ds[i]? = some d → ∃ v, vs[i]? = some v ∧ Dp K H v d
  | _, _, _, _, .nil, e => by simp at e
  | _, _, 0, _, .cons h _, e => by simp at e; subst e; exact ⟨_, rfl, h⟩
  | _, _, i + 1, _, .cons _ k, e => by
    obtain ⟨v, e1, e2⟩ := DpAll.get (i := i) k (by simpa using e)
    exact ⟨v, by simpa using e1, e2⟩
theorem DpAll.getV {K : PySem.W.Frag} {H : Hp} : ∀ {vs : List V} {ds : List PyData} {i : Nat} {v : V}, DpAll K H vs ds → vs[i]? = some v → ∃ d, ds[i]? = some d ∧ Dp K H v d
  | _, _, _, _, .nil, e => by simp at e
  | _, _, 0, _, .cons h _, e => by simp at e; subst e; exact ⟨_, rfl, h⟩
  | _, _, i + 1, _, .cons _ k, e => by
    obtain ⟨d, e1, e2⟩ := DpAll.getV (i := i) k (by simpa using e)
    exact ⟨d, by simpa using e1, e2⟩
theorem DpAll.app {K : PySem.W.Frag} {H : Hp} : ∀ {vs ws : List V} {ds es : List PyData}, DpAll K H vs ds → DpAll K H ws es → DpAll K H (vs ++ ws) (ds ++ es)
  | _, _, _, _, .nil, q => q
  | _, _, _, _, .cons h k, q => .cons h (DpAll.app k q)
theorem Dp.tupE {K : PySem.W.Frag} {H : Hp} {v : V} {ds : List PyData} (h : Dp K H v (.tuple ds)) : ∃ a xs, v = .ref a ∧ SqT K H a xs ∧ DpAll K H xs ds := by
  cases h with
  | tup h k => exact ⟨_, _, rfl, h, k⟩
theorem Dp.lstE {K : PySem.W.Frag} {H : Hp} {v : V} {ds : List PyData} (h : Dp K H v (.list ds)) : ∃ a xs, v = .ref a ∧ SqL K H a xs ∧ DpAll K H xs ds := by
  cases h with
  | lst h k => exact ⟨_, _, rfl, h, k⟩
/-! ### isinstance -/
/-! ### the checks' answers -/
/-! ### readings, opened -/
theorem ex_bl {b : Bool} {p : Bool → Prop} : (∃ c, V.bl b = V.bl c ∧ p c) ↔ p b := ⟨fun ⟨_, e, h⟩ => by cases e; exact h, fun h => ⟨b, rfl, h⟩⟩
/-! ### comprehensions whose elements are data, nothing else changes -/
section
variable {K : PySem.W.Frag} {J : It} {n : Nat} {G : Hp → Prop} {Y : Nat → Hp → V → Hp → Prop} {g : TG} {tt : TT} {te : TE} {vs : List Nat} {σ : L2.St} {H : Hp} {Q : VK}
theorem DpAll.snoc {H : Hp} {acc : List V} {ds : List PyData} {k : Nat} {v : V} {d : PyData} (h : DpAll K H acc (ds.take k)) (e : ds[k]? = some d) (hv : Dp K H v d) : DpAll K H (acc ++ [v]) (ds.take (k + 1)) := by
  rw [List.take_succ, e]
  exact DpAll.app h (.cons hv .nil)
end
/-! ### the rules, the written part told by name (so that a reading does not hang on the block's context) -/
end Rw
/-! a lambda with parameters that captures nothing: made, handed on, called -/
namespace Rw
open PySem PySem.Spec PyProof.Rows L2
open LamX (Tabs TabS TabB ExtN CodeO codeO_ne inv_table among_app)
/-- the object of the lambda at f is o -/
def LamO (f : Addr) (o : Obj) : HO := .ext fun h => h.get? f = some o
end Rw
/-! data without addresses, what a heap holds of it, states -/
namespace Fx
open PySem PySem.Spec PyProof.Rows L2
open LamX (Tabs TabS TabB ExtN CodeO codeO_ne)
/-- a value without the heap -/
inductive D where
  | non | bl (b : Bool) | int (i : Int) | str (s : Str) | ty (n : String)
  | tup (ds : List D) | lst (ds : List D) | ins (c : String) (ds : List D) | dct (ks vs : List D) | dcq (ks vs : List D) | scr (ns : List Int) | fn (k : Nat) | xo (a : Addr) (o : Unit → HO) | exc | rng (lo hi : Int) | fu
/-- what a name holds: a value that stays, or a cell that this def alone may change (b: its place, where it is an argument's) -/
inductive S where
  | d (x : D) | o (b : Option Nat) (x : D)
  /-- a dict whose values are lists that this def alone may change -/
  | q (ks : List D) (dss : List (List D))
structure Err where
  cls : String
  fs : List D
abbrev En := List (Option S)
inductive Out (α : Type) where
  | ok (a : α) (ρ : En) | err (e : Err) (ρ : En) | stuck
def M (α : Type) := En → Out α
def Out.then {α β : Type} : Out α → (α → En → Out β) → Out β
  | .ok a ρ, f => f a ρ
  | .err e ρ, _ => .err e ρ
  | .stuck, _ => .stuck
@[reducible] def M.bind {α β : Type} (m : M α) (f : α → M β) : M β := fun ρ => (m ρ).then f
instance : Monad M where
  pure a := fun ρ => .ok a ρ
  bind := M.bind
/-- a lambda of the text: its full name, its parameters, body and scope -/
structure LamS where
  q : Str
  params : Arguments
  body : Expr
  scope : Scope
/-- the exception that a suite holds: its place, its dict, the fields -/
structure ExcI where
  a : Addr
  d : Option Addr
  fs : List (Str × V)
/-- what a law's context knows: the written part, the classes, their fields, the tables of code objects -/
structure Cfg where
  K : PySem.W.Frag
  cls : String → Addr
  flds : String → List Str
  T : List (Addr × Str)
  err : Err → Value → Option Addr → Hp → Prop
  fns : Nat → LamS
  w : World
  exc : Option ExcI
/-- a tuple of numbers alone -/
def isIntD : D → Bool
  | .int _ => true
  | _ => false
def pairy : D → Bool
  | .tup ds => ds.all isIntD
  | _ => false
/-- tuples of numbers, one at least: such a tuple is known to carry no attributes, so its methods can be called -/
def arcy : List D → Bool
  | [] => false
  | d :: ds => pairy d && ds.all pairy
/-- a tuple's object that carries no attributes -/
def SqN (G : Hp) (a : Addr) (vs : List V) : Prop := ∃ o : Obj, G a = some (.frz o (.tup vs)) ∧ o.dict = none
/-- the key of a datum -/
def keyD : Key → D
  | .inl i => .int i
  | .inr x => .str x
mutual
def nkD : D → Option NestedKey
  | .non => some .none
  | .int i => some (.num i)
  | .str x => some (.text x)
  | .tup ds => match nkDs ds with
    | some ks => some (.tup ks)
    | none => none
  | .bl _ => none
  | .ty _ => none
  | .lst _ => none
  | .ins _ _ => none
  | .dct _ _ => none
  | .dcq _ _ => none
  | .scr _ => none
  | .fn _ => none
  | .xo _ _ => none
  | .exc => none
  | .rng _ _ => none
  | .fu => none
def nkDs : List D → Option (List NestedKey)
  | [] => some []
  | d :: ds => match nkD d, nkDs ds with
    | some k, some ks => some (k :: ks)
    | _, _ => none
end
/-- a dict whose object is known -/
def xdO (a : Addr) (o : Obj) : HO := .ext fun h => h.get? a = some o
def MixObj (w : World) (o : Obj) (kvs : List (Key × Value)) : Prop := ∀ (P : Program) (h : Heap) (a : Addr), h.get? a = some o → h.DictOf (mixKind P w) a kvs
def NkObj (w : World) (o : Obj) (xs : List (NestedKey × Addr × Value)) : Prop := ∀ (P : Program) (h : Heap) (a : Addr), h.get? a = some o → (∀ x ∈ xs, (nestedKind P w).is h x.1 x.2.1) → h.DictOfH (nestedKind P w) a xs
/-- the object o is a dict with the keys ks: ints and texts, or tuples; kv, us: its keys and values -/
inductive DcO (w : World) (a : Addr) (o : Obj) : List D → List V → List V → Prop
  | mix {kvs : List (Key × Value)} {us : List V} : (a == sysModules) = false → o.ExactDict → (∃ es ep, o.data = .dict es ep) → MixObj w o kvs → kvs.length ≤ sizeLine → Vals us (kvs.map (·.2)) → DcO w a o (kvs.map fun p => keyD p.1) (kvs.map fun p => kV p.1) us
  | nk {xs : List (NestedKey × Addr × Value)} {us : List V} {ks : List D} : (a == sysModules) = false → o.ExactDict → (∃ es ep, o.data = .dict es ep) → NkObj w o xs → xs.length ≤ sizeLine → Vals us (xs.map (·.2.2)) → ks.map nkD = xs.map (fun x => some x.1) → (∀ x ∈ xs, x.1.depth ≤ 8) → DcO w a o ks (xs.map fun x => V.ref x.2.1) us
mutual
inductive Rp (c : Cfg) (G : Hp) : V → D → Prop
  | non : Rp c G .non .non
  | bl (b : Bool) : Rp c G (.bl b) (.bl b)
  | int (i : Int) : Rp c G (.int i) (.int i)
  | str (s : Str) : Rp c G (.str s) (.str s)
  | ty (n : String) : Rp c G (.ty n) (.ty n)
  | tup {a : Addr} {vs : List V} {ds : List D} : SqT c.K G a vs → RpAll c G vs ds → (arcy ds = true → SqN G a vs) → Rp c G (.ref a) (.tup ds)
  | lst {a : Addr} {vs : List V} {ds : List D} : G a = some (.lst vs) → RpAll c G vs ds → Rp c G (.ref a) (.lst ds)
  | scr {a : Addr} {ns : List Int} : SqL c.K G a (ns.map V.int) → Rp c G (.ref a) (.scr ns)
  | ins {a dx : Addr} {n : String} {fs : List (Str × V)} {ds : List D} : G a = some (.ins (c.cls n) dx fs) → fs.map (·.1) = (c.flds n).take ds.length → RpAll c G (fs.map (·.2)) ds → Rp c G (.ref a) (.ins n ds)
  | dct {a : Addr} {kvs : List (Key × V)} {vs : List D} : G a = some (.dK kvs) → RpAll c G (kvs.map (·.2)) vs → Rp c G (.ref a) (.dcq (kvs.map fun p => keyD p.1) vs)
  | dcx {a : Addr} {o : Obj} {kv us : List V} {ks ds : List D} : G a = some (xdO a o) → DcO c.w a o ks kv us → RpAll c G kv ks → RpAll c G us ds → Rp c G (.ref a) (.dct ks ds)
  | xo {a : Addr} {o : Unit → HO} : G a = some (o ()) → Rp c G (.ref a) (.xo a o)
  | exc {x : ExcI} : c.exc = some x → (∀ dd, x.d = some dd → G dd = some (.xd x.fs)) → Rp c G (.ref x.a) .exc
  | rng {a : Addr} {lo hi : Int} : G a = some (.rng lo hi) → Rp c G (.ref a) (.rng lo hi)
  | fu {a : Addr} {u : HO} : G a = some u → Rp c G (.ref a) .fu
  | fn {f c' : Addr} {k : Nat} {pm ctv : Value} : G f = some (Rw.LamO f (PySem.W.kla_obj "<lambda>" (c.fns k).q (c.fns k).params (c.fns k).body (c.fns k).scope [] pm c' ctv)) → G c' = some (CodeO c' (c.fns k).q) → Rp c G (.ref f) (.fn k)
inductive RpAll (c : Cfg) (G : Hp) : List V → List D → Prop
  | nil : RpAll c G [] []
  | cons {v : V} {d : D} {vs : List V} {ds : List D} : Rp c G v d → RpAll c G vs ds → RpAll c G (v :: vs) (d :: ds)
end
/-- a cell that is no table and no code object is written -/
inductive isCell : HO → Prop
  | lst (xs : List V) : isCell (.lst xs)
  | ins (C dx : Addr) (fs : List (Str × V)) : isCell (.ins C dx fs)
  | dK (kvs : List (Key × V)) : isCell (.dK kvs)
  | xd (a : Addr) (o : Obj) (es : Array DictEntry) (ep : Nat) : o.data = .dict es ep → isCell (xdO a o)
  | frz (o : Obj) (vs : List V) : isCell (.frz o (.tup vs))
/-- what stands at a changing cell -/
def Cell (c : Cfg) (G H : Hp) (a : Addr) : D → Prop
  | .lst ds => ∃ vs, H a = some (.lst vs) ∧ RpAll c G vs ds
  | .ins n ds => ∃ dx fs, H a = some (.ins (c.cls n) dx fs) ∧ fs.map (·.1) = (c.flds n).take ds.length ∧ RpAll c G (fs.map (·.2)) ds
  | .dct ks ds => ∃ o kv us, H a = some (xdO a o) ∧ DcO c.w a o ks kv us ∧ RpAll c G kv ks ∧ RpAll c G us ds
  | .xo b o => b = a ∧ H a = some (o ()) ∧ isCell (o ())
  | .tup ds => ∃ vs o, H a = some (.frz o (.tup vs)) ∧ o.dict = none ∧ RpAll c G vs ds
  | _ => False
abbrev Owns := List Addr
/-- lists that may be changed, at their places -/
inductive LsAll (c : Cfg) (G H : Hp) : List Addr → List (List D) → Prop
  | nil : LsAll c G H [] []
  | cons {b : Addr} {us : List V} {ds : List D} {bs : List Addr} {dss : List (List D)} : H b = some (.lst us) → RpAll c G us ds → LsAll c G H bs dss → LsAll c G H (b :: bs) (ds :: dss)
/-- where the cells of a def's arguments stand; what stays whatever a def does -/
structure Base where
  at_ : Nat → Option Addr
  pin : Hp
/-- a dict of such lists at a; os: all that is owned -/
def QDct (c : Cfg) (G H : Hp) (a : Addr) (ks : List D) (dss : List (List D)) (os : Owns) : Prop :=
  ∃ (kvs : List (Key × V)) (bs : List Addr), os = a :: bs ∧ H a = some (.dK kvs) ∧ ks = kvs.map (fun p => keyD p.1) ∧ kvs.map (·.2) = bs.map V.ref ∧ LsAll c G H bs dss
def plD : Option Nat → D
  | none => .tup []
  | some j => .tup [.int j]
/-- an instance whose last field is a dict that is owned too -/
def QIns (c : Cfg) (B : Base) (G H : Hp) (a : Addr) (ks : List D) (dss : List (List D)) (os : Owns) : Prop :=
  ∃ (n : String) (ds : List D) (p : Option Nat) (dk dv : List D) (dx : Addr) (fs : List (Str × V)) (b : Addr) (o : Obj) (kv us vs : List V), ks = [.ins n ds, plD p] ∧ dss = [dk, dv] ∧ os = [a, b] ∧ H a = some (.ins (c.cls n) dx fs) ∧ fs.map (·.1) = (c.flds n).take (ds.length + 1) ∧ fs.map (·.2) = vs ++ [V.ref b] ∧ RpAll c G vs ds ∧ H b = some (xdO b o) ∧ DcO c.w b o dk kv us ∧ RpAll c G kv dk ∧ RpAll c G us dv ∧ ∀ j : Nat, p = some j → B.at_ j = some a
/-- a dict of such lists whose object is known: keys of any kind -/
def QDcx (c : Cfg) (G H : Hp) (a : Addr) (ks : List D) (dss : List (List D)) (os : Owns) : Prop :=
  ∃ (ks' : List D) (o : Obj) (kv : List V) (bs : List Addr), ks = [.tup ks'] ∧ os = a :: bs ∧ H a = some (xdO a o) ∧ DcO c.w a o ks' kv (bs.map V.ref) ∧ RpAll c G kv ks' ∧ LsAll c G H bs dss
def QCell (c : Cfg) (B : Base) (G H : Hp) (a : Addr) (ks : List D) (dss : List (List D)) (os : Owns) : Prop := QDct c G H a ks dss os ∨ QIns c B G H a ks dss os ∨ QDcx c G H a ks dss os
inductive Sl (c : Cfg) (B : Base) (G H : Hp) : En → List (Option V) → Owns → Prop
  | nil : Sl c B G H [] [] []
  | skip {v : Option V} {es : En} {vs : List (Option V)} {own : Owns} : Sl c B G H es vs own → Sl c B G H (none :: es) (v :: vs) own
  | d {v : V} {x : D} {es : En} {vs : List (Option V)} {own : Owns} : Rp c G v x → Sl c B G H es vs own → Sl c B G H (some (.d x) :: es) (some v :: vs) own
  | o {a : Addr} {b : Option Nat} {x : D} {es : En} {vs : List (Option V)} {own : Owns} : Cell c G H a x → (∀ p, b = some p → B.at_ p = some a) → Sl c B G H es vs own → Sl c B G H (some (.o b x) :: es) (some (.ref a) :: vs) (a :: own)
  | q {a : Addr} {ks : List D} {dss : List (List D)} {es : En} {vs : List (Option V)} {os own : Owns} : QCell c B G H a ks dss os → Sl c B G H es vs own → Sl c B G H (some (.q ks dss) :: es) (some (.ref a) :: vs) (os ++ own)
def isTbl : HO → Bool
  | .tbl _ => true
  | _ => false
structure OkB (c : Cfg) (B : Base) (G H : Hp) (own : Owns) : Prop where
  sub : ∀ a o, G a = some o → H a = some o
  notbl : ∀ a o, G a = some o → isTbl o = false
  nd : own.Nodup
  out : ∀ p ∈ own, G p = none ∧ H p ≠ none
  tabs : Tabs c.T H
  pint : ∀ a o, B.pin a = some o → isTbl o = false
  pin : ∀ a o, B.pin a = some o → H a = some o ∧ a ∉ own
def Rep (c : Cfg) (B : Base) (ts : En) (vs : List (Option V)) (ρ : En) (σ : L2.St) (H : Hp) : Prop :=
  ∃ G o1 o2, OkB c B G H (o1 ++ o2) ∧ Sl c B G H ts vs o1 ∧ Sl c B G H ρ σ o2
section
variable {c : Cfg} {B : Base} {G G' H H' : Hp}
mutual
theorem Rp.mono (s : ∀ a o, G a = some o → G' a = some o) : ∀ {v : V} {d : D}, Rp c G v d → Rp c G' v d
  | _, _, .non => .non
  | _, _, .bl b => .bl b
  | _, _, .int i => .int i
  | _, _, .str x => .str x
  | _, _, .ty n => .ty n
  | _, _, .tup h k n => .tup (by
      rcases h with (h | ⟨o, h⟩) | h
      · exact .inl (.inl (s _ _ h))
      · exact .inl (.inr ⟨o, s _ _ h⟩)
      · exact .inr h) (RpAll.mono s k) (fun e => let ⟨o, h1, h2⟩ := n e; ⟨o, s _ _ h1, h2⟩)
  | _, _, .lst h k => .lst (s _ _ h) (RpAll.mono s k)
  | _, _, .scr h => .scr (Same.seq s h)
  | _, _, .ins h n k => .ins (s _ _ h) n (RpAll.mono s k)
  | _, _, .dct h k => .dct (s _ _ h) (RpAll.mono s k)
  | _, _, .dcx h o k1 k2 => .dcx (s _ _ h) o (RpAll.mono s k1) (RpAll.mono s k2)
  | _, _, .xo h => .xo (s _ _ h)
  | _, _, .exc h k => .exc h fun dd e => s _ _ (k dd e)
  | _, _, .rng h => .rng (s _ _ h)
  | _, _, .fu h => .fu (s _ _ h)
  | _, _, .fn h k => .fn (s _ _ h) (s _ _ k)
termination_by structural _ _ h => h
theorem RpAll.mono (s : ∀ a o, G a = some o → G' a = some o) : ∀ {vs : List V} {ds : List D}, RpAll c G vs ds → RpAll c G' vs ds
  | _, _, .nil => .nil
  | _, _, .cons h k => .cons (Rp.mono s h) (RpAll.mono s k)
termination_by structural _ _ h => h
end
theorem RpAll.length : ∀ {vs : List V} {ds : List D}, RpAll c G vs ds → vs.length = ds.length
  | _, _, .nil => rfl
  | _, _, .cons _ k => by rw [List.length_cons, List.length_cons, RpAll.length k]
theorem RpAll.get : ∀ {vs : List V} {ds : List D} {i : Nat} {d : D}, RpAll c G vs ds → ds[i]? = some d → ∃ v, vs[i]? = some v ∧ Rp c G v d
  | _, _, _, _, .nil, e => by simp at e
  | _, _, 0, _, .cons h _, e => by simp at e; subst e; exact ⟨_, rfl, h⟩
  | _, _, i + 1, _, .cons _ k, e => by
    obtain ⟨v, e1, e2⟩ := RpAll.get (i := i) k (by simpa using e)
    exact ⟨v, by simpa using e1, e2⟩
theorem RpAll.getV : ∀ {vs : List V} {ds : List D} {i : Nat} {v : V}, RpAll c G vs ds → vs[i]? = some v → ∃ d, ds[i]? = some d ∧ Rp c G v d
  | _, _, _, _, .nil, e => by simp at e
  | _, _, 0, _, .cons h _, e => by simp at e; subst e; exact ⟨_, rfl, h⟩
  | _, _, i + 1, _, .cons _ k, e => by
    obtain ⟨d, e1, e2⟩ := RpAll.getV (i := i) k (by simpa using e)
    exact ⟨d, by simpa using e1, e2⟩
theorem RpAll.app : ∀ {vs ws : List V} {ds es : List D}, RpAll c G vs ds → RpAll c G ws es → RpAll c G (vs ++ ws) (ds ++ es)
  | _, _, _, _, .nil, q => q
  | _, _, _, _, .cons h k, q => .cons h (RpAll.app k q)
theorem RpAll.take : ∀ {vs : List V} {ds : List D} (n : Nat), RpAll c G vs ds → RpAll c G (vs.take n) (ds.take n)
  | _, _, 0, _ => by simp only [List.take_zero]; exact .nil
  | _, _, _ + 1, .nil => .nil
  | _, _, n + 1, .cons h k => .cons h (RpAll.take n k)
theorem RpAll.drop : ∀ {vs : List V} {ds : List D} (n : Nat), RpAll c G vs ds → RpAll c G (vs.drop n) (ds.drop n)
  | _, _, 0, h => h
  | _, _, _ + 1, .nil => .nil
  | _, _, n + 1, .cons _ k => RpAll.drop n k
theorem RpAll.set : ∀ {vs : List V} {ds : List D} (i : Nat) {v : V} {d : D}, RpAll c G vs ds → Rp c G v d → RpAll c G (vs.set i v) (ds.set i d)
  | _, _, _, _, _, .nil, _ => .nil
  | _, _, 0, _, _, .cons _ k, q => .cons q k
  | _, _, i + 1, _, _, .cons h k, q => .cons h (RpAll.set i k q)
theorem RpAll.snoc {vs : List V} {ds : List D} {v : V} {d : D} (h : RpAll c G vs ds) (q : Rp c G v d) : RpAll c G (vs ++ [v]) (ds ++ [d]) := h.app (.cons q .nil)
theorem RpAll.of : ∀ {vs : List V} {ds : List D}, vs.length = ds.length → (∀ (i : Nat) (v : V), vs[i]? = some v → ∃ d, ds[i]? = some d ∧ Rp c G v d) → RpAll c G vs ds
  | [], [], _, _ => .nil
  | [], _ :: _, e, _ => by simp at e
  | _ :: _, [], e, _ => by simp at e
  | v :: vs, d :: ds, e, h => by
    obtain ⟨d', e1, h1⟩ := h 0 v rfl
    cases e1
    exact .cons h1 (RpAll.of (by simpa using e) fun i w hw => h (i + 1) w hw)
theorem RpAll.rev {vs : List V} {ds : List D} (h : RpAll c G vs ds) : RpAll c G vs.reverse ds.reverse := by
  refine .of (by simp [h.length]) fun i v e => ?_
  have hi : i < vs.length := by
    have := (List.getElem?_eq_some_iff.mp e).1
    simpa using this
  rw [List.getElem?_reverse hi] at e
  obtain ⟨d, e1, e2⟩ := h.getV e
  refine ⟨d, ?_, e2⟩
  rw [List.getElem?_reverse (by rw [← h.length]; exact hi), ← h.length]
  exact e1
theorem Cell.mono (s : ∀ a o, G a = some o → G' a = some o) {a : Addr} (e : H' a = H a) {x : D} (h : Cell c G H a x) : Cell c G' H' a x := by
  cases x with
  | lst ds =>
    obtain ⟨vs, h, k⟩ := h
    exact ⟨vs, e.trans h, k.mono s⟩
  | ins n ds =>
    obtain ⟨dx, fs, h, hn, k⟩ := h
    exact ⟨dx, fs, e.trans h, hn, k.mono s⟩
  | dct ks ds =>
    obtain ⟨o, kv, us, h, d, k1, k2⟩ := h
    exact ⟨o, kv, us, e.trans h, d, k1.mono s, k2.mono s⟩
  | xo b o =>
    obtain ⟨h1, h2, h3⟩ := h
    exact ⟨h1, e.trans h2, h3⟩
  | tup ds =>
    obtain ⟨vs, o, h, d, k⟩ := h
    exact ⟨vs, o, e.trans h, d, k.mono s⟩
  | _ => exact h.elim
theorem LsAll.mono (s : ∀ a o, G a = some o → G' a = some o) : ∀ {bs : List Addr} {dss : List (List D)}, (∀ p ∈ bs, H' p = H p) → LsAll c G H bs dss → LsAll c G' H' bs dss
  | _, _, _, .nil => .nil
  | _, _, e, .cons h k l => .cons ((e _ List.mem_cons_self).trans h) (k.mono s) (LsAll.mono s (fun p hp => e p (List.mem_cons_of_mem _ hp)) l)
theorem QCell.mono (s : ∀ a o, G a = some o → G' a = some o) {a : Addr} {ks : List D} {dss : List (List D)} {os : Owns} (e : ∀ p ∈ os, H' p = H p) (h : QCell c B G H a ks dss os) : QCell c B G' H' a ks dss os := by
  rcases h with ⟨kvs, bs, rfl, h1, h2, h3, h4⟩ | ⟨n, ds, p, dk, dv, dx, fs, b, o, kv, us, vs, rfl, rfl, rfl, h1, h2, h3, h4, h5, h6, h7, h8, h9⟩ | ⟨ks', o, kv, bs, rfl, rfl, h1, h2, h3, h4⟩
  · exact .inl ⟨kvs, bs, rfl, (e _ List.mem_cons_self).trans h1, h2, h3, h4.mono s fun p hp => e p (List.mem_cons_of_mem _ hp)⟩
  · exact .inr (.inl ⟨n, ds, p, dk, dv, dx, fs, b, o, kv, us, vs, rfl, rfl, rfl, (e _ List.mem_cons_self).trans h1, h2, h3, h4.mono s, (e _ (List.mem_cons_of_mem _ List.mem_cons_self)).trans h5, h6, h7.mono s, h8.mono s, h9⟩)
  · exact .inr (.inr ⟨ks', o, kv, bs, rfl, rfl, (e _ List.mem_cons_self).trans h1, h2, h3.mono s, h4.mono s fun p hp => e p (List.mem_cons_of_mem _ hp)⟩)
theorem nodup_sub {os own own' : Owns} (nd : (os ++ own).Nodup) (h : ∀ p ∈ own', p ∈ own) (n : own'.Nodup) : (os ++ own').Nodup := by
  rw [List.nodup_append] at nd ⊢
  exact ⟨nd.1, n, fun x hx y hy => nd.2.2 x hx y (h y hy)⟩
theorem Sl.mono (s : ∀ a o, G a = some o → G' a = some o) : ∀ {es : En} {vs : List (Option V)} {own : Owns}, (∀ p ∈ own, H' p = H p) → Sl c B G H es vs own → Sl c B G' H' es vs own
  | _, _, _, _, .nil => .nil
  | _, _, _, e, .skip k => .skip (Sl.mono s e k)
  | _, _, _, e, .d h k => .d (h.mono s) (Sl.mono s e k)
  | _, _, _, e, .o h hb k => .o (h.mono s (e _ List.mem_cons_self)) hb (Sl.mono s (fun p hp => e p (List.mem_cons_of_mem _ hp)) k)
  | _, _, _, e, .q h k => .q (h.mono s fun p hp => e p (List.mem_append_left _ hp)) (Sl.mono s (fun p hp => e p (List.mem_append_right _ hp)) k)
theorem Sl.length : ∀ {es : En} {vs : List (Option V)} {own : Owns}, Sl c B G H es vs own → es.length = vs.length
  | _, _, _, .nil => rfl
  | _, _, _, .skip k => by rw [List.length_cons, List.length_cons, Sl.length k]
  | _, _, _, .d _ k => by rw [List.length_cons, List.length_cons, Sl.length k]
  | _, _, _, .o _ _ k => by rw [List.length_cons, List.length_cons, Sl.length k]
  | _, _, _, .q _ k => by rw [List.length_cons, List.length_cons, Sl.length k]
theorem Sl.getD : ∀ {es : En} {vs : List (Option V)} {own : Owns} {i : Nat} {x : D}, Sl c B G H es vs own → es[i]? = some (some (.d x)) → ∃ v, vs[i]? = some (some v) ∧ Rp c G v x
  | _, _, _, _, _, .nil, e => by simp at e
  | _, _, _, 0, _, .skip k, e => by simp at e
  | _, _, _, 0, _, .d h k, e => by simp at e; subst e; exact ⟨_, rfl, h⟩
  | _, _, _, 0, _, .o h _ k, e => by simp at e
  | _, _, _, i + 1, _, .skip k, e => Sl.getD (i := i) k (by simpa using e)
  | _, _, _, i + 1, _, .d h k, e => Sl.getD (i := i) k (by simpa using e)
  | _, _, _, i + 1, _, .o h _ k, e => Sl.getD (i := i) k (by simpa using e)
  | _, _, _, 0, _, .q h k, e => by simp at e
  | _, _, _, i + 1, _, .q _ k, e => Sl.getD (i := i) k (by simpa using e)
theorem Sl.getO : ∀ {es : En} {vs : List (Option V)} {own : Owns} {i : Nat} {b : Option Nat} {x : D}, Sl c B G H es vs own → es[i]? = some (some (.o b x)) → ∃ a, vs[i]? = some (some (.ref a)) ∧ Cell c G H a x ∧ a ∈ own ∧ ∀ p, b = some p → B.at_ p = some a
  | _, _, _, _, _, _, .nil, e => by simp at e
  | _, _, _, 0, _, _, .skip k, e => by simp at e
  | _, _, _, 0, _, _, .d h k, e => by simp at e
  | _, _, _, 0, _, _, .o h hb k, e => by simp at e; obtain ⟨rfl, rfl⟩ := e; exact ⟨_, rfl, h, List.mem_cons_self, hb⟩
  | _, _, _, i + 1, _, _, .skip k, e => Sl.getO (i := i) k (by simpa using e)
  | _, _, _, i + 1, _, _, .d h k, e => Sl.getO (i := i) k (by simpa using e)
  | _, _, _, i + 1, _, _, .o h _ k, e => by
    obtain ⟨a, h1, h2, h3, h4⟩ := Sl.getO (i := i) k (by simpa using e)
    exact ⟨a, h1, h2, List.mem_cons_of_mem _ h3, h4⟩
  | _, _, _, 0, _, _, .q h k, e => by simp at e
  | _, _, _, i + 1, _, _, .q _ k, e => by
    obtain ⟨a, h1, h2, h3, h4⟩ := Sl.getO (i := i) k (by simpa using e)
    exact ⟨a, h1, h2, List.mem_append_right _ h3, h4⟩
/-- one entry: its owned cell, if it has one -/
inductive En1 (c : Cfg) (B : Base) (G H : Hp) : S → V → Owns → Prop
  | d {v : V} {x : D} : Rp c G v x → En1 c B G H (.d x) v []
  | o {a : Addr} {b : Option Nat} {x : D} : Cell c G H a x → (∀ p, b = some p → B.at_ p = some a) → En1 c B G H (.o b x) (.ref a) [a]
  | q {a : Addr} {ks : List D} {dss : List (List D)} {os : Owns} : QCell c B G H a ks dss os → En1 c B G H (.q ks dss) (.ref a) os
theorem Sl.one {s : S} {v : V} {os : Owns} {es : En} {vs : List (Option V)} {own : Owns} (h : En1 c B G H s v os) (k : Sl c B G H es vs own) : Sl c B G H (some s :: es) (some v :: vs) (os ++ own) := by
  cases h with
  | d h => exact .d h k
  | o h hb => exact .o h hb k
  | q h => exact .q h k
theorem Sl.unone {s : S} {v : Option V} {es : En} {vs : List (Option V)} {own : Owns} (k : Sl c B G H (some s :: es) (v :: vs) own) : ∃ w os own', v = some w ∧ En1 c B G H s w os ∧ own = os ++ own' ∧ Sl c B G H es vs own' := by
  cases k with
  | d h k => exact ⟨_, [], _, rfl, .d h, rfl, k⟩
  | o h hb k => exact ⟨_, [_], _, rfl, .o h hb, rfl, k⟩
  | q h k => exact ⟨_, _, _, rfl, .q h, rfl, k⟩
/-- a slot is set to an entry -/
theorem Sl.set : ∀ {es : En} {vs : List (Option V)} {own : Owns} (i : Nat) {s : S} {v : V} {os : Owns}, Sl c B G H es vs own → En1 c B G H s v os →
    ∃ own', Sl c B G H (es.set i (some s)) (vs.set i (some v)) own' ∧ (∀ p ∈ own', p ∈ os ∨ p ∈ own) ∧ ((os ++ own).Nodup → own'.Nodup)
  | _, _, _, _, _, _, os, .nil, _ => ⟨[], .nil, fun _ h => by simp at h, fun _ => by simp⟩
  | _, _, own, 0, _, _, os, .skip k, e => ⟨os ++ own, Sl.one e k, fun p hp => List.mem_append.mp hp, id⟩
  | _, _, own, 0, _, _, os, .d _ k, e => ⟨os ++ own, Sl.one e k, fun p hp => List.mem_append.mp hp, id⟩
  | _, _, a :: own, 0, _, _, os, .o _ _ k, e => ⟨os ++ own, Sl.one e k, fun p hp => (List.mem_append.mp hp).imp id (List.mem_cons_of_mem _), fun nd => nd.sublist (List.Sublist.append_left (List.sublist_cons_self _ _) _)⟩
  | _, _, _, i + 1, _, _, os, .skip k, e => by
    obtain ⟨own', h1, h2, h3⟩ := Sl.set i k e
    exact ⟨own', .skip h1, h2, h3⟩
  | _, _, _, i + 1, _, _, os, .d h k, e => by
    obtain ⟨own', h1, h2, h3⟩ := Sl.set i k e
    exact ⟨own', .d h h1, h2, h3⟩
  | _, _, a :: own, i + 1, _, _, os, .o h hb k, e => by
    obtain ⟨own', h1, h2, h3⟩ := Sl.set i k e
    refine ⟨a :: own', .o h hb h1, fun p hp => ?_, fun nd => ?_⟩
    · rcases List.mem_cons.mp hp with rfl | hp
      · exact .inr List.mem_cons_self
      · exact (h2 p hp).imp id (List.mem_cons_of_mem _)
    · rw [List.nodup_append] at nd
      obtain ⟨n1, n2, n3⟩ := nd
      obtain ⟨n4, n5⟩ := List.nodup_cons.mp n2
      rw [List.nodup_cons]
      refine ⟨fun hm => ?_, h3 ?_⟩
      · rcases h2 a hm with q | q
        · exact n3 a q a List.mem_cons_self rfl
        · exact n4 q
      · rw [List.nodup_append]
        exact ⟨n1, n5, fun x hx y hy => n3 x hx y (List.mem_cons_of_mem _ hy)⟩
  | _, _, _, 0, _, _, os, @Sl.q _ _ _ _ _ _ _ _ _ qs own _ k, e => ⟨os ++ own, Sl.one e k, fun p hp => (List.mem_append.mp hp).imp id (List.mem_append_right _), fun nd => nd.sublist (List.Sublist.append_left (List.sublist_append_right _ _) _)⟩
  | _, _, _, i + 1, _, _, os, @Sl.q _ _ _ _ _ _ _ _ _ qs own h k, e => by
    obtain ⟨own', h1, h2, h3⟩ := Sl.set i k e
    refine ⟨qs ++ own', .q h h1, fun p hp => ?_, fun nd => ?_⟩
    · rcases List.mem_append.mp hp with hp | hp
      · exact .inr (List.mem_append_left _ hp)
      · exact (h2 p hp).imp id (List.mem_append_right _)
    · rw [List.nodup_append] at nd
      obtain ⟨n1, n2, n3⟩ := nd
      rw [List.nodup_append] at n2 ⊢
      obtain ⟨n4, n5, n6⟩ := n2
      refine ⟨n4, h3 ?_, fun x hx y hy => ?_⟩
      · rw [List.nodup_append]
        exact ⟨n1, n5, fun x hx y hy => n3 x hx y (List.mem_append_right _ hy)⟩
      · rcases h2 y hy with z | z
        · exact fun e => n3 y z x (List.mem_append_left _ hx) e.symm
        · exact n6 x hx y z
/-- a slot is forgotten -/
theorem Sl.forget : ∀ {es : En} {vs : List (Option V)} {own : Owns} (i : Nat) (w : Option V), Sl c B G H es vs own →
    ∃ own', Sl c B G H (es.set i none) (vs.set i w) own' ∧ (∀ p ∈ own', p ∈ own) ∧ (own.Nodup → own'.Nodup)
  | _, _, _, _, _, .nil => ⟨[], .nil, fun _ h => h, id⟩
  | _, _, own, 0, _, .skip k => ⟨own, .skip k, fun _ h => h, id⟩
  | _, _, own, 0, _, .d _ k => ⟨own, .skip k, fun _ h => h, id⟩
  | _, _, a :: own, 0, _, .o _ _ k => ⟨own, .skip k, fun p hp => List.mem_cons_of_mem _ hp, fun nd => (List.nodup_cons.mp nd).2⟩
  | _, _, _, i + 1, w, .skip k => by
    obtain ⟨own', h1, h2, h3⟩ := Sl.forget i w k
    exact ⟨own', .skip h1, h2, h3⟩
  | _, _, _, i + 1, w, .d h k => by
    obtain ⟨own', h1, h2, h3⟩ := Sl.forget i w k
    exact ⟨own', .d h h1, h2, h3⟩
  | _, _, a :: own, i + 1, w, .o h hb k => by
    obtain ⟨own', h1, h2, h3⟩ := Sl.forget i w k
    refine ⟨a :: own', .o h hb h1, fun p hp => ?_, fun nd => ?_⟩
    · rcases List.mem_cons.mp hp with rfl | hp
      · exact List.mem_cons_self
      · exact List.mem_cons_of_mem _ (h2 p hp)
    · rw [List.nodup_cons] at nd ⊢
      exact ⟨fun hm => nd.1 (h2 a hm), h3 nd.2⟩
  | _, _, _, 0, _, @Sl.q _ _ _ _ _ _ _ _ _ qs own _ k => ⟨own, .skip k, fun p hp => List.mem_append_right _ hp, fun nd => (List.nodup_append.mp nd).2.1⟩
  | _, _, _, i + 1, w, @Sl.q _ _ _ _ _ _ _ _ _ qs own h k => by
    obtain ⟨own', h1, h2, h3⟩ := Sl.forget i w k
    refine ⟨qs ++ own', .q h h1, fun p hp => ?_, fun nd => nodup_sub nd h2 (h3 (List.nodup_append.mp nd).2.1)⟩
    rcases List.mem_append.mp hp with hp | hp
    · exact List.mem_append_left _ hp
    · exact List.mem_append_right _ (h2 p hp)
end
section
variable {c : Cfg} {B : Base} {G H H' : Hp} {own own' : Owns} {ts : En} {vs : List (Option V)} {ρ : En} {σ : L2.St}
theorem OkB.subO (k : OkB c B G H own) (h1 : ∀ p ∈ own', p ∈ own) (h2 : own'.Nodup) : OkB c B G H own' := ⟨k.sub, k.notbl, h2, fun p hp => k.out p (h1 p hp), k.tabs, k.pint, fun a o e => ⟨(k.pin a o e).1, fun hm => (k.pin a o e).2 (h1 a hm)⟩⟩
theorem tabs_new {T : List (Addr × Str)} {p : Addr} {o : HO} (t : Tabs T H) (hp : H p = none) : Tabs T (upd H p o) := fun q hq => by
  obtain ⟨ps, h1, h2, h3⟩ := t q hq
  refine ⟨ps, by rw [upd_ne (ne_of_none h1 hp)]; exact h1, h2, fun pos cv e => ?_⟩
  obtain ⟨cc, e1, e2⟩ := h3 pos cv e
  exact ⟨cc, e1, by rw [upd_ne (ne_of_none e2 hp)]; exact e2⟩
theorem rep_get (o : Obj) (n : Nat) (h : ∃ es ep, o.data = .dict es ep) (b : Nat) (hb : b < n) : ({ objs := Array.replicate n o } : Heap).get? b = some o := by
  obtain ⟨cl, di, da, sl⟩ := o
  obtain ⟨es, ep, h⟩ := h
  cases h
  unfold Heap.get?
  simp only [Array.getElem?_replicate, hb, if_true]
theorem xdO_code {a q : Addr} {o : Obj} {es : Array DictEntry} {ep : Nat} {x : Str} (h : o.data = .dict es ep) : xdO a o ≠ CodeO q x := fun z => by
  unfold xdO CodeO at z
  injection z with z
  have g1 := rep_get o (a + q + 1) ⟨es, ep, h⟩ a (by omega)
  have g2 := rep_get o (a + q + 1) ⟨es, ep, h⟩ q (by omega)
  have z1 := congrFun z ({ objs := Array.replicate (a + q + 1) o } : Heap)
  have g3 := z1.mp g1
  obtain ⟨oc, vs, t, e1, e2, _⟩ := g3
  rw [g2] at e1
  cases e1
  rw [h] at e2
  cases e2
theorem isCell_tbl {u : HO} (h : isCell u) (ps : Array Value) : u ≠ .tbl ps := fun z => by
  cases h <;> cases z
theorem isCell_code {u : HO} {a : Addr} {q : Str} (h : isCell u) : u ≠ CodeO a q := fun z => by
  cases h with
  | xd a o es ep h => exact xdO_code h z
  | lst => unfold CodeO at z; cases z
  | ins => unfold CodeO at z; cases z
  | dK => unfold CodeO at z; cases z
  | frz => unfold CodeO at z; cases z
theorem tabs_put {T : List (Addr × Str)} {p : Addr} {u o : HO} (t : Tabs T H) (hp : H p = some u) (n : isCell u) : Tabs T (upd H p o) := fun q hq => by
  obtain ⟨ps, h1, h2, h3⟩ := t q hq
  refine ⟨ps, ?_, h2, fun pos cv e => ?_⟩
  · have : q.1 ≠ p := fun z => by
      rw [z, hp] at h1
      exact isCell_tbl n ps (Option.some.inj h1)
    rw [upd_ne this]
    exact h1
  · obtain ⟨cc, e1, e2⟩ := h3 pos cv e
    refine ⟨cc, e1, ?_⟩
    have : cc ≠ p := fun z => by
      rw [z, hp] at e2
      exact isCell_code n (Option.some.inj e2)
    rw [upd_ne this]
    exact e2
theorem OkB.gnone (k : OkB c B G H own) {p : Addr} (hp : H p = none) : G p = none := by
  cases e : G p with
  | none => rfl
  | some o =>
    rw [k.sub p o e] at hp
    cases hp
theorem OkB.alloc (k : OkB c B G H own) {p : Addr} {o : HO} (hp : H p = none) (ho : isTbl o = false) : OkB c B (upd G p o) (upd H p o) own := by
  have gp := k.gnone hp
  refine ⟨fun a u e => ?_, fun a u e => ?_, k.nd, fun q hq => ?_, tabs_new k.tabs hp, k.pint, fun a u e => ⟨by rw [upd_ne (ne_of_none (k.pin a u e).1 hp)]; exact (k.pin a u e).1, (k.pin a u e).2⟩⟩
  · by_cases ha : a = p
    · subst ha
      rw [upd_same] at e ⊢
      exact e
    · rw [upd_ne ha] at e ⊢
      exact k.sub a u e
  · by_cases ha : a = p
    · subst ha
      rw [upd_same] at e
      cases e
      exact ho
    · rw [upd_ne ha] at e
      exact k.notbl a u e
  · obtain ⟨h1, h2⟩ := k.out q hq
    have ha : q ≠ p := fun z => h2 (by rw [z]; exact hp)
    rw [upd_ne ha, upd_ne ha]
    exact ⟨h1, h2⟩
/-- a new cell that may be changed -/
theorem OkB.allocO (k : OkB c B G H own) {p : Addr} {o : HO} (hp : H p = none) : OkB c B G (upd H p o) (p :: own) := by
  have gp := k.gnone hp
  refine ⟨fun a u e => ?_, k.notbl, ?_, fun q hq => ?_, tabs_new k.tabs hp, k.pint, fun a u e => ⟨by rw [upd_ne (ne_of_none (k.pin a u e).1 hp)]; exact (k.pin a u e).1, fun hm => ?_⟩⟩
  · have ha : a ≠ p := fun z => by rw [z, gp] at e; cases e
    rw [upd_ne ha]
    exact k.sub a u e
  · rw [List.nodup_cons]
    exact ⟨fun hm => (k.out p hm).2 hp, k.nd⟩
  · rcases List.mem_cons.mp hq with rfl | hq
    · exact ⟨gp, by rw [upd_same]; simp⟩
    · obtain ⟨h1, h2⟩ := k.out q hq
      have ha : q ≠ p := fun z => h2 (by rw [z]; exact hp)
      rw [upd_ne ha]
      exact ⟨h1, h2⟩
  · rcases List.mem_cons.mp hm with rfl | hm
    · rw [(k.pin _ u e).1] at hp
      cases hp
    · exact (k.pin a u e).2 hm
/-- an owned cell stays from here on -/
theorem OkB.freeze {p : Addr} {o : HO} (k : OkB c B G H own) (hp : p ∈ own) (e : H p = some o) (ho : isTbl o = false) (h1 : ∀ q ∈ own', q ∈ own ∧ q ≠ p) (h2 : own'.Nodup) : OkB c B (upd G p o) H own' := by
  obtain ⟨gp, _⟩ := k.out _ hp
  refine ⟨fun a u e' => ?_, fun a u e' => ?_, h2, fun q hq => ?_, k.tabs, k.pint, fun a u e => ⟨(k.pin a u e).1, fun hm => (k.pin a u e).2 (h1 a hm).1⟩⟩
  · by_cases ha : a = p
    · subst ha
      rw [upd_same] at e'
      rw [e, ← e']
    · rw [upd_ne ha] at e'
      exact k.sub a u e'
  · by_cases ha : a = p
    · subst ha
      rw [upd_same] at e'
      cases e'
      exact ho
    · rw [upd_ne ha] at e'
      exact k.notbl a u e'
  · obtain ⟨m, ne⟩ := h1 q hq
    obtain ⟨h1, h2⟩ := k.out q m
    rw [upd_ne ne]
    exact ⟨h1, h2⟩
/-- an owned cell is written -/
theorem OkB.write {p : Addr} {u o : HO} (k : OkB c B G H own) (hp : p ∈ own) (e : H p = some u) (hu : isCell u) : OkB c B G (upd H p o) own := by
  obtain ⟨gp, _⟩ := k.out _ hp
  refine ⟨fun a u' e' => ?_, k.notbl, k.nd, fun q hq => ?_, tabs_put k.tabs e hu, k.pint, fun a u' e' => ⟨by rw [upd_ne fun z : a = p => (k.pin a u' e').2 (z ▸ hp)]; exact (k.pin a u' e').1, (k.pin a u' e').2⟩⟩
  · have ha : a ≠ p := fun z => by rw [z, gp] at e'; cases e'
    rw [upd_ne ha]
    exact k.sub a u' e'
  · obtain ⟨h1, h2⟩ := k.out q hq
    refine ⟨h1, ?_⟩
    by_cases ha : q = p
    · rw [ha, upd_same]
      simp
    · rw [upd_ne ha]
      exact h2
end
end Fx
/-! what a reading makes of a state -/
namespace Fx
open PySem PySem.Spec PyProof.Rows L2
open LamX (Tabs TabS TabB ExtN CodeO codeO_ne)
/-- data that wait, the last one first -/
abbrev tmp (ds : List D) : En := ds.reverse.map fun x => some (S.d x)
abbrev tmv (us : List V) : List (Option V) := us.reverse.map some
section
variable {c : Cfg} {B : Base} {G H H' : Hp} {own own' : Owns} {ts : En} {vs : List (Option V)} {ρ : En} {σ : L2.St}
theorem Sl.tmpR : ∀ {ds : List D} {us : List V} {own : Owns}, us.length = ds.length → Sl c B G H (ds.map (fun x => some (S.d x)) ++ ts) (us.map some ++ vs) own → RpAll c G us ds ∧ Sl c B G H ts vs own
  | [], [], _, _, h => ⟨.nil, h⟩
  | [], _ :: _, _, e, _ => by simp at e
  | _ :: _, [], _, e, _ => by simp at e
  | x :: ds, u :: us, _, e, h => by
    cases h with
    | d h k =>
      obtain ⟨h1, h2⟩ := Sl.tmpR (by simpa using e) k
      exact ⟨.cons h h1, h2⟩
theorem Sl.tmp {ds : List D} {us : List V} (e : us.length = ds.length) (h : Sl c B G H (tmp ds ++ ts) (tmv us ++ vs) own) : RpAll c G us ds ∧ Sl c B G H ts vs own := by
  obtain ⟨h1, h2⟩ := Sl.tmpR (by simpa using e) h
  refine ⟨?_, h2⟩
  have := h1.rev
  simpa using this
theorem upd_sub {p : Addr} {o : HO} (h : G p = none) : ∀ a u, G a = some u → upd G p o a = some u := fun a u e => by
  rw [upd_ne (ne_of_none e h)]
  exact e
/-- the owned cells stay behind a new object -/
theorem own_new {p : Addr} {o : HO} (k : OkB c B G H own) (hp : H p = none) : ∀ q ∈ own, upd H p o q = H q := fun q hq => by
  have ha : q ≠ p := fun z => (k.out q hq).2 (by rw [z]; exact hp)
  rw [upd_ne ha]
/-- a new object of what waits -/
theorem Rep.new {ds : List D} {us : List V} {p : Addr} {o : HO} {x : D} (r : Rep c B (tmp ds ++ ts) (tmv us ++ vs) ρ σ H) (hl : us.length = ds.length) (hp : H p = none) (ho : isTbl o = false) (hx : ∀ G', G' p = some o → RpAll c G' us ds → Rp c G' (.ref p) x) :
    Rep c B (some (.d x) :: ts) (some (.ref p) :: vs) ρ σ (upd H p o) := by
  obtain ⟨G, o1, o2, k, h1, h2⟩ := r
  obtain ⟨a1, a2⟩ := h1.tmp hl
  have gp := k.gnone hp
  have ow := own_new (o := o) k hp
  exact ⟨upd G p o, o1, o2, k.alloc hp ho, .d (hx _ upd_same (a1.mono (upd_sub gp))) (a2.mono (upd_sub gp) fun q hq => ow q (List.mem_append_left _ hq)), h2.mono (upd_sub gp) fun q hq => ow q (List.mem_append_right _ hq)⟩
theorem Rep.newO {ds : List D} {us : List V} {p : Addr} {o : HO} {x : D} (r : Rep c B (tmp ds ++ ts) (tmv us ++ vs) ρ σ H) (hl : us.length = ds.length) (hp : H p = none) (hx : ∀ G H', H' p = some o → RpAll c G us ds → Cell c G H' p x) :
    Rep c B (some (.o none x) :: ts) (some (.ref p) :: vs) ρ σ (upd H p o) := by
  obtain ⟨G, o1, o2, k, h1, h2⟩ := r
  obtain ⟨a1, a2⟩ := h1.tmp hl
  have ow := own_new (o := o) k hp
  refine ⟨G, p :: o1, o2, k.allocO hp, .o (hx _ _ upd_same a1) (fun _ e => nomatch e) (a2.mono (fun _ _ e => e) fun q hq => ow q (List.mem_append_left _ hq)), h2.mono (fun _ _ e => e) fun q hq => ow q (List.mem_append_right _ hq)⟩
/-- what waits gives a value, the heap as it is -/
theorem Rep.repl {ds : List D} {us : List V} {v : V} {x : D} (r : Rep c B (tmp ds ++ ts) (tmv us ++ vs) ρ σ H) (hl : us.length = ds.length) (hx : ∀ G, RpAll c G us ds → Rp c G v x) : Rep c B (some (.d x) :: ts) (some v :: vs) ρ σ H := by
  obtain ⟨G, o1, o2, k, h1, h2⟩ := r
  obtain ⟨a1, a2⟩ := h1.tmp hl
  exact ⟨G, o1, o2, k, .d (hx _ a1) a2, h2⟩
/-- what may be read of what waits -/
theorem Rep.read {ds : List D} {us : List V} (r : Rep c B (tmp ds ++ ts) (tmv us ++ vs) ρ σ H) (hl : us.length = ds.length) : ∃ G, (∀ a o, G a = some o → H a = some o) ∧ RpAll c G us ds := by
  obtain ⟨G, o1, o2, k, h1, h2⟩ := r
  exact ⟨G, k.sub, (h1.tmp hl).1⟩
theorem Rep.drop {s : Option S} {v : Option V} (r : Rep c B (s :: ts) (v :: vs) ρ σ H) : Rep c B ts vs ρ σ H := by
  obtain ⟨G, o1, o2, k, h1, h2⟩ := r
  cases h1 with
  | skip h => exact ⟨G, _, o2, k, h, h2⟩
  | d _ h => exact ⟨G, _, o2, k, h, h2⟩
  | o _ _ h =>
    refine ⟨G, _, o2, k.subO (fun p hp => List.mem_cons_of_mem _ hp) ?_, h, h2⟩
    have := k.nd
    rw [List.cons_append, List.nodup_cons] at this
    exact this.2
  | q _ h =>
    refine ⟨G, _, o2, k.subO (fun p hp => ?_) ?_, h, h2⟩
    · rw [List.append_assoc]
      exact List.mem_append_right _ hp
    · have := k.nd
      rw [List.append_assoc] at this
      exact (List.nodup_append.mp this).2.1
theorem Rep.dropN {ds : List D} {us : List V} (hl : us.length = ds.length) (r : Rep c B (tmp ds ++ ts) (tmv us ++ vs) ρ σ H) : Rep c B ts vs ρ σ H := by
  obtain ⟨G, o1, o2, k, h1, h2⟩ := r
  exact ⟨G, o1, o2, k, (h1.tmp hl).2, h2⟩
def canFz : D → Bool
  | .lst _ => true
  | .dct _ _ => true
  | _ => false
theorem Cell.fz {a : Addr} {x : D} (hx : canFz x = true) (hc : Cell c G H a x) : ∃ o, H a = some o ∧ isTbl o = false ∧ ∀ G', (∀ b u, G b = some u → G' b = some u) → G' a = some o → Rp c G' (.ref a) x := by
  cases x with
  | lst ds =>
    obtain ⟨vs, h, k⟩ := hc
    exact ⟨_, h, rfl, fun G' s e => .lst e (k.mono s)⟩
  | dct ks ds =>
    obtain ⟨o, kv, us, h, d, k1, k2⟩ := hc
    exact ⟨_, h, rfl, fun G' s e => .dcx e d (k1.mono s) (k2.mono s)⟩
  | _ => cases hx
/-- a new cell stays from here on -/
theorem Rep.fz {x : D} {v : V} (hx : canFz x = true) (r : Rep c B (some (.o none x) :: ts) (some v :: vs) ρ σ H) : Rep c B (some (.d x) :: ts) (some v :: vs) ρ σ H := by
  obtain ⟨G, o1, o2, k, h1, h2⟩ := r
  cases h1 with
  | @o a _ _ _ _ own hc hb h =>
    obtain ⟨o, e, ho, f⟩ := hc.fz hx
    have nd := k.nd
    rw [List.cons_append, List.nodup_cons] at nd
    have gp := (k.out _ (List.mem_append_left _ List.mem_cons_self)).1
    exact ⟨upd G a o, own, o2, k.freeze (List.mem_append_left _ List.mem_cons_self) e ho (fun q hq => ⟨List.mem_cons_of_mem _ hq, fun z => nd.1 (z ▸ hq)⟩) nd.2, .d (f _ (upd_sub gp) upd_same) (h.mono (upd_sub gp) fun _ _ => rfl), h2.mono (upd_sub gp) fun _ _ => rfl⟩
/-- a name's cell stays from here on -/
theorem Sl.fzAt : ∀ {es : En} {vs : List (Option V)} {own : Owns} {i : Nat} {b : Option Nat} {x : D} {a : Addr}, own.Nodup → Sl c B G H es vs own → es[i]? = some (some (.o b x)) → vs[i]? = some (some (.ref a)) → Rp c G (.ref a) x →
    ∃ own', Sl c B G H (es.set i (some (.d x))) vs own' ∧ (∀ q ∈ own', q ∈ own ∧ q ≠ a) ∧ own'.Nodup := by
  intro es
  induction es with
  | nil => intro vs own i b x a _ _ e; simp at e
  | cons s es ih =>
    intro vs own i b x a nd h e ev hr
    cases h with
    | skip k =>
      cases i with
      | zero => simp at e
      | succ i =>
        obtain ⟨own', h1, h2, h3⟩ := ih nd k (by simpa using e) (by simpa using ev) hr
        exact ⟨own', .skip h1, h2, h3⟩
    | d hh k =>
      cases i with
      | zero => simp at e
      | succ i =>
        obtain ⟨own', h1, h2, h3⟩ := ih nd k (by simpa using e) (by simpa using ev) hr
        exact ⟨own', .d hh h1, h2, h3⟩
    | @o a' b' x' _ _ own hh hb k =>
      rw [List.nodup_cons] at nd
      cases i with
      | zero =>
        simp at e ev
        obtain ⟨rfl, rfl⟩ := e
        subst ev
        exact ⟨own, .d hr k, fun q hq => ⟨List.mem_cons_of_mem _ hq, fun z => nd.1 (z ▸ hq)⟩, nd.2⟩
      | succ i =>
        have e' : es[i]? = some (some (.o b x)) := by simpa using e
        obtain ⟨a2, e2, _, m2, _⟩ := k.getO e'
        obtain ⟨own', h1, h2, h3⟩ := ih nd.2 k e' (by simpa using ev) hr
        have ea : a2 = a := by
          have : _ = some (some (V.ref a)) := (by simpa using ev)
          rw [this] at e2
          cases e2
          rfl
        subst ea
        refine ⟨a' :: own', .o hh hb h1, fun q hq => ?_, ?_⟩
        · rcases List.mem_cons.mp hq with rfl | hq
          · exact ⟨List.mem_cons_self, fun z => nd.1 (z ▸ m2)⟩
          · exact ⟨List.mem_cons_of_mem _ (h2 q hq).1, (h2 q hq).2⟩
        · rw [List.nodup_cons]
          exact ⟨fun hm => nd.1 (h2 a' hm).1, h3⟩
    | @q a' ks' dss' _ _ qs own hh k =>
      cases i with
      | zero => simp at e
      | succ i =>
        have e' : es[i]? = some (some (.o b x)) := by simpa using e
        obtain ⟨a2, e2, _, m2, _⟩ := k.getO e'
        have n2 := (List.nodup_append.mp nd)
        obtain ⟨own', h1, h2, h3⟩ := ih n2.2.1 k e' (by simpa using ev) hr
        have ea : a2 = a := by
          have : _ = some (some (V.ref a)) := (by simpa using ev)
          rw [this] at e2
          cases e2
          rfl
        subst ea
        refine ⟨qs ++ own', .q hh h1, fun q hq => ?_, nodup_sub nd (fun p hp => (h2 p hp).1) h3⟩
        rcases List.mem_append.mp hq with hq | hq
        · exact ⟨List.mem_append_left _ hq, fun z => n2.2.2 q hq a2 m2 z⟩
        · exact ⟨List.mem_append_right _ (h2 q hq).1, (h2 q hq).2⟩
theorem Rep.fzAt {i : Nat} {b : Option Nat} {x : D} (hx : canFz x = true) (e : ρ[i]? = some (some (.o b x))) (r : Rep c B ts vs ρ σ H) : Rep c B ts vs (ρ.set i (some (.d x))) σ H := by
  obtain ⟨G, o1, o2, k, h1, h2⟩ := r
  obtain ⟨a, ev, hc, hm, _⟩ := h2.getO e
  obtain ⟨o, eo, ho, f⟩ := hc.fz hx
  have gp := (k.out _ (List.mem_append_right _ hm)).1
  have nd := k.nd
  rw [List.nodup_append] at nd
  obtain ⟨n1, n2, n3⟩ := nd
  obtain ⟨own', g1, g2, g3⟩ := (h2.mono (upd_sub (o := o) gp) (fun _ _ => rfl) (H' := H)).fzAt n2 e ev (f _ (upd_sub gp) upd_same)
  refine ⟨upd G a o, o1, own', k.freeze (List.mem_append_right _ hm) eo ho (fun q hq => ?_) ?_, h1.mono (upd_sub gp) fun _ _ => rfl, g1⟩
  · rcases List.mem_append.mp hq with hq | hq
    · exact ⟨List.mem_append_left _ hq, fun z => n3 q hq a hm z⟩
    · exact ⟨List.mem_append_right _ (g2 q hq).1, (g2 q hq).2⟩
  · rw [List.nodup_append]
    exact ⟨n1, g3, fun x hx y hy => n3 x hx y (g2 y hy).1⟩
theorem Rep.var {i : Nat} {x : D} (e : ρ[i]? = some (some (.d x))) (r : Rep c B ts vs ρ σ H) : ∃ v, σ[i]? = some (some v) ∧ Rep c B (some (.d x) :: ts) (some v :: vs) ρ σ H := by
  obtain ⟨G, o1, o2, k, h1, h2⟩ := r
  obtain ⟨v, e1, hr⟩ := h2.getD e
  exact ⟨v, e1, G, o1, o2, k, .d hr h1, h2⟩
theorem Rep.varO {i : Nat} {b : Option Nat} {x : D} (e : ρ[i]? = some (some (.o b x))) (r : Rep c B ts vs ρ σ H) : ∃ a, σ[i]? = some (some (.ref a)) ∧ ∃ G, (∀ a o, G a = some o → H a = some o) ∧ Cell c G H a x := by
  obtain ⟨G, o1, o2, k, h1, h2⟩ := r
  obtain ⟨a, e1, hr, _⟩ := h2.getO e
  exact ⟨a, e1, G, k.sub, hr⟩
theorem Sl.getQ : ∀ {es : En} {vs : List (Option V)} {own : Owns} {i : Nat} {ks : List D} {dss : List (List D)}, Sl c B G H es vs own → es[i]? = some (some (.q ks dss)) → ∃ a os, vs[i]? = some (some (.ref a)) ∧ QCell c B G H a ks dss os ∧ ∀ p ∈ os, p ∈ own
  | _, _, _, _, _, _, .nil, e => by simp at e
  | _, _, _, 0, _, _, .skip k, e => by simp at e
  | _, _, _, 0, _, _, .d h k, e => by simp at e
  | _, _, _, 0, _, _, .o h _ k, e => by simp at e
  | _, _, _, 0, _, _, .q h k, e => by simp at e; obtain ⟨rfl, rfl⟩ := e; exact ⟨_, _, rfl, h, fun p hp => List.mem_append_left _ hp⟩
  | _, _, _, i + 1, _, _, .skip k, e => Sl.getQ (i := i) k (by simpa using e)
  | _, _, _, i + 1, _, _, .d h k, e => Sl.getQ (i := i) k (by simpa using e)
  | _, _, _, i + 1, _, _, .o h _ k, e => by
    obtain ⟨a, os, h1, h2, h3⟩ := Sl.getQ (i := i) k (by simpa using e)
    exact ⟨a, os, h1, h2, fun p hp => List.mem_cons_of_mem _ (h3 p hp)⟩
  | _, _, _, i + 1, _, _, .q h k, e => by
    obtain ⟨a, os, h1, h2, h3⟩ := Sl.getQ (i := i) k (by simpa using e)
    exact ⟨a, os, h1, h2, fun p hp => List.mem_append_right _ (h3 p hp)⟩
theorem Rep.varQ {i : Nat} {ks : List D} {dss : List (List D)} (e : ρ[i]? = some (some (.q ks dss))) (r : Rep c B ts vs ρ σ H) : ∃ a, σ[i]? = some (some (.ref a)) ∧ ∃ G os, (∀ a o, G a = some o → H a = some o) ∧ QCell c B G H a ks dss os := by
  obtain ⟨G, o1, o2, k, h1, h2⟩ := r
  obtain ⟨a, os, e1, hr, _⟩ := h2.getQ e
  exact ⟨a, e1, G, os, k.sub, hr⟩
/-- a value is stored -/
theorem Rep.set {i : Nat} {s : S} {v : V} (r : Rep c B (some s :: ts) (some v :: vs) ρ σ H) : Rep c B ts vs (ρ.set i (some s)) (σ.set i (some v)) H := by
  obtain ⟨G, o1, o2, k, h1, h2⟩ := r
  obtain ⟨w, os, o1', ew, e1, rfl, h1'⟩ := h1.unone
  cases ew
  obtain ⟨own', g1, g2, g3⟩ := h2.set i e1
  have nd := k.nd
  rw [List.append_assoc, List.nodup_append, List.nodup_append] at nd
  obtain ⟨n1, ⟨n2, n4, n5⟩, n3⟩ := nd
  refine ⟨G, o1', own', k.subO (fun p hp => ?_) ?_, h1', g1⟩
  · rcases List.mem_append.mp hp with hp | hp
    · exact List.mem_append_left _ (List.mem_append_right _ hp)
    · rcases g2 p hp with q | q
      · exact List.mem_append_left _ (List.mem_append_left _ q)
      · exact List.mem_append_right _ q
  · rw [List.nodup_append]
    refine ⟨n2, g3 ?_, fun x hx y hy z => ?_⟩
    · rw [List.nodup_append]
      exact ⟨n1, n4, fun x hx y hy => n3 x hx y (List.mem_append_right _ hy)⟩
    · rcases g2 y hy with hq | hq
      · exact n3 y hq x (List.mem_append_left _ hx) z.symm
      · exact n5 x hx y hq z
theorem Rep.forget {i : Nat} (w : Option V) (r : Rep c B ts vs ρ σ H) : Rep c B ts vs (ρ.set i none) (σ.set i w) H := by
  obtain ⟨G, o1, o2, k, h1, h2⟩ := r
  obtain ⟨own', g1, g2, g3⟩ := h2.forget i w
  have nd := k.nd
  rw [List.nodup_append] at nd
  refine ⟨G, o1, own', k.subO (fun p hp => (List.mem_append.mp hp).elim (List.mem_append_left _) fun h => List.mem_append_right _ (g2 p h)) ?_, h1, g1⟩
  rw [List.nodup_append]
  exact ⟨nd.1, g3 nd.2.1, fun x hx y hy => nd.2.2 x hx y (g2 y hy)⟩
/-- a name's cell is written -/
theorem Sl.write : ∀ {es : En} {vs : List (Option V)} {own : Owns} {i : Nat} {b : Option Nat} {x y : D} {a : Addr}, own.Nodup → Sl c B G H es vs own → es[i]? = some (some (.o b x)) → vs[i]? = some (some (.ref a)) → (∀ q, q ≠ a → H' q = H q) → Cell c G H' a y →
    Sl c B G H' (es.set i (some (.o b y))) vs own := by
  intro es
  induction es with
  | nil => intro vs own i b x y a _ _ e; simp at e
  | cons s es ih =>
    intro vs own i b x y a nd h e ev hh hc
    cases h with
    | skip k =>
      cases i with
      | zero => simp at e
      | succ i => exact .skip (ih nd k (by simpa using e) (by simpa using ev) hh hc)
    | d hr k =>
      cases i with
      | zero => simp at e
      | succ i => exact .d hr (ih nd k (by simpa using e) (by simpa using ev) hh hc)
    | @o a' b' x' _ _ own ho hb k =>
      rw [List.nodup_cons] at nd
      cases i with
      | zero =>
        simp at e ev
        obtain ⟨rfl, rfl⟩ := e
        subst ev
        exact .o hc hb (k.mono (fun _ _ e => e) fun q hq => hh _ fun z => nd.1 (z ▸ hq))
      | succ i =>
        have e' : es[i]? = some (some (.o b x)) := by simpa using e
        obtain ⟨a2, e2, _, m2, _⟩ := k.getO e'
        have ea : a2 = a := by
          have : _ = some (some (V.ref a)) := (by simpa using ev)
          rw [this] at e2
          cases e2
          rfl
        subst ea
        have na : a' ≠ a2 := fun z => nd.1 (z ▸ m2)
        exact .o (ho.mono (fun _ _ e => e) (hh _ na)) hb (ih nd.2 k e' (by simpa using ev) hh hc)
    | @q a' ks' dss' _ _ qs own ho k =>
      cases i with
      | zero => simp at e
      | succ i =>
        have e' : es[i]? = some (some (.o b x)) := by simpa using e
        obtain ⟨a2, e2, _, m2, _⟩ := k.getO e'
        have n2 := (List.nodup_append.mp nd)
        have ea : a2 = a := by
          have : _ = some (some (V.ref a)) := (by simpa using ev)
          rw [this] at e2
          cases e2
          rfl
        subst ea
        exact .q (ho.mono (fun _ _ e => e) fun p hp => hh _ fun z => n2.2.2 p hp a2 m2 z) (ih n2.2.1 k e' (by simpa using ev) hh hc)
theorem Rep.write {ds : List D} {us : List V} {i : Nat} {b : Option Nat} {x y : D} {a : Addr} {u o : HO} (e : ρ[i]? = some (some (.o b x))) (ev : σ[i]? = some (some (.ref a))) (hl : us.length = ds.length) (r : Rep c B (tmp ds ++ ts) (tmv us ++ vs) ρ σ H) (hu : H a = some u) (cu : isCell u)
    (hy : ∀ G H', H' a = some o → Cell c G H a x → RpAll c G us ds → Cell c G H' a y) : Rep c B ts vs (ρ.set i (some (.o b y))) σ (upd H a o) := by
  obtain ⟨G, o1, o2, k, h1, h2⟩ := r
  obtain ⟨a1, a2⟩ := h1.tmp hl
  obtain ⟨a', e1, hc, hm, _⟩ := h2.getO e
  rw [ev] at e1
  cases e1
  have nd := k.nd
  rw [List.nodup_append] at nd
  refine ⟨G, o1, o2, k.write (List.mem_append_right _ hm) hu cu, a2.mono (fun _ _ e => e) fun q hq => ?_, h2.write nd.2.1 e ev (fun q hq => upd_ne hq) (hy G _ upd_same hc a1)⟩
  exact upd_ne fun z => nd.2.2 q hq a hm z
end
/-! ### what a reading makes of a state -/
def Post {α : Type} (K : α → En → Prop) (E : Err → En → Prop) : Out α → Prop
  | .ok a ρ => K a ρ
  | .err e ρ => E e ρ
  | .stuck => False
theorem post_then {α β : Type} {K : β → En → Prop} {E : Err → En → Prop} {m : Out α} {f : α → En → Out β} : Post K E (m.then f) ↔ Post (fun a ρ => Post K E (f a ρ)) E m := by
  cases m <;> exact Iff.rfl
theorem Post.imp {α : Type} {K K' : α → En → Prop} {E E' : Err → En → Prop} {m : Out α} (h : Post K E m) (hk : ∀ a ρ, K a ρ → K' a ρ) (he : ∀ e ρ, E e ρ → E' e ρ) : Post K' E' m := by
  cases m with
  | ok a ρ => exact hk _ _ h
  | err e ρ => exact he _ _ h
  | stuck => exact h
theorem Post.imp1 {α : Type} {K K' : α → En → Prop} {E : Err → En → Prop} {m : Out α} (h : Post K E m) (hk : ∀ a ρ, K a ρ → K' a ρ) : Post K' E m := h.imp hk fun _ _ h => h
section
variable (c : Cfg) (W : WX)
/-- what is wanted of an exception -/
def ErrP (B : Base) (ts : En) (vs : List (Option V)) (σ : L2.St) (e : Err) (ρ : En) : Prop := ∀ k d H', c.err e k d H' → Rep c B ts vs ρ σ H' → W k d σ H'
def OkP (B : Base) (ts : En) (vs : List (Option V)) (σ : L2.St) (Q : VK) (s : S) (ρ : En) : Prop := ∀ v H', Rep c B (some s :: ts) (some v :: vs) ρ σ H' → Q v H'
def OkT (B : Base) (ts : En) (vs : List (Option V)) (σ : L2.St) (Q : Bool → Hp → Prop) (b : Bool) (ρ : En) : Prop := ∀ H', Rep c B ts vs ρ σ H' → Q b H'
def OkA (B : Base) (ts : En) (vs : List (Option V)) (σ : L2.St) (Q : List V → Hp → Prop) (ds : List D) (ρ : En) : Prop := ∀ us H', us.length = ds.length → Rep c B (tmp ds ++ ts) (tmv us ++ vs) ρ σ H' → Q us H'
def Den (te : TE) (f : M S) : Prop := ∀ B ts vs ρ σ H Q, Rep c B ts vs ρ σ H → Post (OkP c B ts vs σ Q) (ErrP c W B ts vs σ) (f ρ) → te σ H Q
def DenT (tt : TT) (f : M Bool) : Prop := ∀ B ts vs ρ σ H Q, Rep c B ts vs ρ σ H → Post (OkT c B ts vs σ Q) (ErrP c W B ts vs σ) (f ρ) → tt σ H Q
def DenA (ta : TA) (f : M (List D)) : Prop := ∀ B ts vs ρ σ H Q, Rep c B ts vs ρ σ H → Post (OkA c B ts vs σ Q) (ErrP c W B ts vs σ) (f ρ) → ta σ H Q
end
/-- a value that stays -/
def toD : S → Option D
  | .d x => some x
  | .o none x => if canFz x then some x else none
  | .o (some _) _ => none
  | .q _ _ => none
def dv (f : M S) : M D := fun ρ => (f ρ).then fun s ρ' => match toD s with
  | some x => .ok x ρ'
  | none => .stuck
section
variable {c : Cfg} {W : WX} {B : Base} {H : Hp} {ts : En} {vs : List (Option V)} {ρ : En} {σ : L2.St}
theorem ErrP.drop {s : Option S} {v : Option V} {e : Err} {ρ : En} (h : ErrP c W B ts vs σ e ρ) : ErrP c W B (s :: ts) (v :: vs) σ e ρ := fun k d H' he r => h k d H' he r.drop
theorem Rep.toD {s : S} {x : D} {v : V} (h : toD s = some x) (r : Rep c B (some s :: ts) (some v :: vs) ρ σ H) : Rep c B (some (.d x) :: ts) (some v :: vs) ρ σ H := by
  cases s with
  | d y => cases h; exact r
  | o b y =>
    cases b with
    | some _ => cases h
    | none =>
      have h : (if canFz y then some y else none) = some x := h
      split at h
      · rename_i hy
        cases h
        exact r.fz hy
      · cases h
  | q _ _ => cases h
theorem Den.dv {te : TE} {f : M S} {Q : VK} (h : Den c W te f) (r : Rep c B ts vs ρ σ H) (q : Post (fun x ρ' => ∀ v H', Rep c B (some (.d x) :: ts) (some v :: vs) ρ' σ H' → Q v H') (ErrP c W B ts vs σ) (dv f ρ)) : te σ H Q := by
  refine h B ts vs ρ σ H Q r ?_
  unfold Fx.dv at q
  rw [post_then] at q
  refine q.imp1 fun s ρ' p v H' r' => ?_
  split at p
  · rename_i x hx
    exact p v H' (r'.toD hx)
  · exact p.elim
end
def mVar (i : Nat) : M S := fun ρ => match ρ[i]? with
  | some (some (.d x)) => .ok (.d x) ρ
  | some (some (.o none x)) => if canFz x then .ok (.d x) (ρ.set i (some (.d x))) else .stuck
  | _ => .stuck
def mC (x : D) : M S := fun ρ => .ok (.d x) ρ
/-- a value of two, one, some -/
def mOp (g : D → D → Option S) (fa fb : M S) : M S := fun ρ => (dv fa ρ).then fun x ρ1 => (dv fb ρ1).then fun y ρ2 => match g x y with
  | some s => .ok s ρ2
  | none => .stuck
def mUn (g : D → Option S) (fa : M S) : M S := fun ρ => (dv fa ρ).then fun x ρ1 => match g x with
  | some s => .ok s ρ1
  | none => .stuck
def aNil : M (List D) := fun ρ => .ok [] ρ
def aCons (fa : M S) (fr : M (List D)) : M (List D) := fun ρ => (dv fa ρ).then fun x ρ1 => (fr ρ1).then fun ds ρ2 => .ok (x :: ds) ρ2
def mCB (g : List D → Option S) (fa : M (List D)) : M S := fun ρ => (fa ρ).then fun ds ρ1 => match g ds with
  | some s => .ok s ρ1
  | none => .stuck
/-- an operation on values does on data what g does -/
def OpDen (c : Cfg) (r : R2) (g : D → D → Option S) : Prop := ∀ (B : Base) (ts : En) (vs : List (Option V)) (ρ : En) (σ : L2.St) (H : Hp) (Q : VK) (x y : D) (v u : V) (s : S),
  Rep c B (some (.d y) :: some (.d x) :: ts) (some u :: some v :: vs) ρ σ H → g x y = some s → OkP c B ts vs σ Q s ρ → r v u H Q
def UnDen (c : Cfg) (r : V → Hp → VK → Prop) (g : D → Option S) : Prop := ∀ (B : Base) (ts : En) (vs : List (Option V)) (ρ : En) (σ : L2.St) (H : Hp) (Q : VK) (x : D) (v : V) (s : S),
  Rep c B (some (.d x) :: ts) (some v :: vs) ρ σ H → g x = some s → OkP c B ts vs σ Q s ρ → r v H Q
def CbDen (c : Cfg) (r : List V → Hp → VK → Prop) (g : List D → Option S) : Prop := ∀ (B : Base) (ts : En) (vs : List (Option V)) (ρ : En) (σ : L2.St) (H : Hp) (Q : VK) (ds : List D) (us : List V) (s : S),
  us.length = ds.length → Rep c B (tmp ds ++ ts) (tmv us ++ vs) ρ σ H → g ds = some s → OkP c B ts vs σ Q s ρ → r us H Q
section
variable {c : Cfg} {W : WX} {ta tb tc : TE} {fa fb fc : M S} {tt tu : TT} {ft fu : M Bool}
theorem den_var {i : Nat} : Den c W (tVar i) (mVar i) := by
  intro B ts vs ρ σ H Q r h
  unfold mVar at h
  split at h
  · rename_i x e
    obtain ⟨v, e1, r1⟩ := r.var e
    exact ⟨v, e1, h v H r1⟩
  · rename_i x e
    split at h
    · rename_i hx
      have r1 := r.fzAt hx e
      have hlt := (List.getElem?_eq_some_iff.mp e).1
      have e2 : (ρ.set i (some (.d x)))[i]? = some (some (.d x)) := by rw [List.getElem?_set_self hlt]
      obtain ⟨v, e1, r2⟩ := r1.var e2
      exact ⟨v, e1, h v H r2⟩
    · exact h.elim
  · exact h.elim
theorem den_c {v : V} {x : D} (hx : ∀ G, Rp c G v x) : Den c W (tC v) (mC x) := fun B ts vs ρ σ H Q r h => h v H (Rep.repl (ds := []) (us := []) r rfl fun G _ => hx G)
theorem den_op {r : R2} {g : D → D → Option S} (ho : OpDen c r g) (ha : Den c W ta fa) (hb : Den c W tb fb) : Den c W (tOp r ta tb) (mOp g fa fb) := by
  intro B ts vs ρ σ H Q rp h
  unfold mOp at h
  rw [post_then] at h
  refine ha.dv rp (h.imp1 fun x ρ1 h v H1 r1 => ?_)
  rw [post_then] at h
  refine hb.dv r1 (h.imp (fun y ρ2 h u H2 r2 => ?_) fun _ _ h => h.drop)
  split at h
  · rename_i s hs
    exact ho B ts vs ρ2 σ H2 Q x y v u s r2 hs h
  · exact h.elim
theorem den_un {r : V → Hp → VK → Prop} {g : D → Option S} (ho : UnDen c r g) (ha : Den c W ta fa) : Den c W (tUn r ta) (mUn g fa) := by
  intro B ts vs ρ σ H Q rp h
  unfold mUn at h
  rw [post_then] at h
  refine ha.dv rp (h.imp1 fun x ρ1 h v H1 r1 => ?_)
  split at h
  · rename_i s hs
    exact ho B ts vs ρ1 σ H1 Q x v s r1 hs h
  · exact h.elim
theorem den_nil : DenA c W tNil aNil := fun B ts vs ρ σ H Q r h => h [] H rfl r
theorem den_cons {tr : TA} {fr : M (List D)} (ha : Den c W ta fa) (hr : DenA c W tr fr) : DenA c W (tCons ta tr) (aCons fa fr) := by
  intro B ts vs ρ σ H Q rp h
  unfold aCons at h
  rw [post_then] at h
  refine ha.dv rp (h.imp1 fun x ρ1 h v H1 r1 => ?_)
  rw [post_then] at h
  refine hr B _ _ ρ1 σ H1 _ r1 (h.imp (fun ds ρ2 h us H2 hl r2 => ?_) fun _ _ h => h.drop)
  refine h (v :: us) H2 (by simp [hl]) ?_
  unfold tmp tmv
  rw [List.reverse_cons, List.map_append, List.reverse_cons, List.map_append, List.append_assoc, List.append_assoc]
  exact r2
theorem den_cb {r : List V → Hp → VK → Prop} {g : List D → Option S} {tA : TA} {fA : M (List D)} (ho : CbDen c r g) (ha : DenA c W tA fA) : Den c W (tCB r tA) (mCB g fA) := by
  intro B ts vs ρ σ H Q rp h
  unfold mCB at h
  rw [post_then] at h
  refine ha B ts vs ρ σ H _ rp (h.imp1 fun ds ρ1 h us H1 hl r1 => ?_)
  split at h
  · rename_i s hs
    exact ho B ts vs ρ1 σ H1 Q ds us s hl r1 hs h
  · exact h.elim
end
end Fx
/-! tuples that a def makes, with their objects: no attributes -/
namespace Fx
open PySem PySem.Spec PyProof.Rows L2
section
variable {X : Cx} {es : List Expr} {pos : Pos} {t : TA}
/-- what a new tuple's place holds -/
def NewT (H : Hp) (xs : List V) (Q : VK) : Prop := ∀ (p : Addr) (o : Obj), H p = none → o.dict = none → Q (.ref p) (upd H p (.frz o (.tup xs)))
theorem newT_laid {pins : List (Addr × Obj)} {σ : L2.St} {H : Hp} {s : Shared} {xs : List V} {us : List Value} {Q : VK} (I : Inv X pins σ H s) (z : xs.length ≤ sizeLine) (r : Vals xs us) (q : NewT H xs Q) :
    EP X pins σ Q (.ref s.heap.objs.size) { s with heap := s.heap.push { cls := .type "tuple", data := .seq us.toArray } } := by
  have free : H s.heap.objs.size = none := I.hok.fresh (Nat.le_refl _)
  have isT : IsTup (s.heap.push { cls := .type "tuple", data := .seq us.toArray }) s.heap.objs.size us.toArray := IsTup.new _ _
  have got : (s.heap.push { cls := .type "tuple", data := .seq us.toArray }).get? s.heap.objs.size = some { cls := .type "tuple", data := .seq us.toArray } := Heap.get?_push_size _ rfl
  refine ⟨.ref s.heap.objs.size, _, I.laid (t' := s.toks) (o := .frz { cls := .type "tuple", data := .seq us.toArray } (.tup xs)) (fun _ _ e => Heap.get?_push_of_some _ e) (Nat.le_refl _) ⟨got, z, us, r, isT⟩, rfl, q _ _ free rfl⟩
def tTupN (t : TA) : TE := fun σ H Q => t σ H fun xs H1 => xs.length ≤ sizeLine ∧ NewT H1 xs Q
theorem pe_tupN {kk} (h : PA X es t) : PE X (.Tuple es kk pos) (tTupN t) :=
  ⟨fun pins s σ H Q I hq => wpAny_Tuple_spliced (thn (h.run pos pins s σ H _ I hq) fun us s1 ⟨xs, H1, I1, r, z, q⟩ => ⟨r.length ▸ z, newT_laid I1 z r q⟩)⟩
/-- tuple(x) -/
def rTupN (K : PySem.W.Frag) : List V → Hp → VK → Prop := fun xs H Q => ∃ p ys, xs = [.ref p] ∧ ((SqL K H p ys ∧ NewT H ys Q) ∨ (SqT K H p ys ∧ Q (.ref p) H))
theorem call_tupN : CallR X (.type "tuple") (rTupN X.K) := by
  rintro pins s σ H xs us Q I r ⟨p, ys, rfl, hh⟩
  obtain ⟨u, rfl, rx⟩ := vals1 r
  cases rx
  cases hh with
  | inl hh =>
    obtain ⟨its, r', pl, hz⟩ := I.list hh.1
    refine call_tuple_list pl.isList (fun h' kp => newT_laid (I.kept (t' := s.toks) kp) hz r' hh.2) ?_
    have := r'.length
    simp only [List.size_toArray]
    omega
  | inr hh =>
    obtain ⟨its, r', pl, _⟩ := I.tuple hh.1
    exact call_tuple_same pl ⟨.ref p, H, I, rfl, hh.2⟩
/-- t + u -/
def rCatN (K : PySem.W.Frag) : R2 := fun x y H Q => ∃ a b xs ys, x = .ref a ∧ y = .ref b ∧ SqT K H a xs ∧ SqT K H b ys ∧ xs.length + ys.length ≤ sizeLine ∧
  (xs = [] → Q (.ref b) H) ∧ (xs ≠ [] → ys = [] → Q (.ref a) H) ∧ (xs ≠ [] → ys ≠ [] → NewT H (xs ++ ys) Q)
theorem op_catN : OpR X (binaryOp .Add) (rCatN X.K) := by
  rintro pins s σ H x y v u Q I rx ry ⟨a, b, xs, ys, rfl, rfl, ha, hb, hz, q0, q1, q2⟩
  cases rx
  cases ry
  obtain ⟨us, r1, p1, _⟩ := I.tuple ha
  obtain ⟨ws, r2, p2, _⟩ := I.tuple hb
  by_cases hx : xs = []
  · subst hx
    cases r1
    exact cat_tup0 p1 p2 ⟨.ref b, H, I, rfl, q0 rfl⟩
  · refine HT.cat_tup p1 p2 (fun z => hx (r1.nil_iff.mp z)) (fun z => ⟨.ref a, H, I, rfl, q1 hx (r2.nil_iff.mp z)⟩) (fun z => ?_) (by rw [← r1.length, ← r2.length]; exact hz)
    exact newT_laid I (by rw [List.length_append]; exact hz) (r1.append r2) (q2 hx fun w => z (r2.nil_iff.mpr w))
/-- t[lo:hi] -/
def rSlN (K : PySem.W.Frag) : V → Option Int → Option Int → Hp → VK → Prop := fun x lo hi H Q => ∃ a xs, x = .ref a ∧ SqT K H a xs ∧
  (HT.sIx xs.length 0 lo = 0 ∧ HT.sIx xs.length xs.length hi = xs.length → Q (.ref a) H) ∧ (¬ (HT.sIx xs.length 0 lo = 0 ∧ HT.sIx xs.length xs.length hi = xs.length) → NewT H (cutV xs lo hi) Q)
theorem sl_tupN : SlR X (rSlN X.K) := by
  rintro pins s σ H x v vl vu lo hi sl Q I rx hs pl pu ⟨a, xs, rfl, hx, q1, q2⟩
  cases rx
  obtain ⟨us, r, ht, hz⟩ := I.tuple hx
  have n : us.toArray.size = xs.length := by rw [List.size_toArray, r.length]
  refine ⟨"tuple", _, PyProof.Rows.slot_tuple_getitem.lookup, ht.typeIs, ?_⟩
  by_cases hw : HT.sIx xs.length 0 lo = 0 ∧ HT.sIx xs.length xs.length hi = xs.length
  · exact getItem_tuple_whole ht hs pl pu (n.symm ▸ hw) ⟨.ref a, H, I, rfl, q1 hw⟩
  · refine HT.getItem_tuple_cut ht hs pl pu (n.symm ▸ hw) ?_ (n.symm ▸ hz)
    rw [n]
    exact newT_laid I (Nat.le_trans (cutV_length xs lo hi) hz) ((r.drop (HT.sIx xs.length 0 lo)).take (HT.sIx xs.length xs.length hi - HT.sIx xs.length 0 lo)) (q2 hw)
end
end Fx
/-! operations on data -/
namespace Fx
open PySem PySem.Spec PyProof.Rows L2
/-! ### data as the library has them -/
mutual
/-- plain, at most n deep -/
def pl : Nat → D → Bool
  | _, .non => true
  | _, .bl _ => true
  | _, .int _ => true
  | _, .str _ => true
  | n + 1, .tup ds => plA n ds
  | n + 1, .lst ds => plA n ds
  | _, _ => false
def plA : Nat → List D → Bool
  | _, [] => true
  | n, d :: ds => pl n d && plA n ds
end
mutual
def toP : D → PyData
  | .non => .none
  | .bl b => .bool b
  | .int i => .int i
  | .str s => .str s
  | .tup ds => .tuple (toPs ds)
  | .lst ds => .list (toPs ds)
  | _ => .none
def toPs : List D → List PyData
  | [] => []
  | d :: ds => toP d :: toPs ds
end
theorem toPs_map : ∀ ds : List D, toPs ds = ds.map toP
  | [] => by simp [toPs]
  | d :: ds => by simp [toPs, toPs_map ds]
mutual
theorem pl_plain : ∀ {n : Nat} {d : D}, pl n d = true → (toP d).plain = true ∧ (toP d).depth ≤ n
  | n, .non, h => by simp [toP, PyData.plain, PyData.depth]
  | n, .bl b, h => by simp [toP, PyData.plain, PyData.depth]
  | n, .int i, h => by simp [toP, PyData.plain, PyData.depth]
  | n, .str s, h => by simp [toP, PyData.plain, PyData.depth]
  | n + 1, .tup ds, h => by
    have h := plA_plain (n := n) (ds := ds) (by simpa [pl] using h)
    simp only [toP, PyData.plain, PyData.depth]
    exact ⟨h.1, by omega⟩
  | n + 1, .lst ds, h => by
    have h := plA_plain (n := n) (ds := ds) (by simpa [pl] using h)
    simp only [toP, PyData.plain, PyData.depth]
    exact ⟨h.1, by omega⟩
  | 0, .tup ds, h => by simp [pl] at h
  | 0, .lst ds, h => by simp [pl] at h
  | n, .ty _, h => by simp [pl] at h
  | n, .ins _ _, h => by simp [pl] at h
  | n, .dct _ _, h => by simp [pl] at h
  | n, .dcq _ _, h => by simp [pl] at h
  | n, .xo _ _, h => by simp [pl] at h
  | n, .exc, h => by simp [pl] at h
  | n, .rng _ _, h => by simp [pl] at h
  | n, .fu, h => by simp [pl] at h
  | n, .scr _, h => by simp [pl] at h
theorem plA_plain : ∀ {n : Nat} {ds : List D}, plA n ds = true → PyData.plainAll (toPs ds) = true ∧ PyData.depthAll (toPs ds) ≤ n
  | _, [], _ => by simp [toPs, PyData.plainAll, PyData.depthAll]
  | n, d :: ds, h => by
    simp only [plA, Bool.and_eq_true] at h
    have h1 := pl_plain h.1
    have h2 := plA_plain h.2
    simp only [toPs, PyData.plainAll, PyData.depthAll, Bool.and_eq_true]
    exact ⟨⟨h1.1, h2.1⟩, by omega⟩
end
theorem plA_all {n : Nat} : ∀ {ds : List D}, plA n ds = ds.all (pl n)
  | [] => by simp [plA]
  | d :: ds => by simp [plA, plA_all (ds := ds)]
mutual
theorem Rp.dp {c : Cfg} {G H : Hp} (s : ∀ a o, G a = some o → H a = some o) : ∀ {n : Nat} {v : V} {d : D}, pl n d = true → Rp c G v d → Dp c.K H v (toP d)
  | _, _, _, _, .non => by simp only [toP]; exact .non
  | _, _, _, _, .bl b => by simp only [toP]; exact .bl b
  | _, _, _, _, .int i => by simp only [toP]; exact .int i
  | _, _, _, _, .str x => by simp only [toP]; exact .str x
  | n + 1, _, _, h, .tup t k _ => by
    simp only [toP]
    refine .tup ?_ (RpAll.dp s (n := n) (by simpa [pl] using h) k)
    rcases t with (t | ⟨o, t⟩) | t
    · exact .inl (.inl (s _ _ t))
    · exact .inl (.inr ⟨o, s _ _ t⟩)
    · exact .inr t
  | n + 1, _, _, h, .lst t k => by
    simp only [toP]
    exact .lst (SqL.of (s _ _ t)) (RpAll.dp s (n := n) (by simpa [pl] using h) k)
  | 0, _, _, h, .tup _ _ _ => by simp [pl] at h
  | 0, _, _, h, .lst _ _ => by simp [pl] at h
  | _, _, _, h, .ty _ => by simp [pl] at h
  | _, _, _, h, .ins _ _ _ => by simp [pl] at h
  | _, _, _, h, .dct _ _ => by simp [pl] at h
  | _, _, _, h, .dcx _ _ _ _ => by simp [pl] at h
  | _, _, _, h, .xo _ => by simp [pl] at h
  | _, _, _, h, .exc _ _ => by simp [pl] at h
  | _, _, _, h, .rng _ => by simp [pl] at h
  | _, _, _, h, .fu _ => by simp [pl] at h
  | _, _, _, h, .scr _ => by simp [pl] at h
  | _, _, _, h, .fn _ _ => by simp [pl] at h
termination_by structural _ _ _ _ h => h
theorem RpAll.dp {c : Cfg} {G H : Hp} (s : ∀ a o, G a = some o → H a = some o) : ∀ {n : Nat} {vs : List V} {ds : List D}, plA n ds = true → RpAll c G vs ds → DpAll c.K H vs (toPs ds)
  | _, _, _, _, .nil => by simp only [toPs]; exact .nil
  | n, _, _, h, .cons t k => by
    simp only [plA, Bool.and_eq_true] at h
    simp only [toPs]
    exact .cons (Rp.dp s h.1 t) (RpAll.dp s h.2 k)
termination_by structural _ _ _ _ h => h
end
def eqD (x y : D) : Bool := PyData.eqv (toP x) (toP y)
def ok1 (x : D) : Option S := some (.d x)
/-! ### rules that take more than one kind -/
section
variable {X : Cx} {f : Value → Value → Sem Value} {r r' : R2}
theorem OpR.or (h : OpR X f r) (h' : OpR X f r') : OpR X f (fun x y H Q => r x y H Q ∨ r' x y H Q) := by
  intro pins s σ H x y v u Q I rx ry q
  rcases q with q | q
  · exact h pins s σ H x y v u Q I rx ry q
  · exact h' pins s σ H x y v u Q I rx ry q
/-- one of two, by what g does -/
def gOr (g g' : D → D → Option S) : D → D → Option S := fun x y => match g x y with
  | some s => some s
  | none => g' x y
theorem OpDen.or {c : Cfg} {g g' : D → D → Option S} (h : OpDen c r g) (h' : OpDen c r' g') : OpDen c (fun x y H Q => r x y H Q ∨ r' x y H Q) (gOr g g') := fun B ts vs ρ σ H Q x y v u s r1 e q => by
  unfold gOr at e
  split at e
  · rename_i s1 e1
    cases e
    exact .inl (h B ts vs ρ σ H Q x y v u s r1 e1 q)
  · exact .inr (h' B ts vs ρ σ H Q x y v u s r1 e q)
end
section
variable {c : Cfg} {B : Base} {ts : En} {vs : List (Option V)} {ρ : En} {σ : L2.St} {H : Hp}
/-- what waits, opened -/
structure Opn (c : Cfg) (B : Base) (ts : En) (vs : List (Option V)) (ρ : En) (σ : L2.St) (H G : Hp) : Prop where
  sub : ∀ a o, G a = some o → H a = some o
  val : ∀ {v : V} {x : D}, Rp c G v x → Rep c B (some (.d x) :: ts) (some v :: vs) ρ σ H
  new : ∀ {p : Addr} {o : HO} {x : D}, H p = none → isTbl o = false → (∀ G', (∀ a u, G a = some u → G' a = some u) → G' p = some o → Rp c G' (.ref p) x) → Rep c B (some (.d x) :: ts) (some (.ref p) :: vs) ρ σ (upd H p o)
  newO : ∀ {p : Addr} {o : HO} {x : D}, H p = none → (∀ H', H' p = some o → Cell c G H' p x) → Rep c B (some (.o none x) :: ts) (some (.ref p) :: vs) ρ σ (upd H p o)
theorem Rep.opn {ds : List D} {us : List V} (hl : us.length = ds.length) (r : Rep c B (tmp ds ++ ts) (tmv us ++ vs) ρ σ H) : ∃ G, Opn c B ts vs ρ σ H G ∧ RpAll c G us ds := by
  obtain ⟨G, o1, o2, k, h1, h2⟩ := r
  obtain ⟨a1, a2⟩ := h1.tmp hl
  refine ⟨G, ⟨k.sub, fun hv => ⟨G, o1, o2, k, .d hv a2, h2⟩, fun {p o x} hp ho hx => ?_, fun {p o x} hp hx => ?_⟩, a1⟩
  · have gp := k.gnone hp
    have ow := own_new (o := o) k hp
    exact ⟨upd G p o, o1, o2, k.alloc hp ho, .d (hx _ (upd_sub gp) upd_same) (a2.mono (upd_sub gp) fun q hq => ow q (List.mem_append_left _ hq)), h2.mono (upd_sub gp) fun q hq => ow q (List.mem_append_right _ hq)⟩
  · have ow := own_new (o := o) k hp
    exact ⟨G, p :: o1, o2, k.allocO hp, .o (hx _ upd_same) (fun _ e => nomatch e) (a2.mono (fun _ _ e => e) fun q hq => ow q (List.mem_append_left _ hq)), h2.mono (fun _ _ e => e) fun q hq => ow q (List.mem_append_right _ hq)⟩
theorem Rep.two {x y : D} {v u : V} (r : Rep c B (some (.d y) :: some (.d x) :: ts) (some u :: some v :: vs) ρ σ H) : ∃ G, Opn c B ts vs ρ σ H G ∧ Rp c G v x ∧ Rp c G u y := by
  obtain ⟨G, s, h⟩ := Rep.opn (ds := [x, y]) (us := [v, u]) rfl r
  cases h with
  | cons h1 h2 =>
    cases h2 with
    | cons h2 h3 => exact ⟨G, s, h1, h2⟩
theorem Rep.one {x : D} {v : V} (r : Rep c B (some (.d x) :: ts) (some v :: vs) ρ σ H) : ∃ G, Opn c B ts vs ρ σ H G ∧ Rp c G v x := by
  obtain ⟨G, s, h⟩ := Rep.opn (ds := [x]) (us := [v]) rfl r
  cases h with
  | cons h1 h2 => exact ⟨G, s, h1⟩
theorem SqT.up {K : PySem.W.Frag} {G H : Hp} {a : Addr} {xs : List V} (s : ∀ a o, G a = some o → H a = some o) (h : SqT K G a xs) : SqT K H a xs := by
  rcases h with (h | ⟨o, h⟩) | h
  · exact .inl (.inl (s _ _ h))
  · exact .inl (.inr ⟨o, s _ _ h⟩)
  · exact .inr h
end
theorem Rp.tupE {c : Cfg} {G : Hp} {v : V} {ds : List D} (h : Rp c G v (.tup ds)) : ∃ a xs, v = .ref a ∧ SqT c.K G a xs ∧ RpAll c G xs ds := by cases h with | tup h k n => exact ⟨_, _, rfl, h, k⟩
theorem Rp.tupN {c : Cfg} {G : Hp} {v : V} {ds : List D} (h : Rp c G v (.tup ds)) : ∃ a xs, v = .ref a ∧ SqT c.K G a xs ∧ RpAll c G xs ds ∧ (arcy ds = true → SqN G a xs) := by cases h with | tup h k n => exact ⟨_, _, rfl, h, k, n⟩
theorem Rp.lstE {c : Cfg} {G : Hp} {v : V} {ds : List D} (h : Rp c G v (.lst ds)) : ∃ a xs, v = .ref a ∧ G a = some (.lst xs) ∧ RpAll c G xs ds := by cases h with | lst h k => exact ⟨_, _, rfl, h, k⟩
theorem Rp.scrE {c : Cfg} {G : Hp} {v : V} {ns : List Int} (h : Rp c G v (.scr ns)) : ∃ a, v = .ref a ∧ SqL c.K G a (ns.map V.int) := by cases h with | scr h => exact ⟨_, rfl, h⟩
/-! ### + - * % // ** -/
def gII (f : Int → Int → Int) : D → D → Option S
  | .int i, .int j => ok1 (.int (f i j))
  | _, _ => none
def gIIc (C : Int → Int → Bool) (f : Int → Int → Int) : D → D → Option S
  | .int i, .int j => if C i j then ok1 (.int (f i j)) else none
  | _, _ => none
theorem od_II {c : Cfg} {f : Int → Int → Int} : OpDen c (rI0 fun i j => .int (f i j)) (gII f) := by
  intro B ts vs ρ σ H Q x y v u s r e q
  obtain ⟨G, O, h1, h2⟩ := r.two
  cases x <;> cases y <;> first | cases e | skip
  cases h1
  cases h2
  exact ⟨_, _, rfl, rfl, q _ _ (O.val (.int _))⟩
theorem od_IIc {c : Cfg} {C : Int → Int → Prop} {Cb : Int → Int → Bool} {f : Int → Int → Int} (hC : ∀ i j, Cb i j = true → C i j) : OpDen c (rI C fun i j => .int (f i j)) (gIIc Cb f) := by
  intro B ts vs ρ σ H Q x y v u s r e q
  obtain ⟨G, O, h1, h2⟩ := r.two
  cases x <;> cases y <;> first | cases e | skip
  rename_i i j
  have e : (if Cb i j then ok1 (.int (f i j)) else none) = some s := e
  split at e
  · rename_i hc
    cases e
    cases h1
    cases h2
    exact ⟨_, _, rfl, rfl, hC _ _ hc, q _ _ (O.val (.int _))⟩
  · cases e
def small (n : Nat) : Bool := decide (n ≤ 16777216)
theorem small_line {n : Nat} (h : small n = true) : n ≤ sizeLine := by
  rw [sizeLine_eq]
  exact of_decide_eq_true h
def gCatT : D → D → Option S
  | .tup xs, .tup ys => if small (xs.length + ys.length) then ok1 (.tup (xs ++ ys)) else none
  | _, _ => none
theorem od_catT {c : Cfg} : OpDen c (rCatN c.K) gCatT := by
  intro B ts vs ρ σ H Q x y v u s r e q
  obtain ⟨G, O, h1, h2⟩ := r.two
  cases x <;> cases y <;> first | cases e | skip
  rename_i xs ys
  have e : (if small (xs.length + ys.length) then ok1 (.tup (xs ++ ys)) else none) = some s := e
  split at e
  · rename_i hz
    cases e
    obtain ⟨a, us, rfl, ha, ka, na⟩ := h1.tupN
    obtain ⟨b, ws, rfl, hb, kb, nb⟩ := h2.tupN
    refine ⟨a, b, us, ws, rfl, rfl, SqT.up O.sub ha, SqT.up O.sub hb, by rw [ka.length, kb.length]; exact small_line hz, ?_⟩
    refine ⟨fun hx => ?_, fun hx hy => ?_, fun hx hy p o hp ho => ?_⟩
    · subst hx
      cases ka
      exact q _ _ (O.val (.tup hb kb nb))
    · subst hy
      cases kb
      rw [List.append_nil] at q
      exact q _ _ (O.val (.tup ha ka na))
    · exact q _ _ (O.new hp rfl fun G' m e => .tup (.inl (.inr ⟨o, e⟩)) ((ka.app kb).mono m) fun _ => ⟨o, e, ho⟩)
  · cases e
def gCatL : D → D → Option S
  | .lst xs, .lst ys => if small (xs.length + ys.length) then some (.o none (.lst (xs ++ ys))) else none
  | _, _ => none
theorem od_catL {c : Cfg} : OpDen c rCat gCatL := by
  intro B ts vs ρ σ H Q x y v u s r e q
  obtain ⟨G, O, h1, h2⟩ := r.two
  cases x <;> cases y <;> first | cases e | skip
  rename_i xs ys
  have e : (if small (xs.length + ys.length) then some (S.o none (.lst (xs ++ ys))) else none) = some s := e
  split at e
  · rename_i hz
    cases e
    obtain ⟨a, us, rfl, ha, ka⟩ := h1.lstE
    obtain ⟨b, ws, rfl, hb, kb⟩ := h2.lstE
    exact ⟨a, b, us, ws, rfl, rfl, O.sub _ _ ha, O.sub _ _ hb, by rw [ka.length, kb.length]; exact small_line hz, fun p hp => q _ _ (O.newO hp fun H' e => ⟨_, e, ka.app kb⟩)⟩
  · cases e
def gCatS : D → D → Option S
  | .str x, .str y => if small (x.length + y.length) then ok1 (.str (x ++ y)) else none
  | _, _ => none
theorem od_catS {c : Cfg} : OpDen c (fun x y H Q => ∃ i j, x = .str i ∧ y = .str j ∧ i.length + j.length ≤ sizeLine ∧ Q (.str (i ++ j)) H) gCatS := by
  intro B ts vs ρ σ H Q x y v u s r e q
  obtain ⟨G, O, h1, h2⟩ := r.two
  cases x <;> cases y <;> first | cases e | skip
  rename_i xs ys
  have e : (if small (xs.length + ys.length) then ok1 (.str (xs ++ ys)) else none) = some s := e
  split at e
  · rename_i hz
    cases e
    cases h1
    cases h2
    exact ⟨_, _, rfl, rfl, small_line hz, q _ _ (O.val (.str _))⟩
  · cases e
def rAddG (K : PySem.W.Frag) : R2 := fun x y H Q => rI0 (fun i j => .int (i + j)) x y H Q ∨ rCatN K x y H Q ∨ rCat x y H Q ∨ (∃ i j, x = .str i ∧ y = .str j ∧ i.length + j.length ≤ sizeLine ∧ Q (.str (i ++ j)) H)
theorem op_addG {X : Cx} : OpR X (binaryOp .Add) (rAddG X.K) := OpR.or op_add (OpR.or op_catN (OpR.or op_cat op_add_str))
def gAdd : D → D → Option S
  | .int i, .int j => ok1 (.int (i + j))
  | .tup xs, .tup ys => if small (xs.length + ys.length) then ok1 (.tup (xs ++ ys)) else none
  | .lst xs, .lst ys => if small (xs.length + ys.length) then some (.o none (.lst (xs ++ ys))) else none
  | .str x, .str y => if small (x.length + y.length) then ok1 (.str (x ++ y)) else none
  | _, _ => none
theorem od_add {c : Cfg} : OpDen c (rAddG c.K) gAdd := by
  intro B ts vs ρ σ H Q x y v u s r e q
  cases x <;> cases y <;> first | cases e | skip
  · exact .inl (od_II (f := (· + ·)) B ts vs ρ σ H Q _ _ v u _ r rfl q)
  · exact .inr (.inr (.inr (od_catS B ts vs ρ σ H Q _ _ v u s r e q)))
  · exact .inr (.inl (od_catT B ts vs ρ σ H Q _ _ v u s r e q))
  · exact .inr (.inr (.inl (od_catL B ts vs ρ σ H Q _ _ v u s r e q)))
end Fx
/-! more operations on data -/
namespace Fx
open PySem PySem.Spec PyProof.Rows L2
/-! ### - * % // ** -/
def gMinus : D → D → Option S := gII (· - ·)
theorem od_sub {c : Cfg} : OpDen c (rI0 fun i j => .int (i - j)) gMinus := od_II
def i64 (i : Int) : Bool := decide (-18446744073709551616 < i) && decide (i < 18446744073709551616)
theorem i64_iff {i : Int} : i64 i = true ↔ -(2 ^ 64) < i ∧ i < 2 ^ 64 := by
  unfold i64
  simp only [Bool.and_eq_true, decide_eq_true_eq]
  constructor <;> (intro h; constructor <;> omega)
def gMulI : D → D → Option S := gIIc (fun i j => i64 i || i64 j) (· * ·)
theorem od_mulI {c : Cfg} : OpDen c (rI CMul fun i j => .int (i * j)) gMulI := od_IIc fun i j h => by
  rw [Bool.or_eq_true, i64_iff, i64_iff] at h
  exact h
def gMod : D → D → Option S := gIIc (fun _ j => decide (0 < j)) (· % ·)
theorem od_mod {c : Cfg} : OpDen c (rI (fun _ j => 0 < j) fun i j => .int (i % j)) gMod := od_IIc fun i j h => of_decide_eq_true h
def gDiv : D → D → Option S := gIIc (fun _ j => decide (0 < j) && decide (j < 1073741824)) (· / ·)
theorem od_div {c : Cfg} : OpDen c (rI CDiv fun i j => .int (i / j)) gDiv := od_IIc fun i j h => by
  simp only [Bool.and_eq_true, decide_eq_true_eq] at h
  exact h
def gPow : D → D → Option S := gIIc (fun i j => decide (0 ≤ j) && decide (j ≤ 64) && decide (i.natAbs < 18446744073709551616)) (fun i j => i ^ j.toNat)
theorem od_pow {c : Cfg} : OpDen c (rI CPow fun i j => .int (i ^ j.toNat)) gPow := od_IIc fun i j h => by
  simp only [Bool.and_eq_true, decide_eq_true_eq] at h
  exact ⟨h.1.1, by omega, by have := h.2; omega⟩
def gNeg : D → Option S
  | .int i => ok1 (.int (-i))
  | _ => none
theorem ud_neg {c : Cfg} : UnDen c (rU fun i => .int (-i)) gNeg := by
  intro B ts vs ρ σ H Q x v s r e q
  obtain ⟨G, O, h1⟩ := r.one
  cases x <;> first | cases e | skip
  cases h1
  exact ⟨_, rfl, q _ _ (O.val (.int _))⟩
/-- list * int -/
def gRepL : D → D → Option S
  | .lst xs, .int k => if small (xs.length * k.toNat) && decide (k < 1073741824) && decide (-1073741824 < k) then some (.o none (.lst (List.replicate k.toNat xs).flatten)) else none
  | _, _ => none
theorem RpAll.rep {c : Cfg} {G : Hp} {us : List V} {xs : List D} (h : RpAll c G us xs) : ∀ n : Nat, RpAll c G (List.replicate n us).flatten (List.replicate n xs).flatten
  | 0 => .nil
  | n + 1 => by
    rw [List.replicate_succ, List.replicate_succ, List.flatten_cons, List.flatten_cons]
    exact h.app (RpAll.rep h n)
theorem od_repL {c : Cfg} : OpDen c rRep gRepL := by
  intro B ts vs ρ σ H Q x y v u s r e q
  obtain ⟨G, O, h1, h2⟩ := r.two
  cases x <;> cases y <;> first | cases e | skip
  rename_i xs k
  have e : (if small (xs.length * k.toNat) && decide (k < 1073741824) && decide (-1073741824 < k) then some (S.o none (.lst (List.replicate k.toNat xs).flatten)) else none) = some s := e
  split at e
  · rename_i hz
    simp only [Bool.and_eq_true, decide_eq_true_eq] at hz
    cases e
    cases h2
    obtain ⟨a, us, rfl, ha, ka⟩ := h1.lstE
    exact ⟨a, k, us, rfl, rfl, O.sub _ _ ha, by omega, by omega, by rw [ka.length]; exact small_line hz.1.1, fun p hp => q _ _ (O.newO hp fun H' e => ⟨_, e, ka.rep _⟩)⟩
  · cases e
def rMulG : R2 := fun x y H Q => rI CMul (fun i j => .int (i * j)) x y H Q ∨ rRep x y H Q
theorem op_mulG {X : Cx} : OpR X (binaryOp .Mult) rMulG := OpR.or op_mul op_rep
def gMul : D → D → Option S
  | .int i, .int j => if i64 i || i64 j then ok1 (.int (i * j)) else none
  | .lst xs, .int k => if small (xs.length * k.toNat) && decide (k < 1073741824) && decide (-1073741824 < k) then some (.o none (.lst (List.replicate k.toNat xs).flatten)) else none
  | _, _ => none
theorem od_mul {c : Cfg} : OpDen c rMulG gMul := by
  intro B ts vs ρ σ H Q x y v u s r e q
  cases x <;> cases y <;> first | cases e | skip
  · exact .inl (od_mulI B ts vs ρ σ H Q _ _ v u _ r e q)
  · exact .inr (od_repL B ts vs ρ σ H Q _ _ v u s r e q)
/-! ### comparisons -/
def pl60 (d : D) : Bool := pl 60 d
theorem pl60_shaped {d : D} (h : pl60 d = true) : (toP d).plain = true ∧ (toP d).depth ≤ 60 := pl_plain h
def rEqP (K : PySem.W.Frag) (neg : Bool) : R2 := fun x y H Q => ∃ d e, Dp K H x d ∧ Dp K H y e ∧ d.plain = true ∧ e.plain = true ∧ d.depth ≤ 64 ∧ Q (.bl (if neg then !PyData.eqv d e else PyData.eqv d e)) H
section
variable {X : Cx}
theorem op_eqP (hu : X.A.units + 66 < cLine) : OpR X (compareOp .Eq) (rEqP X.K false) := by
  intro pins s σ H x y v u Q I rx ry h
  obtain ⟨d, e, hd, he, sd, se, dp, q⟩ := h
  obtain ⟨as, r1⟩ := Dp.reads I d x v hd rx
  obtain ⟨bs, r2⟩ := Dp.reads I e y u he ry
  exact SeqAt.eq_plain r1 r2 sd se (by omega) ⟨.bl _, H, I, rfl, q⟩
theorem op_neP (hu : X.A.units + 66 < cLine) : OpR X (compareOp .NotEq) (rEqP X.K true) := by
  intro pins s σ H x y v u Q I rx ry h
  obtain ⟨d, e, hd, he, sd, se, dp, q⟩ := h
  obtain ⟨as, r1⟩ := Dp.reads I d x v hd rx
  obtain ⟨bs, r2⟩ := Dp.reads I e y u he ry
  exact SeqAt.ne_plain r1 r2 sd se (by omega) ⟨.bl _, H, I, rfl, q⟩
def rInP (K : PySem.W.Frag) (neg : Bool) : R2 := fun x y H Q => ∃ d ds, Dp K H x d ∧ (Dp K H y (.list ds) ∨ Dp K H y (.tuple ds)) ∧ d.plain = true ∧ PyData.plainAll ds = true ∧ d.depth ≤ 64 ∧ Q (.bl (if neg then !(ds.any fun z => PyData.eqv z d) else ds.any fun z => PyData.eqv z d)) H
theorem op_inP (hu : X.A.units + 66 < cLine) : OpR X (compareOp .In) (rInP X.K false) := by
  intro pins s σ H x y v u Q I rx ry h
  obtain ⟨d, ds, hd, he, sd, se, dp, q⟩ := h
  obtain ⟨as, r1⟩ := Dp.reads I d x v hd rx
  rcases he with he | he
  · obtain ⟨bs, r2⟩ := Dp.reads I _ y u he ry
    exact SeqAt.in_list_data r2 r1 se sd (by omega) ⟨.bl _, H, I, rfl, q⟩
  · obtain ⟨bs, r2⟩ := Dp.reads I _ y u he ry
    exact SeqAt.in_tuple_data r2 r1 se sd (by omega) ⟨.bl _, H, I, rfl, q⟩
theorem op_ninP (hu : X.A.units + 66 < cLine) : OpR X (compareOp .NotIn) (rInP X.K true) := by
  intro pins s σ H x y v u Q I rx ry h
  obtain ⟨d, ds, hd, he, sd, se, dp, q⟩ := h
  obtain ⟨as, r1⟩ := Dp.reads I d x v hd rx
  rcases he with he | he
  · obtain ⟨bs, r2⟩ := Dp.reads I _ y u he ry
    exact SeqAt.notIn_list_data r2 r1 se sd (by omega) ⟨.bl _, H, I, rfl, q⟩
  · obtain ⟨bs, r2⟩ := Dp.reads I _ y u he ry
    exact SeqAt.notIn_tuple_data r2 r1 se sd (by omega) ⟨.bl _, H, I, rfl, q⟩
end
def gEq (x y : D) : Option S := if pl60 x && pl60 y then ok1 (.bl (eqD x y)) else none
def gNe (x y : D) : Option S := if pl60 x && pl60 y then ok1 (.bl (!eqD x y)) else none
theorem od_eqN {c : Cfg} (neg : Bool) {g : D → D → Option S} (hg : ∀ x y s, g x y = some s → pl60 x = true ∧ pl60 y = true ∧ s = .d (.bl (if neg then !eqD x y else eqD x y))) : OpDen c (rEqP c.K neg) g := by
  intro B ts vs ρ σ H Q x y v u s r e q
  obtain ⟨G, O, h1, h2⟩ := r.two
  obtain ⟨p1, p2, rfl⟩ := hg x y s e
  exact ⟨toP x, toP y, h1.dp O.sub p1, h2.dp O.sub p2, (pl60_shaped p1).1, (pl60_shaped p2).1, Nat.le_trans (pl60_shaped p1).2 (by decide), q _ _ (O.val (.bl _))⟩
theorem od_eq {c : Cfg} : OpDen c (rEqP c.K false) gEq := od_eqN false fun x y s e => by
  unfold gEq at e
  split at e
  · rename_i h
    rw [Bool.and_eq_true] at h
    cases e
    exact ⟨h.1, h.2, rfl⟩
  · cases e
theorem od_ne {c : Cfg} : OpDen c (rEqP c.K true) gNe := od_eqN true fun x y s e => by
  unfold gNe at e
  split at e
  · rename_i h
    rw [Bool.and_eq_true] at h
    cases e
    exact ⟨h.1, h.2, rfl⟩
  · cases e
/-- the items of a list, a tuple -/
def itemsD : D → Option (List D)
  | .tup ds => some ds
  | .lst ds => some ds
  | _ => none
def inD (x : D) (ds : List D) : Bool := ds.any fun z => eqD z x
def gInN (neg : Bool) (x y : D) : Option S := match itemsD y with
  | some ds => if pl60 x && plA 60 ds then ok1 (.bl (if neg then !inD x ds else inD x ds)) else none
  | none => none
def gIn : D → D → Option S := gInN false
def gNotIn : D → D → Option S := gInN true
theorem od_in {c : Cfg} {neg : Bool} : OpDen c (rInP c.K neg) (gInN neg) := by
  intro B ts vs ρ σ H Q x y v u s r e q
  obtain ⟨G, O, h1, h2⟩ := r.two
  unfold gInN at e
  split at e
  · rename_i ds hi
    split at e
    · rename_i hp
      rw [Bool.and_eq_true] at hp
      cases e
      have e3 : (toPs ds).any (fun z => PyData.eqv z (toP x)) = inD x ds := by
        rw [toPs_map, List.any_map]
        rfl
      refine ⟨toP x, toPs ds, h1.dp O.sub hp.1, ?_, (pl60_shaped hp.1).1, (plA_plain hp.2).1, Nat.le_trans (pl60_shaped hp.1).2 (by decide), ?_⟩
      · cases y <;> first | cases hi | skip
        · have := h2.dp (n := 61) O.sub (by simpa [pl] using hp.2)
          simp only [toP] at this
          exact .inr this
        · have := h2.dp (n := 61) O.sub (by simpa [pl] using hp.2)
          simp only [toP] at this
          exact .inl this
      · rw [e3]
        exact q _ _ (O.val (.bl _))
    · cases e
  · cases e
def gBB (f : Int → Int → Bool) : D → D → Option S
  | .int i, .int j => ok1 (.bl (f i j))
  | _, _ => none
theorem od_BB {c : Cfg} {f : Int → Int → Bool} : OpDen c (rI0 fun i j => .bl (f i j)) (gBB f) := by
  intro B ts vs ρ σ H Q x y v u s r e q
  obtain ⟨G, O, h1, h2⟩ := r.two
  cases x <;> cases y <;> first | cases e | skip
  cases h1
  cases h2
  exact ⟨_, _, rfl, rfl, q _ _ (O.val (.bl _))⟩
def gLt : D → D → Option S := gBB fun i j => decide (i < j)
def gLe : D → D → Option S := gBB fun i j => decide (i ≤ j)
def gGt : D → D → Option S := gBB fun i j => decide (j < i)
def gGe : D → D → Option S := gBB fun i j => decide (j ≤ i)
def isN : D → Bool
  | .non => true
  | _ => false
def gIsN (x y : D) : Option S := if isN y then ok1 (.bl (isN x)) else none
def gNotN (x y : D) : Option S := if isN y then ok1 (.bl (!isN x)) else none
theorem Rp.isN {c : Cfg} {G : Hp} {v : V} {x : D} (h : Rp c G v x) : decide (v = .non) = isN x := by
  cases h <;> rfl
theorem od_isN {c : Cfg} : OpDen c (fun x y H Q => y = .non ∧ Q (.bl (decide (x = .non))) H) gIsN := by
  intro B ts vs ρ σ H Q x y v u s r e q
  obtain ⟨G, O, h1, h2⟩ := r.two
  unfold gIsN at e
  split at e
  · rename_i hy
    cases e
    have : u = .non := by
      rw [← h2.isN] at hy
      exact of_decide_eq_true hy
    exact ⟨this, by rw [h1.isN]; exact q _ _ (O.val (.bl _))⟩
  · cases e
theorem od_notN {c : Cfg} : OpDen c (fun x y H Q => y = .non ∧ Q (.bl (!decide (x = .non))) H) gNotN := by
  intro B ts vs ρ σ H Q x y v u s r e q
  obtain ⟨G, O, h1, h2⟩ := r.two
  unfold gNotN at e
  split at e
  · rename_i hy
    cases e
    have : u = .non := by
      rw [← h2.isN] at hy
      exact of_decide_eq_true hy
    exact ⟨this, by rw [h1.isN]; exact q _ _ (O.val (.bl _))⟩
  · cases e
/-! ### subscripts -/
def gIx : D → D → Option S
  | .tup xs, .int i => (atI xs i).bind ok1
  | .lst xs, .int i => (atI xs i).bind ok1
  | .scr ns, .int i => (atI ns i).bind fun n => ok1 (.int n)
  | .str z, .int i => if small z.length then (atI z.cps.toList i).bind fun k => ok1 (.str ⟨#[k]⟩) else none
  | _, _ => none
theorem RpAll.atI {c : Cfg} {G : Hp} {us : List V} {xs : List D} {i : Int} {d : D} (h : RpAll c G us xs) (e : atI xs i = some d) : ∃ v, atI us i = some v ∧ Rp c G v d := by
  unfold L2.atI at e ⊢
  rw [h.length]
  cases e1 : ixN xs.length i with
  | none => rw [e1] at e; cases e
  | some j =>
    rw [e1] at e
    exact h.get e
theorem atI_map {α β : Type} {f : α → β} {xs : List α} {i : Int} : atI (xs.map f) i = (atI xs i).map f := by
  unfold atI
  rw [List.length_map]
  cases ixN xs.length i with
  | none => rfl
  | some j => exact List.getElem?_map
theorem od_ix {c : Cfg} : OpDen c (rIx c.K) gIx := by
  intro B ts vs ρ σ H Q x y v u s r e q
  obtain ⟨G, O, h1, h2⟩ := r.two
  cases x <;> cases y <;> first | cases e | skip
  · rename_i z i
    have e : (if small z.length then (atI z.cps.toList i).bind fun k => ok1 (.str ⟨#[k]⟩) else none) = some s := e
    split at e
    · rename_i hz
      cases h1
      cases h2
      cases e1 : atI z.cps.toList i with
      | none => rw [e1] at e; cases e
      | some k =>
        rw [e1] at e
        cases e
        exact .inr (.inr ⟨z, i, k, rfl, rfl, small_line hz, e1, q _ _ (O.val (.str _))⟩)
    · cases e
  · rename_i xs i
    have e : (atI xs i).bind ok1 = some s := e
    cases e1 : atI xs i with
    | none => rw [e1] at e; cases e
    | some d =>
      rw [e1] at e
      cases e
      cases h2
      obtain ⟨a, us, rfl, ha, ka⟩ := h1.tupE
      obtain ⟨w, e2, hw⟩ := ka.atI e1
      exact .inr (.inl ⟨a, us, i, w, rfl, rfl, SqT.up O.sub ha, e2, q _ _ (O.val hw)⟩)
  · rename_i xs i
    have e : (atI xs i).bind ok1 = some s := e
    cases e1 : atI xs i with
    | none => rw [e1] at e; cases e
    | some d =>
      rw [e1] at e
      cases e
      cases h2
      obtain ⟨a, us, rfl, ha, ka⟩ := h1.lstE
      obtain ⟨w, e2, hw⟩ := ka.atI e1
      exact .inl ⟨a, us, i, w, rfl, rfl, SqL.of (O.sub _ _ ha), e2, q _ _ (O.val hw)⟩
  · rename_i ns i
    have e : (atI ns i).bind (fun n => ok1 (.int n)) = some s := e
    cases e1 : atI ns i with
    | none => rw [e1] at e; cases e
    | some n =>
      rw [e1] at e
      cases e
      cases h2
      obtain ⟨a, rfl, ha⟩ := h1.scrE
      exact .inl ⟨a, _, i, _, rfl, rfl, Same.seq O.sub ha, by rw [atI_map, e1]; rfl, q _ _ (O.val (.int _))⟩
/-! ### displays -/
def mTup (fa : M (List D)) : M S := fun ρ => (fa ρ).then fun ds ρ1 => if small ds.length then .ok (.d (.tup ds)) ρ1 else .stuck
def mLst (fa : M (List D)) : M S := fun ρ => (fa ρ).then fun ds ρ1 => if small ds.length then .ok (.o none (.lst ds)) ρ1 else .stuck
section
variable {c : Cfg} {W : WX} {tA : TA} {fA : M (List D)}
theorem den_tup (ha : DenA c W tA fA) : Den c W (tTupN tA) (mTup fA) := by
  intro B ts vs ρ σ H Q rp h
  unfold mTup at h
  rw [post_then] at h
  refine ha B ts vs ρ σ H _ rp (h.imp1 fun ds ρ1 h us H1 hl r1 => ?_)
  split at h
  · rename_i hz
    obtain ⟨G, O, k⟩ := r1.opn hl
    exact ⟨by rw [hl]; exact small_line hz, fun p o hp ho => h _ _ (O.new hp rfl fun G' m e => .tup (.inl (.inr ⟨o, e⟩)) (k.mono m) fun _ => ⟨o, e, ho⟩)⟩
  · exact h.elim
theorem den_lst (ha : DenA c W tA fA) : Den c W (tLst tA) (mLst fA) := by
  intro B ts vs ρ σ H Q rp h
  unfold mLst at h
  rw [post_then] at h
  refine ha B ts vs ρ σ H _ rp (h.imp1 fun ds ρ1 h us H1 hl r1 => ?_)
  split at h
  · rename_i hz
    obtain ⟨G, O, k⟩ := r1.opn hl
    exact ⟨by rw [hl]; exact small_line hz, fun p hp => h _ _ (O.newO hp fun H' e => ⟨_, e, k⟩)⟩
  · exact h.elim
end
/-! ### calls of built-ins -/
theorem Rep.one' {c : Cfg} {B : Base} {ts : En} {vs : List (Option V)} {ρ : En} {σ : L2.St} {H : Hp} {x : D} {us : List V} (hl : us.length = [x].length) (r : Rep c B (tmp [x] ++ ts) (tmv us ++ vs) ρ σ H) : ∃ v, us = [v] ∧ ∃ G, Opn c B ts vs ρ σ H G ∧ Rp c G v x := by
  obtain ⟨G, O, k⟩ := r.opn hl
  cases k with
  | cons h k =>
    cases k
    exact ⟨_, rfl, G, O, h⟩
theorem Rep.two' {c : Cfg} {B : Base} {ts : En} {vs : List (Option V)} {ρ : En} {σ : L2.St} {H : Hp} {x y : D} {us : List V} (hl : us.length = [x, y].length) (r : Rep c B (tmp [x, y] ++ ts) (tmv us ++ vs) ρ σ H) : ∃ v w, us = [v, w] ∧ ∃ G, Opn c B ts vs ρ σ H G ∧ Rp c G v x ∧ Rp c G w y := by
  obtain ⟨G, O, k⟩ := r.opn hl
  cases k with
  | cons h k =>
    cases k with
    | cons h' k =>
      cases k
      exact ⟨_, _, rfl, G, O, h, h'⟩
def rLenG (K : PySem.W.Frag) : List V → Hp → VK → Prop := fun xs H Q => (∃ p ys, xs = [.ref p] ∧ (SqL K H p ys ∨ SqT K H p ys) ∧ Q (.int ys.length) H) ∨ (∃ z, xs = [.str z] ∧ z.length ≤ sizeLine ∧ Q (.int z.length) H)
theorem cr_lenG {X : Cx} : CallR X (.builtin "len") (rLenG X.K) := CallR.or call_len_seq call_len_str
def lenD : D → Option Nat
  | .tup ds => some ds.length
  | .lst ds => some ds.length
  | .scr ns => some ns.length
  | .str z => if small z.length then some z.length else none
  | _ => none
def gLen : List D → Option S
  | [x] => (lenD x).bind fun n => ok1 (.int n)
  | _ => none
theorem cd_len {c : Cfg} : CbDen c (rLenG c.K) gLen := by
  intro B ts vs ρ σ H Q ds us s hl r e q
  match ds, hl, r, e with
  | [x], hl, r, e =>
    obtain ⟨v, rfl, G, O, h⟩ := r.one' hl
    have e : (lenD x).bind (fun n => ok1 (.int n)) = some s := e
    cases x with
    | str z =>
      have e : ((if small z.length then some z.length else none).bind fun n => ok1 (.int n)) = some s := e
      split at e
      · rename_i hz
        cases e
        cases h
        exact .inr ⟨z, rfl, small_line hz, q _ _ (O.val (.int _))⟩
      · cases e
    | tup ds =>
      cases e
      obtain ⟨a, xs, rfl, ha, ka⟩ := h.tupE
      exact .inl ⟨a, xs, rfl, .inr (SqT.up O.sub ha), by rw [ka.length]; exact q _ _ (O.val (.int _))⟩
    | lst ds =>
      cases e
      obtain ⟨a, xs, rfl, ha, ka⟩ := h.lstE
      exact .inl ⟨a, xs, rfl, .inl (SqL.of (O.sub _ _ ha)), by rw [ka.length]; exact q _ _ (O.val (.int _))⟩
    | scr ns =>
      cases e
      obtain ⟨a, rfl, ha⟩ := h.scrE
      exact .inl ⟨a, _, rfl, .inl (Same.seq O.sub ha), by rw [List.length_map]; exact q _ _ (O.val (.int _))⟩
    | _ => cases e
  | [], _, _, e => cases e
  | _ :: _ :: _, _, _, e => cases e
/-- tuple(x), list(x) of a list, a tuple -/
def gTuple : List D → Option S
  | [.tup ds] => ok1 (.tup ds)
  | [.lst ds] => ok1 (.tup ds)
  | _ => none
theorem cd_tuple {c : Cfg} : CbDen c (rTupN c.K) gTuple := by
  intro B ts vs ρ σ H Q ds us s hl r e q
  match ds, hl, r, e with
  | [.tup ds], hl, r, e =>
    cases e
    obtain ⟨v, rfl, G, O, h⟩ := r.one' hl
    obtain ⟨a, xs, rfl, ha, ka, na⟩ := h.tupN
    exact ⟨a, xs, rfl, .inr ⟨SqT.up O.sub ha, q _ _ (O.val (.tup ha ka na))⟩⟩
  | [.lst ds], hl, r, e =>
    cases e
    obtain ⟨v, rfl, G, O, h⟩ := r.one' hl
    obtain ⟨a, xs, rfl, ha, ka⟩ := h.lstE
    exact ⟨a, xs, rfl, .inl ⟨SqL.of (O.sub _ _ ha), fun p o hp ho => q _ _ (O.new hp rfl fun G' m e => .tup (.inl (.inr ⟨o, e⟩)) (ka.mono m) fun _ => ⟨o, e, ho⟩)⟩⟩
def gList : List D → Option S
  | [.tup ds] => some (.o none (.lst ds))
  | [.lst ds] => some (.o none (.lst ds))
  | _ => none
theorem cd_list {c : Cfg} : CbDen c (fun xs H Q => ∃ p ys, xs = [.ref p] ∧ (SqL c.K H p ys ∨ SqT c.K H p ys) ∧ ∀ l, H l = none → Q (.ref l) (upd H l (.lst ys))) gList := by
  intro B ts vs ρ σ H Q ds us s hl r e q
  match ds, hl, r, e with
  | [.tup ds], hl, r, e =>
    cases e
    obtain ⟨v, rfl, G, O, h⟩ := r.one' hl
    obtain ⟨a, xs, rfl, ha, ka⟩ := h.tupE
    exact ⟨a, xs, rfl, .inr (SqT.up O.sub ha), fun p hp => q _ _ (O.newO hp fun H' e => ⟨_, e, ka⟩)⟩
  | [.lst ds], hl, r, e =>
    cases e
    obtain ⟨v, rfl, G, O, h⟩ := r.one' hl
    obtain ⟨a, xs, rfl, ha, ka⟩ := h.lstE
    exact ⟨a, xs, rfl, .inl (SqL.of (O.sub _ _ ha)), fun p hp => q _ _ (O.newO hp fun H' e => ⟨_, e, ka⟩)⟩
/-- all, any of a list of bools -/
def blsD : List D → Option (List Bool)
  | [] => some []
  | .bl b :: ds => (blsD ds).map (b :: ·)
  | _ => none
theorem RpAll.bls {c : Cfg} {G : Hp} : ∀ {us : List V} {ds : List D} {bs : List Bool}, blsD ds = some bs → RpAll c G us ds → us = bs.map V.bl
  | _, [], _, e, h => by cases e; cases h; rfl
  | _, d :: ds, bs, e, h => by
    cases d <;> first | cases e | skip
    rename_i b
    have e : (blsD ds).map (b :: ·) = some bs := e
    cases e1 : blsD ds with
    | none => rw [e1] at e; cases e
    | some bs' =>
      rw [e1] at e
      cases e
      cases h with
      | cons h k =>
        cases h
        rw [k.bls e1]
        rfl
def gAll : List D → Option S
  | [.lst ds] => (blsD ds).bind fun bs => ok1 (.bl (bs.all id))
  | _ => none
theorem cd_all {c : Cfg} : CbDen c (rAll c.K) gAll := by
  intro B ts vs ρ σ H Q ds us s hl r e q
  match ds, hl, r, e with
  | [.lst ds], hl, r, e =>
    obtain ⟨v, rfl, G, O, h⟩ := r.one' hl
    obtain ⟨a, xs, rfl, ha, ka⟩ := h.lstE
    have e : (blsD ds).bind (fun bs => ok1 (.bl (bs.all id))) = some s := e
    cases e1 : blsD ds with
    | none => rw [e1] at e; cases e
    | some bs =>
      rw [e1] at e
      cases e
      have := ka.bls e1
      subst this
      exact ⟨a, bs, rfl, SqL.of (O.sub _ _ ha), q _ _ (O.val (.bl _))⟩
end Fx
/-! tests, statements, targets, loops, comprehensions -/
namespace Fx
open PySem PySem.Spec PyProof.Rows L2
theorem RpAll.sl {c : Cfg} {B : Base} {G H : Hp} {ts : En} {vs : List (Option V)} {own : Owns} : ∀ {us : List V} {ds : List D}, RpAll c G us ds → Sl c B G H ts vs own → Sl c B G H ((ds.map fun x => some (S.d x)) ++ ts) (us.map some ++ vs) own
  | _, _, .nil, h => h
  | _, _, .cons a k, h => .d a (RpAll.sl k h)
/-! ### tests -/
def mTest (f : M S) : M Bool := fun ρ => (dv f ρ).then fun x ρ' => match x with
  | .bl b => .ok b ρ'
  | _ => .stuck
def mNot (f : M Bool) : M Bool := fun ρ => (f ρ).then fun b ρ' => .ok (!b) ρ'
def mAnd (f g : M Bool) : M Bool := fun ρ => (f ρ).then fun b ρ' => if b = true then g ρ' else .ok false ρ'
def mOr (f g : M Bool) : M Bool := fun ρ => (f ρ).then fun b ρ' => if b = true then .ok true ρ' else g ρ'
def mAndV (f g : M S) : M S := fun ρ => (mTest f ρ).then fun b ρ' => if b = true then g ρ' else .ok (.d (.bl false)) ρ'
def mOrV (f g : M S) : M S := fun ρ => (mTest f ρ).then fun b ρ' => if b = true then .ok (.d (.bl true)) ρ' else g ρ'
def mNotV (f : M S) : M S := fun ρ => (mTest f ρ).then fun b ρ' => .ok (.d (.bl (!b))) ρ'
def mIf (t : M Bool) (f g : M S) : M S := fun ρ => (t ρ).then fun b ρ' => if b = true then f ρ' else g ρ'
def mYes : M Bool := fun ρ => .ok true ρ
section
variable {c : Cfg} {W : WX} {B : Base} {H : Hp} {ts : En} {vs : List (Option V)} {ρ : En} {σ : L2.St} {te ta tb : TE} {fe fa fb : M S} {tt tu : TT} {ft fu : M Bool}
theorem Den.test (h : Den c W te fe) {Q : Bool → Hp → Prop} (r : Rep c B ts vs ρ σ H) (q : Post (fun b ρ' => ∀ H', Rep c B ts vs ρ' σ H' → Q b H') (ErrP c W B ts vs σ) (mTest fe ρ)) : te σ H fun x H' => ∃ k, x = .bl k ∧ Q k H' := by
  unfold mTest at q
  rw [post_then] at q
  refine h.dv r (q.imp1 fun x ρ' p v H' r' => ?_)
  cases x <;> first | exact p.elim | skip
  obtain ⟨G, O, hv⟩ := r'.one
  cases hv
  exact ⟨_, rfl, p H' r'.drop⟩
theorem dt_test (h : Den c W te fe) : DenT c W (tTest te) (mTest fe) := fun B ts vs ρ σ H Q r q => h.test r q
theorem dt_B (h : Den c W te fe) : DenT c W (tB te) (mTest fe) := fun B ts vs ρ σ H Q r q => h.test r q
theorem dt_not (h : DenT c W tt ft) : DenT c W (tNot tt) (mNot ft) := fun B ts vs ρ σ H Q r q => by
  unfold mNot at q
  rw [post_then] at q
  exact h B ts vs ρ σ H _ r q
theorem dt_and (h : DenT c W tt ft) (k : DenT c W tu fu) : DenT c W (tAnd tt tu) (mAnd ft fu) := fun B ts vs ρ σ H Q r q => by
  unfold mAnd at q
  rw [post_then] at q
  refine h B ts vs ρ σ H _ r (q.imp1 fun b ρ' p H' r' => ?_)
  cases b with
  | true => exact k B ts vs ρ' σ H' Q r' p
  | false => exact p H' r'
theorem dt_or (h : DenT c W tt ft) (k : DenT c W tu fu) : DenT c W (tOr tt tu) (mOr ft fu) := fun B ts vs ρ σ H Q r q => by
  unfold mOr at q
  rw [post_then] at q
  refine h B ts vs ρ σ H _ r (q.imp1 fun b ρ' p H' r' => ?_)
  cases b with
  | true => exact p H' r'
  | false => exact k B ts vs ρ' σ H' Q r' p
theorem dt_yes : DenT c W tYes mYes := fun B ts vs ρ σ H Q r q => q H r
theorem OkP.bl {Q : VK} {b : Bool} {ρ : En} (h : OkP c B ts vs σ Q (.d (.bl b)) ρ) {H : Hp} (r : Rep c B ts vs ρ σ H) : Q (.bl b) H := h _ _ (Rep.repl (ds := []) (us := []) r rfl fun G _ => .bl b)
theorem den_andV (h : Den c W ta fa) (k : Den c W tb fb) : Den c W (tAndV ta tb) (mAndV fa fb) := fun B ts vs ρ σ H Q r q => by
  unfold mAndV at q
  rw [post_then] at q
  refine h.test (Q := fun b H1 => if b = true then tb σ H1 Q else Q (.bl false) H1) r (q.imp1 fun b ρ' p H' r' => ?_)
  cases b with
  | true => exact k B ts vs ρ' σ H' Q r' p
  | false => exact OkP.bl p r'
theorem den_notV (h : Den c W ta fa) : Den c W (tNotV ta) (mNotV fa) := fun B ts vs ρ σ H Q r q => by
  unfold mNotV at q
  rw [post_then] at q
  exact h.test r (q.imp1 fun b ρ' p H' r' => OkP.bl p r')
theorem den_if (h : DenT c W tt ft) (ka : Den c W ta fa) (kb : Den c W tb fb) : Den c W (tIf tt ta tb) (mIf ft fa fb) := fun B ts vs ρ σ H Q r q => by
  unfold mIf at q
  rw [post_then] at q
  refine h B ts vs ρ σ H _ r (q.imp1 fun b ρ' p H' r' => ?_)
  cases b with
  | true => exact ka B ts vs ρ' σ H' Q r' p
  | false => exact kb B ts vs ρ' σ H' Q r' p
end
/-! ### statements -/
inductive Fl where
  | nx | rt (s : S) | bk | ct
def EndP (c : Cfg) (B : Base) (ts : En) (vs : List (Option V)) (D : Ends) : Fl → En → Prop
  | .nx, ρ => ∀ σ H, Rep c B ts vs ρ σ H → D.nx σ H
  | .bk, ρ => ∀ σ H, Rep c B ts vs ρ σ H → D.bk σ H
  | .ct, ρ => ∀ σ H, Rep c B ts vs ρ σ H → D.ct σ H
  | .rt s, ρ => ∀ v σ H, Rep c B (some s :: ts) (some v :: vs) ρ σ H → D.rt v H
def ErrS (c : Cfg) (W : WX) (B : Base) (ts : En) (vs : List (Option V)) (e : Err) (ρ : En) : Prop := ∀ σ k d H, c.err e k d H → Rep c B ts vs ρ σ H → W k d σ H
def DenS (c : Cfg) (W : WX) (t : TS) (F : M Fl) : Prop := ∀ B ts vs ρ σ H D, Rep c B ts vs ρ σ H → Post (EndP c B ts vs D) (ErrS c W B ts vs) (F ρ) → t D σ H
/-- but for the slots js -/
def Off (js : List Nat) (σ σ' : L2.St) : Prop := σ'.length = σ.length ∧ ∀ i, i ∉ js → σ'[i]? = σ[i]?
def DenG (c : Cfg) (W : WX) (g : TG) (F : D → M Unit) (js : List Nat) : Prop := ∀ B ts vs ρ σ H x v Q, Rep c B (some (.d x) :: ts) (some v :: vs) ρ σ H → Post (fun _ ρ' => ∀ σ' H', Off js σ σ' → Rep c B ts vs ρ' σ' H' → Q σ' H') (ErrS c W B ts vs) (F x ρ) → g v σ H Q
def DenGs (c : Cfg) (W : WX) (g : TGs) (F : List D → M Unit) (js : List Nat) : Prop := ∀ B ts vs ρ σ H ds us Q, us.length = ds.length → Rep c B ((ds.map fun x => some (S.d x)) ++ ts) (us.map some ++ vs) ρ σ H → Post (fun _ ρ' => ∀ σ' H', Off js σ σ' → Rep c B ts vs ρ' σ' H' → Q σ' H') (ErrS c W B ts vs) (F ds ρ) → g us σ H Q
def mNx : M Fl := fun ρ => .ok .nx ρ
def mBk : M Fl := fun ρ => .ok .bk ρ
def mCt : M Fl := fun ρ => .ok .ct ρ
def mSt : M Fl := fun _ => .stuck
def mSeq (F G : M Fl) : M Fl := fun ρ => (F ρ).then fun f ρ' => match f with
  | .nx => G ρ'
  | .rt s => .ok (.rt s) ρ'
  | .bk => .ok .bk ρ'
  | .ct => .ok .ct ρ'
def mRet (f : M S) : M Fl := fun ρ => (f ρ).then fun s ρ' => .ok (.rt s) ρ'
def mRetN : M Fl := fun ρ => .ok (.rt (.d .non)) ρ
/-- the value of a name is handed back, its cell with it -/
def mRetO (i : Nat) : M Fl := fun ρ => match ρ[i]? with
  | some (some (.o none x)) => .ok (.rt (.o none x)) (ρ.set i none)
  | some (some (.d x)) => .ok (.rt (.d x)) ρ
  | _ => .stuck
def mIfS (t : M Bool) (F G : M Fl) : M Fl := fun ρ => (t ρ).then fun b ρ' => if b = true then F ρ' else G ρ'
def mDrop (f : M S) : M Fl := fun ρ => (f ρ).then fun _ ρ' => .ok .nx ρ'
def mAsg (f : M S) (g : D → M Unit) : M Fl := fun ρ => (dv f ρ).then fun x ρ' => (g x ρ').then fun _ ρ2 => .ok .nx ρ2
def mAsgO (i : Nat) (f : M S) : M Fl := fun ρ => (f ρ).then fun s ρ' => match s with
  | .o none x => .ok .nx (ρ'.set i (some (.o none x)))
  | .d x => .ok .nx (ρ'.set i (some (.d x)))
  | _ => .stuck
def gmName (i : Nat) : D → M Unit := fun x ρ => .ok () (ρ.set i (some (.d x)))
def gmNil : List D → M Unit := fun ds ρ => match ds with
  | [] => .ok () ρ
  | _ => .stuck
def gmCons (g : D → M Unit) (gs : List D → M Unit) : List D → M Unit := fun ds ρ => match ds with
  | d :: r => (g d ρ).then fun _ ρ' => gs r ρ'
  | [] => .stuck
def gmTup (n : Nat) (gs : List D → M Unit) : D → M Unit := fun x ρ => match x with
  | .tup ds => if ds.length = n then gs ds ρ else .stuck
  | _ => .stuck
section
variable {c : Cfg} {W : WX} {te : TE} {fe : M S} {tt : TT} {ft : M Bool} {t u : TS} {F G : M Fl} {g : TG} {gm : D → M Unit} {js js' : List Nat}
theorem ErrS.toP {B : Base} {ts : En} {vs : List (Option V)} {σ : L2.St} {e : Err} {ρ : En} (h : ErrS c W B ts vs e ρ) : ErrP c W B ts vs σ e ρ := fun k d H' he r => h σ k d H' he r
theorem ErrS.drop {B : Base} {ts : En} {vs : List (Option V)} {s : Option S} {v : Option V} {e : Err} {ρ : En} (h : ErrS c W B ts vs e ρ) : ErrS c W B (s :: ts) (v :: vs) e ρ := fun σ k d H' he r => h σ k d H' he r.drop
theorem ds_nx : DenS c W tNext mNx := fun B ts vs ρ σ H D r q => q σ H r
theorem ds_never : DenS c W tNever mSt := fun B ts vs ρ σ H D r q => q
theorem ds_seq (h : DenS c W t F) (k : DenS c W u G) : DenS c W (tSeq t u) (mSeq F G) := fun B ts vs ρ σ H D r q => by
  unfold mSeq at q
  rw [post_then] at q
  refine h B ts vs ρ σ H { D with nx := u D } r (q.imp1 fun f ρ' p => ?_)
  cases f with
  | nx => exact fun σ' H' r' => k B ts vs ρ' σ' H' D r' p
  | rt s => exact p
  | bk => exact p
  | ct => exact p
theorem ds_ret (h : Den c W te fe) : DenS c W (tRet te) (mRet fe) := fun B ts vs ρ σ H D r q => by
  unfold mRet at q
  rw [post_then] at q
  exact h B ts vs ρ σ H _ r (q.imp (fun s ρ' p v H' r' => p v σ H' r') fun _ _ h => h.toP)
theorem ds_if (h : DenT c W tt ft) (k : DenS c W t F) (l : DenS c W u G) : DenS c W (tIfS tt t u) (mIfS ft F G) := fun B ts vs ρ σ H D r q => by
  unfold mIfS at q
  rw [post_then] at q
  refine h B ts vs ρ σ H _ r (q.imp (fun b ρ' p H' r' => ?_) fun _ _ h => h.toP)
  cases b with
  | true => exact k B ts vs ρ' σ H' D r' p
  | false => exact l B ts vs ρ' σ H' D r' p
theorem ds_drop (h : Den c W te fe) : DenS c W (tDrop te) (mDrop fe) := fun B ts vs ρ σ H D r q => by
  unfold mDrop at q
  rw [post_then] at q
  exact h B ts vs ρ σ H _ r (q.imp (fun s ρ' p v H' r' => p σ H' r'.drop) fun _ _ h => h.toP)
theorem ds_asg (h : Den c W te fe) (k : DenG c W g gm js) : DenS c W (tAsg te g) (mAsg fe gm) := fun B ts vs ρ σ H D r q => by
  unfold mAsg at q
  rw [post_then] at q
  refine h.dv r (q.imp (fun x ρ' p v H' r' => ?_) fun _ _ h => h.toP)
  rw [post_then] at p
  exact k B ts vs ρ' σ H' x v D.nx r' (p.imp1 fun _ ρ2 p2 σ2 H2 _ r2 => p2 σ2 H2 r2)
theorem ds_asgO {i : Nat} (h : Den c W te fe) : DenS c W (tAsg te (gName i)) (mAsgO i fe) := fun B ts vs ρ σ H D r q => by
  unfold mAsgO at q
  rw [post_then] at q
  refine h B ts vs ρ σ H _ r (q.imp (fun s ρ' p v H' r' => ?_) fun _ _ h => h.toP)
  cases s with
  | d x => exact p _ H' r'.set
  | o b x =>
    cases b with
    | some _ => exact p.elim
    | none => exact p _ H' r'.set
  | q _ _ => exact p.elim
theorem dg_name {i : Nat} : DenG c W (gName i) (gmName i) [i] := fun B ts vs ρ σ H x v Q r q => q _ H ⟨by rw [List.length_set], fun j hj => List.getElem?_set_ne fun e => hj (by simp [e])⟩ r.set
theorem dgs_nil : DenGs c W gNil gmNil [] := fun B ts vs ρ σ H ds us Q hl r q => by
  cases ds with
  | nil =>
    cases us with
    | nil => exact ⟨rfl, q σ H ⟨rfl, fun _ _ => rfl⟩ r⟩
    | cons _ _ => simp at hl
  | cons _ _ => exact q.elim
theorem dgs_cons {gs : TGs} {gms : List D → M Unit} (h : DenG c W g gm js) (k : DenGs c W gs gms js') : DenGs c W (gCons g gs) (gmCons gm gms) (js ++ js') := fun B ts vs ρ σ H ds us Q hl r q => by
  cases ds with
  | nil => exact q.elim
  | cons x ds =>
    cases us with
    | nil => simp at hl
    | cons v us =>
      have hl' : us.length = ds.length := by simpa using hl
      refine ⟨v, us, rfl, ?_⟩
      have q : Post _ _ ((gm x ρ).then fun _ ρ' => gms ds ρ') := q
      rw [post_then] at q
      refine h B _ _ ρ σ H x v _ r (q.imp (fun _ ρ' p σ' H' o1 r' => k B ts vs ρ' σ' H' ds us Q hl' r' (p.imp1 fun _ ρ2 p σ2 H2 o2 r2 => p σ2 H2 ⟨o2.1.trans o1.1, fun i hi => (o2.2 i fun z => hi (List.mem_append_right _ z)).trans (o1.2 i fun z => hi (List.mem_append_left _ z))⟩ r2)) fun e ρ' h σ' k' d H' he r' => h σ' k' d H' he ?_)
      have r2 := Rep.dropN (ds := ds.reverse) (us := us.reverse) (by simpa using hl') (by simpa [tmp, tmv] using r')
      exact r2
theorem dg_tup {gs : TGs} {gms : List D → M Unit} {n : Nat} (k : DenGs c W gs gms js) : DenG c W (gTup c.K n gs) (gmTup n gms) js := fun B ts vs ρ σ H x v Q r q => by
  cases x <;> first | exact q.elim | skip
  rename_i ds
  have q : Post _ _ (if ds.length = n then gms ds ρ else .stuck) := q
  split at q
  · rename_i hn
    obtain ⟨G, o1, o2, kk, h1, h2⟩ := r
    cases h1 with
    | d hv h1 =>
      obtain ⟨a, xs, rfl, ha, ka⟩ := hv.tupE
      refine ⟨a, xs, rfl, SqT.up kk.sub ha, by rw [ka.length, hn], k B ts vs ρ σ H ds xs Q ka.length ⟨G, o1, o2, kk, ?_, h2⟩ q⟩
      exact ka.sl h1
  · exact q.elim
end
/-! ### loops -/
/-- what a walk gives, turn by turn, while what it walks waits -/
def IsWalk (c : Cfg) (st : List D) (sv : List V) (J : It) (items : List D) : Prop := ∃ n Gw Y, Walk J n Gw Y ∧ n = items.length ∧
  (∀ B ts vs ρ σ H, Rep c B (tmp st ++ ts) (tmv sv ++ vs) ρ σ H → Gw H) ∧
  ∀ B ts vs ρ σ H k x H', k < n → Rep c B (tmp st ++ ts) (tmv sv ++ vs) ρ σ H → Y k H x H' → ∃ d, items[k]? = some d ∧ Rep c B (some (.d d) :: (tmp st ++ ts)) (some x :: (tmv sv ++ vs)) ρ σ H'
def OkI (c : Cfg) (B : Base) (ts : En) (vs : List (Option V)) (σ : L2.St) (R : It → Hp → Prop) (items : List D) (ρ : En) : Prop :=
  ∀ J st sv H', sv.length = st.length → Rep c B (tmp st ++ ts) (tmv sv ++ vs) ρ σ H' → IsWalk c st sv J items → R J H'
def DenI (c : Cfg) (W : WX) (wi : TI) (f : M (List D)) : Prop := ∀ B ts vs ρ σ H R, Rep c B ts vs ρ σ H → Post (OkI c B ts vs σ R) (ErrP c W B ts vs σ) (f ρ) → wi σ H R
/-- a for's turns -/
def mLoop (gm : D → M Unit) (F : M Fl) : List D → M Fl
  | [] => fun ρ => .ok .nx ρ
  | x :: xs => fun ρ => (gm x ρ).then fun _ ρ1 => (F ρ1).then fun f ρ2 => match f with
    | .nx => mLoop gm F xs ρ2
    | .ct => mLoop gm F xs ρ2
    | .bk => .ok .nx ρ2
    | .rt s => .ok (.rt s) ρ2
def mFor (fI : M (List D)) (gm : D → M Unit) (F : M Fl) : M Fl := fun ρ => (fI ρ).then fun items ρ1 => mLoop gm F items ρ1
def mWhile (ft : M Bool) (F : M Fl) : Nat → M Fl
  | 0 => fun _ => .stuck
  | n + 1 => fun ρ => (ft ρ).then fun b ρ1 => if b = true then (F ρ1).then fun f ρ2 => match f with
      | .nx => mWhile ft F n ρ2
      | .ct => mWhile ft F n ρ2
      | .bk => .ok .nx ρ2
      | .rt s => .ok (.rt s) ρ2
    else .ok .nx ρ1
section
variable {c : Cfg} {W : WX} {wi : TI} {fI : M (List D)} {te : TE} {fe : M S} {tt : TT} {ft : M Bool} {t u : TS} {F G : M Fl} {g : TG} {gm : D → M Unit} {js js' : List Nat}
theorem EndP.dropN {B : Base} {ts : En} {vs : List (Option V)} {st : List D} {sv : List V} {s : S} {v : V} {ρ : En} {σ : L2.St} {H : Hp} (hl : sv.length = st.length) (r : Rep c B (some s :: (tmp st ++ ts)) (some v :: (tmv sv ++ vs)) ρ σ H) : Rep c B (some s :: ts) (some v :: vs) ρ σ H := by
  obtain ⟨G, o1, o2, k, h1, h2⟩ := r
  obtain ⟨w, os, o1', ew, e1, rfl, h1'⟩ := h1.unone
  cases ew
  exact ⟨G, os ++ o1', o2, k, Sl.one e1 (h1'.tmp hl).2, h2⟩
theorem ds_for (h : DenI c W wi fI) (k : DenG c W g gm js) (l : DenS c W t F) : DenS c W (tFor wi g t) (mFor fI gm F) := fun B ts vs ρ σ H D r q => by
  unfold mFor at q
  rw [post_then] at q
  refine h B ts vs ρ σ H _ r (q.imp (fun items ρ1 q J st sv H1 hl r1 w => ?_) fun _ _ h => h.toP)
  obtain ⟨n, Gw, Y, wk, rfl, hG, hY⟩ := w
  refine for_it wk (fun i σ H => ∃ ρ, Rep c B (tmp st ++ ts) (tmv sv ++ vs) ρ σ H ∧ Post (EndP c B ts vs D) (ErrS c W B ts vs) (mLoop gm F (items.drop i) ρ)) ⟨ρ1, r1, q⟩ (fun i σ H _ ⟨ρ, r, _⟩ => hG _ _ _ _ _ _ r) ?_ ?_
  · rintro i x σ1 H1 H2 hi ⟨ρ, r, q⟩ y
    obtain ⟨d, ed, r2⟩ := hY _ _ _ _ _ _ _ _ _ hi r y
    have hd : items.drop i = d :: items.drop (i + 1) := by
      rw [List.drop_eq_getElem_cons hi]
      rw [List.getElem?_eq_getElem hi] at ed
      cases ed
      rfl
    rw [hd] at q
    have q : Post _ _ ((gm d ρ).then fun _ ρ1 => (F ρ1).then fun f ρ2 => _) := q
    rw [post_then] at q
    have er : ∀ e ρ, ErrS c W B ts vs e ρ → ErrS c W B (tmp st ++ ts) (tmv sv ++ vs) e ρ := fun e ρ h σ k d H' he r => h σ k d H' he (r.dropN hl)
    refine k B _ _ ρ σ1 H2 d x _ r2 (q.imp (fun _ ρ2 q σ2 H3 _ r3 => ?_) er)
    rw [post_then] at q
    refine l B _ _ ρ2 σ2 H3 _ r3 (q.imp (fun f ρ3 p => ?_) er)
    cases f with
    | nx => exact fun σ4 H4 r4 => ⟨ρ3, r4, p⟩
    | ct => exact fun σ4 H4 r4 => ⟨ρ3, r4, p⟩
    | bk => exact fun σ4 H4 r4 => p σ4 H4 (r4.dropN hl)
    | rt s => exact fun v σ4 H4 r4 => p v σ4 H4 (EndP.dropN hl r4)
  · rintro σ1 H1 ⟨ρ, r, q⟩
    rw [List.drop_length] at q
    exact q σ1 H1 (r.dropN hl)
theorem ds_while {n : Nat} (h : DenT c W tt ft) (l : DenS c W t F) : DenS c W (tWhile tt t) (mWhile ft F n) := fun B ts vs ρ σ H D r q => by
  refine ⟨fun m σ H => ∃ ρ, Rep c B ts vs ρ σ H ∧ Post (EndP c B ts vs D) (ErrS c W B ts vs) (mWhile ft F m ρ), ⟨n, ρ, r, q⟩, ?_⟩
  rintro m σ H ⟨ρ, r, q⟩
  cases m with
  | zero => exact q.elim
  | succ m =>
    have q : Post _ _ ((ft ρ).then fun b ρ1 => _) := q
    rw [post_then] at q
    refine h B ts vs ρ σ H _ r (q.imp (fun b ρ1 q H1 r1 => ?_) fun _ _ h => h.toP)
    cases b with
    | false => exact q σ H1 r1
    | true =>
      have q : Post _ _ ((F ρ1).then fun f ρ2 => _) := q
      rw [post_then] at q
      refine ⟨fun σ H => ∃ ρ, Rep c B ts vs ρ σ H ∧ Post (EndP c B ts vs D) (ErrS c W B ts vs) (mWhile ft F m ρ), fun σ' H' h => ⟨m, Nat.lt_succ_self m, h⟩, ?_⟩
      refine l B ts vs ρ1 σ H1 _ r1 (q.imp1 fun f ρ2 p => ?_)
      cases f with
      | nx => exact fun σ4 H4 r4 => ⟨ρ2, r4, p⟩
      | ct => exact fun σ4 H4 r4 => ⟨ρ2, r4, p⟩
      | bk => exact p
      | rt s => exact p
end
/-! ### what is walked -/
def iSeq (f : M S) : M (List D) := fun ρ => (dv f ρ).then fun x ρ' => match itemsD x with
  | some ds => .ok ds ρ'
  | none => .stuck
def intsFrom (lo : Int) : Nat → List D
  | 0 => []
  | n + 1 => .int lo :: intsFrom (lo + 1) n
theorem intsFrom_length : ∀ (n : Nat) (lo : Int), (intsFrom lo n).length = n
  | 0, _ => rfl
  | n + 1, lo => by simp [intsFrom, intsFrom_length n]
theorem intsFrom_get : ∀ (n : Nat) (lo : Int) (k : Nat), k < n → (intsFrom lo n)[k]? = some (.int (lo + k))
  | 0, _, _, h => absurd h (Nat.not_lt_zero _)
  | n + 1, lo, 0, _ => by simp [intsFrom]
  | n + 1, lo, k + 1, h => by
    simp only [intsFrom, List.getElem?_cons_succ]
    rw [intsFrom_get n (lo + 1) k (by omega)]
    congr 2
    push_cast
    omega
def rOk (i : Int) : Bool := decide (-4611686018427387904 ≤ i) && decide (i < 4611686018427387904)
def iRange1 (fa : M (List D)) : M (List D) := fun ρ => (fa ρ).then fun ds ρ' => match ds with
  | [.int j] => if rOk j then .ok (intsFrom 0 j.toNat) ρ' else .stuck
  | _ => .stuck
def iRange2 (fa : M (List D)) : M (List D) := fun ρ => (fa ρ).then fun ds ρ' => match ds with
  | [.int i, .int j] => if rOk i && rOk j then .ok (intsFrom i (j - i).toNat) ρ' else .stuck
  | _ => .stuck
section
variable {c : Cfg} {W : WX} {wi : TI} {fI : M (List D)} {te : TE} {fe : M S} {tA : TA} {fA : M (List D)}
theorem rOk_iff {i : Int} : rOk i = true ↔ -(2 ^ 62) ≤ i ∧ i < 2 ^ 62 := by
  unfold rOk
  simp only [Bool.and_eq_true, decide_eq_true_eq]
  constructor <;> (intro h; constructor <;> omega)
theorem walk_ints {lo : Int} {n : Nat} : IsWalk c [] [] (Itr lo n) (intsFrom lo n) := by
  refine ⟨n, _, _, walk_range, (intsFrom_length n lo).symm, fun _ _ _ _ _ _ _ => trivial, ?_⟩
  rintro B ts vs ρ σ H k x H' hk r ⟨rfl, rfl⟩
  exact ⟨_, intsFrom_get n lo k hk, Rep.repl (ds := []) (us := []) r rfl fun G _ => .int _⟩
theorem di_range1 (h : DenA c W tA fA) : DenI c W (iRng1 tA) (iRange1 fA) := fun B ts vs ρ σ H R r q => by
  unfold iRange1 at q
  rw [post_then] at q
  refine h B ts vs ρ σ H _ r (q.imp1 fun ds ρ' p us H' hl r' => ?_)
  split at p
  · rename_i j
    split at p
    · rename_i hj
      rw [rOk_iff] at hj
      obtain ⟨v, rfl, G, O, hv⟩ := r'.one' hl
      cases hv
      exact ⟨j, rfl, hj.1, hj.2, p _ [] [] H' rfl (Rep.dropN (ds := [.int j]) (us := [.int j]) rfl r') walk_ints⟩
    · exact p.elim
  · exact p.elim
theorem di_range2 (h : DenA c W tA fA) : DenI c W (iRng2 tA) (iRange2 fA) := fun B ts vs ρ σ H R r q => by
  unfold iRange2 at q
  rw [post_then] at q
  refine h B ts vs ρ σ H _ r (q.imp1 fun ds ρ' p us H' hl r' => ?_)
  split at p
  · rename_i i j
    split at p
    · rename_i hj
      rw [Bool.and_eq_true, rOk_iff, rOk_iff] at hj
      obtain ⟨v, w, rfl, G, O, hv, hw⟩ := r'.two' hl
      cases hv
      cases hw
      exact ⟨i, j, rfl, ⟨hj.1.1, hj.1.2, hj.2.1, hj.2.2⟩, p _ [] [] H' rfl (Rep.dropN (ds := [.int i, .int j]) (us := [.int i, .int j]) rfl r') walk_ints⟩
    · exact p.elim
  · exact p.elim
end
end Fx
/-! zip of two tuples, its pairs kept by a name: the pair that was handed out before may be alive or not -/
/-! zip of a tuple and a list, its pairs taken apart -/
/-! for i, x in enumerate(t), t a tuple -/
namespace Rw
open PySem PySem.Spec PyProof.Rows L2
open Builtin
theorem enumNew {v : Value} {o : Obj} {G : Heap → Prop} (B : Begins v o G) :
    Meets (Builtin.«enumerate.__new__» ⟨[.type "enumerate", v], []⟩) (fun _ R s =>
      G s.heap ∧ R (.ok (.ret (.ref (s.heap.objs.size + 1))))
        { s with heap := (s.heap.push o).push ⟨.type "enumerate", none, .fields #[.none, .bool false, .ref s.heap.objs.size, rawInt 0, .none, .none], #[]⟩ }) :=
  .of_wp fun prog w A R s both => by
    obtain ⟨hp, g, d, tk, os⟩ := s
    obtain ⟨hg, both⟩ := both
    have isub := sub_enumerate
    have sz : (hp.push o).objs.size = hp.objs.size + 1 := Heap.size_push ..
    have it1 : ∀ {A' : Around} {E : Value → Shared → Prop} {Q : Value → Shared → Prop},
        Q (.ref hp.objs.size) ⟨hp.push o, g, d, tk, os⟩ → wpAny (model prog w) A' (pyIter v) Q E ⟨hp, g, d, tk, os⟩ :=
      fun q => B.iter prog w _ _ ⟨hp, g, d, tk, os⟩ _ hg q
    wp_walk using it1
    refine wpAny_stack_any fun st => wpAny_pure ?_
    split
    · rename_i c _ _ _ _ _
      cases (c == Value.type "enumerate") <;> (wp_walk using it1; exact ⟨_, rfl, by rw [sz]; exact both⟩)
    · wp_walk using it1
      exact ⟨_, rfl, by rw [sz]; exact both⟩
theorem enumCall {prog : Program} {w : World} {A : Around} {E : Value → Shared → Prop} {s : Shared}
    {v : Value} {o : Obj} {G : Heap → Prop} {Q : Value → Shared → Prop} (B : Begins v o G) (hg : G s.heap)
    (h : ∀ h', IsEnum h' (s.heap.objs.size + 1) s.heap.objs.size 0 .none → h'.get? s.heap.objs.size = some o →
      (∀ b ob, s.heap.get? b = some ob → h'.get? b = some ob) → Q (.ref (s.heap.objs.size + 1)) { s with heap := h' }) :
    wpAny (model prog w) A (call (.type "enumerate") [v]) Q E s := by
  have sz : (s.heap.push o).objs.size = s.heap.objs.size + 1 := Heap.size_push ..
  have at1 : IsEnum ((s.heap.push o).push ⟨.type "enumerate", none, .fields #[.none, .bool false, .ref s.heap.objs.size, rawInt 0, .none, .none], #[]⟩)
      (s.heap.objs.size + 1) s.heap.objs.size 0 .none := by
    have z := Heap.get?_push_size (s.heap.push o) (o := ⟨.type "enumerate", none, .fields #[.none, .bool false, .ref s.heap.objs.size, rawInt 0, .none, .none], #[]⟩) rfl
    rw [sz] at z
    exact z
  refine callType_new F.called_enumerate (by decide) (F.typeCall_enumerate_1 _) (F.newCall_enumerate_1 _) (fun obj => F.args_object_init_2 obj _)
    F.entry_enumerate_new (enumNew B) ⟨hg, ⟨_, at1, rfl⟩, h _ at1 ?_ ?_⟩
  · exact Heap.get?_push_of_some _ (Heap.get?_push_size _ B.free)
  · exact fun b ob x => Heap.get?_push_of_some _ (Heap.get?_push_of_some _ x)
/-- the tuple at a, each item in a new pair with its place -/
def ItE (K : PySem.W.Frag) (a : Addr) : It where
  go := fun i H => ∃ xs x, SqT K H a xs ∧ xs[i]? = some x
  yld := fun i H v H' => ∃ T x, v = .ref T ∧ H T = none ∧ H' = upd H T (.tup [.int (i : Nat), x]) ∧ ∀ xs, SqT K H a xs → xs[i]? = some x
  stop := fun i H => ∃ xs : List V, SqT K H a xs ∧ xs.length = i
theorem turnE {P : Program} {w : World} {K : PySem.W.Frag} {elts : List Expr} {kk : Nat} {tpos : Pos} (a e it : Addr) (hai : a ≠ it) (hea : e ≠ a) :
    Turn P w K (.Tuple elts kk tpos) (ItE K a) [e, it] e
      (fun i h => (∃ old, IsEnum h e it ((i : Nat) : Int) old) ∧ h.IsTupleIter it a i ∧ e ≠ it) where
  mem := List.mem_cons_self
  obj := by
    rintro i h ⟨⟨old, he⟩, ⟨o, ho, _, hd⟩, _⟩ b hb
    rcases List.mem_cons.mp hb with rfl | hb
    · exact ⟨_, he, fun v q => nomatch q⟩
    · obtain rfl := List.mem_singleton.mp hb
      exact ⟨o, ho, fun v q => by rw [hd] at q; cases q⟩
  keep := by
    rintro i h h' ⟨⟨old, he⟩, hi, hne⟩ k
    exact ⟨⟨old, k e List.mem_cons_self _ he⟩, hi.at fun o q => k it (List.mem_cons_of_mem _ List.mem_cons_self) o q, hne⟩
  item := by
    rintro X rfl rfl rfl hc i pins s σ H E I hf ⟨⟨old, he⟩, hit, hne⟩ ⟨xs, x, hq, hx⟩
    obtain ⟨its, rv, p, hz⟩ := I.tuple hq
    obtain ⟨u, hu, ru⟩ := rv.get hx
    have hel : e < s.heap.objs.size := Heap.lt_size he
    have hil : it < s.heap.objs.size := by
      obtain ⟨_, q, _⟩ := hit
      exact Heap.lt_size q
    have hlt : i < its.toArray.size := by
      have := (List.getElem?_eq_some_iff.mp hu).1
      simpa using this
    have D := Draws.tuple (prog := X.prog) (w := X.w) (A := X.A.in1) (I.ok.hd hc) it a hai its.toArray
    refine wpAny_pyNext_enum_itemD D he ⟨hit, p⟩ hlt hne (by simp [hne, hea]) fun y h' tk hy ho hit' hT hsz hk => ?_
    have yu : y = u := by
      have hy' : its[i]? = some y := by simpa using hy
      rw [hu] at hy'
      exact (Option.some.inj hy').symm
    subst yu
    refine ⟨_, rfl, wpAny_letOwnedTupleGo_enum (s := { s with heap := h', toks := tk + 1 }) ho fun h'' he' sb => ?_⟩
    have hT2 : h''.get? s.heap.objs.size = some { cls := .type "tuple", data := .seq #[.int i tk, y] } := (sb.2 _ (Nat.ne_of_gt hel)).trans hT
    have new : ObjOk X.prog X.w (upd H s.heap.objs.size (.tup [.int (i : Nat), x])) h'' s.heap.objs.size (.tup [.int (i : Nat), x]) :=
      ⟨(by decide : 2 ≤ sizeLine), [.int i tk, y], .cons ⟨_, rfl⟩ (.cons ru .nil), ⟨_, hT2, rfl, _, rfl⟩⟩
    have nin : ∀ b, b ∉ [e, it] → b ≠ e ∧ b ≠ it := fun b hb => ⟨fun z => hb (z ▸ List.mem_cons_self), fun z => hb (z ▸ List.mem_cons_of_mem _ List.mem_cons_self)⟩
    have I1 : Inv X pins σ (upd H s.heap.objs.size (.tup [.int (i : Nat), x])) { s with heap := h'', toks := tk + 1 } :=
      I.turnedNew (ch := [e, it]) (fun b ob hb q => (sb.2 b (nin b hb).1).trans (hk b ob (nin b hb).1 (nin b hb).2 q)) hf (Nat.le_refl _) new
    refine ⟨.ref s.heap.objs.size, _, I1, rfl, ⟨_, x, rfl, I.hok.fresh (Nat.le_refl _), rfl, fun ys hy2 => by rw [I.tuple_inj hy2 hq]; exact hx⟩, ⟨⟨y, ?_⟩, hit'.1.at fun o q => (sb.2 it (Ne.symm hne)).trans q, hne⟩, fun b hb => ?_⟩
    · have e1 : ((i + 1 : Nat) : Int) = (i : Int) + 1 := by omega
      rw [e1]
      exact he'
    · have hb' : b < s.heap.objs.size := by
        rcases List.mem_cons.mp hb with rfl | hb
        · exact hel
        · obtain rfl := List.mem_singleton.mp hb
          exact hil
      rw [upd_ne (Nat.ne_of_lt hb')]
      exact (hf b hb).1
  done := by
    rintro X rfl rfl rfl hc i pins s σ H E I hf ⟨⟨old, he⟩, hit, hne⟩ ⟨xs, hq, hx⟩
    obtain ⟨its, rv, p, hz⟩ := I.tuple hq
    have D := Draws.tuple (prog := X.prog) (w := X.w) (A := X.A.in1) (I.ok.hd hc) it a hai its.toArray
    obtain ⟨f0, f1, f2, f3, f4, f5⟩ := hf it (List.mem_cons_of_mem _ List.mem_cons_self)
    have hl := rv.length
    have e1 : i = its.toArray.size := by simp only [List.size_toArray]; omega
    refine wpAny_pyNext_enum_endD D he (e1 ▸ ⟨hit, p⟩) fun h' eb => ⟨rfl, I.turned (t' := s.toks) (fun b o hb q => eb b o hb q) f0 f1 f3 f4 f5⟩
  self := by
    rintro A i s Q E ⟨⟨_, he⟩, _⟩ h
    exact wpAny_pyIter_enum he h
def iEnumT (K : PySem.W.Frag) (ta : TA) : TI := fun σ H R => ta σ H fun vs H1 => ∃ a xs, vs = [.ref a] ∧ SqT K H1 a xs ∧ R (ItE K a) H1
theorem pi_enumT {X : Cx} {e : Expr} {ta : TA} {p pos tpos : Pos} {elts : List Expr} {kk : Nat} (hg : Gl X "enumerate") (hm : X.mg "enumerate" = none) (ha : PA X [e] ta)
    (hs : starEach [e] X.env = [(false, eval e X.env)] := by rfl) : PI X (.Tuple elts kk tpos) (.Call (.Name "enumerate" p) [e] [] pos) (iEnumT X.K ta) := by
  refine ⟨fun pins s σ H R I h => ?_⟩
  refine Call_ (ld_blt I hg hm boot_enumerate (PyProof.Rows.callWith_type1 (thn (ha.run pos pins s σ H _ I h) ?_) hs rfl))
  rintro us s1 ⟨vs, H1, I1, r1, a, xs, rfl, hq, q⟩
  obtain ⟨u, rfl, ru⟩ := vals1 r1
  cases ru
  obtain ⟨its, rv, p', hz⟩ := I1.tuple hq
  have hal : a < s1.heap.objs.size := by
    obtain ⟨_, q, _⟩ := p'
    exact Heap.lt_size q
  refine enumCall (begins_tuple a its.toArray) p' fun h' he hit hk => wpAny_pyIter_enum he ?_
  have I2 : Inv X pins σ H1 { s1 with heap := h' } := I1.kept (t' := s1.toks) hk
  refine ⟨s1.heap.objs.size + 1, [s1.heap.objs.size + 1, s1.heap.objs.size], _, _, H1, rfl, I2,
    turnE a (s1.heap.objs.size + 1) s1.heap.objs.size (Nat.ne_of_lt hal) (Nat.ne_of_gt (Nat.lt_succ_of_lt hal)),
    ⟨⟨.none, he⟩, ⟨_, hit, rfl, rfl⟩, Nat.succ_ne_self _⟩, fun b hb => ?_, q⟩
  have hle : s1.heap.objs.size ≤ b := by
    rcases List.mem_cons.mp hb with rfl | hb
    · exact Nat.le_succ _
    · exact Nat.le_of_eq (List.mem_singleton.mp hb).symm
  exact I1.fpOk hle (I1.hok.fresh hle)
end Rw
/-! what is walked, comprehensions -/
namespace Fx
open PySem PySem.Spec PyProof.Rows L2
section
variable {X : Cx} {tg e : Expr} {w1 w2 : TI}
theorem PI.or (h1 : PI X tg e w1) (h2 : PI X tg e w2) : PI X tg e (fun σ H R => w1 σ H R ∨ w2 σ H R) :=
  ⟨fun pins s σ H R I h => h.elim (h1.run pins s σ H R I) (h2.run pins s σ H R I)⟩
end
def iSeqT (K : PySem.W.Frag) (tl : TE) : TI := fun σ H R => iList K tl σ H R ∨ iTup K tl σ H R
def iEnumG (K : PySem.W.Frag) (ta : TA) : TI := fun σ H R => iEnum K ta σ H R ∨ Rw.iEnumT K ta σ H R
section
variable {c : Cfg} {W : WX} {B : Base} {ts : En} {vs : List (Option V)} {ρ : En} {σ : L2.St} {H : Hp} {te : TE} {fe : M S} {tA : TA} {fA : M (List D)}
/-- the first that waits, opened, still waiting -/
theorem Rep.top {x : D} {v : V} (r : Rep c B (some (.d x) :: ts) (some v :: vs) ρ σ H) : ∃ G, Opn c B (some (.d x) :: ts) (some v :: vs) ρ σ H G ∧ Rp c G v x := by
  obtain ⟨G, o1, o2, k, h1, h2⟩ := id r
  cases h1 with
  | d hv h1 =>
    refine ⟨G, ⟨k.sub, fun hv' => ⟨G, o1, o2, k, .d hv' (.d hv h1), h2⟩, fun {p o x} hp ho hx => ?_, fun {p o x} hp hx => ?_⟩, hv⟩
    · have gp := k.gnone hp
      have ow := own_new (o := o) k hp
      exact ⟨upd G p o, o1, o2, k.alloc hp ho, .d (hx _ (upd_sub gp) upd_same) (.d (hv.mono (upd_sub gp)) (h1.mono (upd_sub gp) fun q hq => ow q (List.mem_append_left _ hq))), h2.mono (upd_sub gp) fun q hq => ow q (List.mem_append_right _ hq)⟩
    · have ow := own_new (o := o) k hp
      exact ⟨G, p :: o1, o2, k.allocO hp, .o (hx _ upd_same) (fun _ e => nomatch e) (.d hv (h1.mono (fun _ _ e => e) fun q hq => ow q (List.mem_append_left _ hq))), h2.mono (fun _ _ e => e) fun q hq => ow q (List.mem_append_right _ hq)⟩
/-- how a list, a tuple is read -/
def SqI (K : PySem.W.Frag) (l : Bool) (H : Hp) (a : Addr) (us : List V) : Prop := if l then SqL K H a us else SqT K H a us
def isLst : D → Bool
  | .lst _ => true
  | _ => false
theorem Rp.seq {G H : Hp} {v : V} {x : D} {ds : List D} (s : ∀ a o, G a = some o → H a = some o) (h : Rp c G v x) (e : itemsD x = some ds) : ∃ a us, v = .ref a ∧ SqI c.K (isLst x) H a us ∧ RpAll c G us ds := by
  cases x <;> first | cases e | skip
  · obtain ⟨a, us, rfl, ha, k⟩ := h.tupE
    exact ⟨a, us, rfl, SqT.up s ha, k⟩
  · obtain ⟨a, us, rfl, ha, k⟩ := h.lstE
    exact ⟨a, us, rfl, SqL.of (s _ _ ha), k⟩
/-- one whose items are ds, at a -/
def SrcAt (c : Cfg) (l : Bool) (n : Nat) (a : Addr) (H : Hp) : Prop := ∃ us, SqI c.K l H a us ∧ us.length = n
theorem src_of {x : D} {a : Addr} {ds : List D} (e : itemsD x = some ds) (r : Rep c B (some (.d x) :: ts) (some (.ref a) :: vs) ρ σ H) : SrcAt c (isLst x) ds.length a H := by
  obtain ⟨G, O, h⟩ := r.top
  obtain ⟨a', us, e1, h1, k⟩ := h.seq O.sub e
  cases e1
  exact ⟨us, h1, k.length⟩
/-- the turn's item, by any reading of the source -/
def TurnAt (c : Cfg) (l : Bool) (a : Addr) (k : Nat) (H : Hp) (x : V) : Prop := ∀ us, SqI c.K l H a us → us[k]? = some x
theorem turn_val {x : D} {a : Addr} {ds : List D} {k : Nat} {v : V} (e : itemsD x = some ds) (hk : k < ds.length) (r : Rep c B (some (.d x) :: ts) (some (.ref a) :: vs) ρ σ H) (t : TurnAt c (isLst x) a k H v) :
    ∃ d, ds[k]? = some d ∧ Rep c B (some (.d d) :: some (.d x) :: ts) (some v :: some (.ref a) :: vs) ρ σ H := by
  obtain ⟨G, O, h⟩ := r.top
  obtain ⟨a', us, e1, h1, kk⟩ := h.seq O.sub e
  cases e1
  obtain ⟨d, ed, hd⟩ := kk.getV (t us h1)
  exact ⟨d, ed, O.val hd⟩
theorem walk_seq {x : D} {a : Addr} {ds : List D} {J : It} (e : itemsD x = some ds) (hgo : ∀ i H, (∃ us y, SqI c.K (isLst x) H a us ∧ us[i]? = some y) → J.go i H) (hst : ∀ i H, (∃ us, SqI c.K (isLst x) H a us ∧ us.length = i) → J.stop i H)
    (hy : ∀ i H y H', J.yld i H y H' → H' = H ∧ TurnAt c (isLst x) a i H y) : IsWalk c [x] [.ref a] J ds := by
  refine ⟨ds.length, SrcAt c (isLst x) ds.length a, fun i H y H' => H' = H ∧ TurnAt c (isLst x) a i H y, ⟨?_, ?_, ?_⟩, rfl, fun B ts vs ρ σ H r => src_of e r, ?_⟩
  · rintro i H hi ⟨us, h1, h2⟩
    exact hgo i H ⟨us, us[i]'(by omega), h1, List.getElem?_eq_getElem (by omega)⟩
  · rintro H ⟨us, h1, h2⟩
    exact hst _ H ⟨us, h1, h2⟩
  · intro i H y H' _ _ h
    exact hy i H y H' h
  · rintro B ts vs ρ σ H k y H' hk r ⟨rfl, t⟩
    exact turn_val e hk r t
theorem di_seq (h : Den c W te fe) : DenI c W (iSeqT c.K te) (iSeq fe) := fun B ts vs ρ σ H R r q => by
  unfold iSeq at q
  rw [post_then] at q
  cases hk : dv fe ρ with
  | stuck => rw [hk] at q; exact q.elim
  | err e ρ' =>
    refine .inl (h.dv r ?_)
    rw [hk] at q ⊢
    exact q
  | ok x ρ' =>
    rw [hk] at q
    have q : Post (OkI c B ts vs σ R) (ErrP c W B ts vs σ) (match itemsD x with
      | some ds => .ok ds ρ'
      | none => .stuck) := q
    cases e : itemsD x with
    | none => rw [e] at q; exact q.elim
    | some ds =>
      rw [e] at q
      have q : OkI c B ts vs σ R ds ρ' := q
      by_cases hl : isLst x = true
      · refine .inl (h.dv r ?_)
        rw [hk]
        intro v H' r'
        obtain ⟨G, O, hv⟩ := r'.top
        obtain ⟨a, us, rfl, h1, k⟩ := hv.seq O.sub e
        rw [hl] at h1
        refine ⟨a, rfl, ⟨us, h1⟩, q _ [x] [.ref a] H' rfl r' (walk_seq e ?_ ?_ ?_)⟩
        · rintro i H ⟨us, y, h1, h2⟩
          rw [hl] at h1
          exact ⟨us, y, h1, h2⟩
        · rintro i H ⟨us, h1, h2⟩
          rw [hl] at h1
          exact ⟨us, h1, by omega⟩
        · rintro i H y H' ⟨rfl, h2⟩
          rw [hl]
          exact ⟨rfl, fun us h => h2 us h⟩
      · have hl : isLst x = false := by simpa using hl
        refine .inr (h.dv r ?_)
        rw [hk]
        intro v H' r'
        obtain ⟨G, O, hv⟩ := r'.top
        obtain ⟨a, us, rfl, h1, k⟩ := hv.seq O.sub e
        rw [hl] at h1
        refine ⟨a, rfl, ⟨us, h1⟩, q _ [x] [.ref a] H' rfl r' (walk_seq e ?_ ?_ ?_)⟩
        · rintro i H ⟨us, y, h1, h2⟩
          rw [hl] at h1
          exact ⟨us, y, h1, h2⟩
        · rintro i H ⟨us, h1, h2⟩
          rw [hl] at h1
          exact ⟨us, h1, by omega⟩
        · rintro i H y H' ⟨rfl, h2⟩
          rw [hl]
          exact ⟨rfl, fun us h => h2 us h⟩
/-! ### enumerate, zip, reversed -/
def enumD (n : Nat) : List D → List D
  | [] => []
  | d :: ds => .tup [.int n, d] :: enumD (n + 1) ds
theorem enumD_length : ∀ (ds : List D) (n : Nat), (enumD n ds).length = ds.length
  | [], _ => rfl
  | d :: ds, n => by simp [enumD, enumD_length ds]
theorem enumD_get : ∀ (ds : List D) (n k : Nat) (d : D), ds[k]? = some d → (enumD n ds)[k]? = some (.tup [.int ((n + k : Nat) : Int), d])
  | [], _, _, _, e => by simp at e
  | d :: ds, n, 0, d', e => by simp at e; subst e; simp [enumD]
  | d :: ds, n, k + 1, d', e => by
    simp only [enumD, List.getElem?_cons_succ]
    rw [enumD_get ds (n + 1) k d' (by simpa using e), show n + 1 + k = n + (k + 1) by omega]
def iEnu (fA : M (List D)) : M (List D) := fun ρ => (fA ρ).then fun ds ρ' => match ds with
  | [x] => match itemsD x with
    | some es => .ok (enumD 0 es) ρ'
    | none => .stuck
  | _ => .stuck
theorem walk_enu {x : D} {a : Addr} {ds : List D} {J : It} (e : itemsD x = some ds) (hgo : ∀ i H, (∃ us y, SqI c.K (isLst x) H a us ∧ us[i]? = some y) → J.go i H) (hst : ∀ i H, (∃ us, SqI c.K (isLst x) H a us ∧ us.length = i) → J.stop i H)
    (hy : ∀ i H y H', J.yld i H y H' → ∃ T z, y = .ref T ∧ H T = none ∧ H' = upd H T (.tup [.int (i : Nat), z]) ∧ TurnAt c (isLst x) a i H z) : IsWalk c [x] [.ref a] J (enumD 0 ds) := by
  refine ⟨ds.length, SrcAt c (isLst x) ds.length a, fun i H y H' => ∃ T z, y = .ref T ∧ H T = none ∧ H' = upd H T (.tup [.int (i : Nat), z]) ∧ TurnAt c (isLst x) a i H z, ⟨?_, ?_, ?_⟩, (enumD_length ds 0).symm, fun B ts vs ρ σ H r => src_of e r, ?_⟩
  · rintro i H hi ⟨us, h1, h2⟩
    exact hgo i H ⟨us, us[i]'(by omega), h1, List.getElem?_eq_getElem (by omega)⟩
  · rintro H ⟨us, h1, h2⟩
    exact hst _ H ⟨us, h1, h2⟩
  · intro i H y H' _ _ h
    exact hy i H y H' h
  · rintro B ts vs ρ σ H k y H' hk r ⟨T, z, rfl, hT, rfl, t⟩
    obtain ⟨G, O, h⟩ := r.top
    obtain ⟨a', us, e1, h1, kk⟩ := h.seq O.sub e
    cases e1
    obtain ⟨d, ed, hd⟩ := kk.getV (t us h1)
    refine ⟨_, enumD_get ds 0 k d ed, ?_⟩
    rw [Nat.zero_add]
    exact O.new hT rfl fun G' m e' => .tup (.inl (.inl e')) (.cons (.int _) (.cons (hd.mono m) .nil)) fun z => nomatch z
theorem di_enu (h : DenA c W tA fA) : DenI c W (iEnumG c.K tA) (iEnu fA) := fun B ts vs ρ σ H R r q => by
  unfold iEnu at q
  rw [post_then] at q
  cases hk : fA ρ with
  | stuck => rw [hk] at q; exact q.elim
  | err e ρ' =>
    refine .inl (h B ts vs ρ σ H _ r ?_)
    rw [hk] at q ⊢
    exact q
  | ok ds ρ' =>
    rw [hk] at q
    match ds, q with
    | [x], q =>
      have q : Post (OkI c B ts vs σ R) (ErrP c W B ts vs σ) (match itemsD x with
        | some es => .ok (enumD 0 es) ρ'
        | none => .stuck) := q
      cases e : itemsD x with
      | none => rw [e] at q; exact q.elim
      | some es =>
        rw [e] at q
        have q : OkI c B ts vs σ R (enumD 0 es) ρ' := q
        by_cases hl : isLst x = true
        · refine .inl (h B ts vs ρ σ H _ r ?_)
          rw [hk]
          intro us H' hlen r'
          match us, hlen with
          | [v], _ =>
            obtain ⟨G, O, hv⟩ := Rep.top (ts := ts) (vs := vs) r'
            obtain ⟨a, us, rfl, h1, k⟩ := hv.seq O.sub e
            rw [hl] at h1
            refine ⟨a, us, rfl, h1, q _ [x] [.ref a] H' rfl r' (walk_enu e ?_ ?_ ?_)⟩
            · rintro i H ⟨us, y, h1, h2⟩
              rw [hl] at h1
              exact ⟨us, y, h1, h2⟩
            · rintro i H ⟨us, h1, h2⟩
              rw [hl] at h1
              exact ⟨us, h1, by omega⟩
            · rintro i H y H' ⟨T, z, h1, h2, h3, h4⟩
              rw [hl]
              exact ⟨T, z, h1, h2, h3, fun us h => h4 us h⟩
        · have hl : isLst x = false := by simpa using hl
          refine .inr (h B ts vs ρ σ H _ r ?_)
          rw [hk]
          intro us H' hlen r'
          match us, hlen with
          | [v], _ =>
            obtain ⟨G, O, hv⟩ := Rep.top (ts := ts) (vs := vs) r'
            obtain ⟨a, us, rfl, h1, k⟩ := hv.seq O.sub e
            rw [hl] at h1
            refine ⟨a, us, rfl, h1, q _ [x] [.ref a] H' rfl r' (walk_enu e ?_ ?_ ?_)⟩
            · rintro i H ⟨us, y, h1, h2⟩
              rw [hl] at h1
              exact ⟨us, y, h1, h2⟩
            · rintro i H ⟨us, h1, h2⟩
              rw [hl] at h1
              exact ⟨us, h1, h2⟩
            · rintro i H y H' ⟨T, z, h1, h2, h3, h4⟩
              rw [hl]
              exact ⟨T, z, h1, h2, h3, fun us h => h4 us h⟩
end
/-! ### comprehensions -/
def wipeE (ρ : En) : List Nat → En
  | [] => ρ
  | v :: vs => (wipeE ρ vs).set v none
theorem wipeE_at (ρ : En) : ∀ (vs : List Nat) (i : Nat), i ∈ vs → (wipeE ρ vs).set i none = wipeE ρ vs
  | v :: vs, i, h => by
    unfold wipeE
    by_cases hv : v = i
    · subst hv
      rw [List.set_set]
    · rw [List.set_comm _ _ hv, wipeE_at ρ vs i ((List.mem_cons.mp h).resolve_left fun e => hv e.symm)]
theorem wipeE_id {ρ : En} : ∀ {own : List Nat}, (∀ v ∈ own, ρ.set v none = ρ) → wipeE ρ own = ρ
  | [], _ => rfl
  | v :: own, h => by
    unfold wipeE
    rw [wipeE_id fun w hw => h w (List.mem_cons_of_mem _ hw), h v List.mem_cons_self]
theorem wipe_in (σ : L2.St) : ∀ (vs : List Nat) (i : Nat), i ∈ vs → (wipe σ vs)[i]? = if i < σ.length then some none else none
  | v :: vs, i, h => by
    unfold wipe
    by_cases hv : v = i
    · subst hv
      by_cases hl : v < σ.length
      · rw [if_pos hl, List.getElem?_set_self (by rw [wipe_length]; exact hl)]
      · rw [if_neg hl, List.getElem?_eq_none (by rw [List.length_set, wipe_length]; omega)]
    · rw [List.getElem?_set_ne hv, wipe_in σ vs i ((List.mem_cons.mp h).resolve_left fun e => hv e.symm)]
theorem wipe_off (σ : L2.St) : ∀ (vs : List Nat) (i : Nat), i ∉ vs → (wipe σ vs)[i]? = σ[i]?
  | [], i, _ => rfl
  | v :: vs, i, h => by
    unfold wipe
    rw [List.getElem?_set_ne fun e => h (by simp [e]), wipe_off σ vs i fun e => h (List.mem_cons_of_mem _ e)]
theorem Off.wipe {js own : List Nat} {σ σ' : L2.St} (h : ∀ j ∈ js, j ∈ own) (o : Off js (wipe σ own) σ') : wipe σ' own = wipe σ own := by
  have hl : σ'.length = σ.length := by rw [o.1, wipe_length]
  apply List.ext_getElem?
  intro i
  by_cases hi : i ∈ own
  · rw [wipe_in _ _ _ hi, wipe_in _ _ _ hi, hl]
  · rw [wipe_off _ _ _ hi, o.2 i fun z => hi (h i z)]
section
variable {c : Cfg} {B : Base} {ts : En} {vs : List (Option V)} {ρ : En} {σ : L2.St} {H : Hp}
theorem Rep.wipe (r : Rep c B ts vs ρ σ H) : ∀ own : List Nat, Rep c B ts vs (wipeE ρ own) (wipe σ own) H
  | [] => r
  | v :: own => (Rep.wipe r own).forget none
theorem Rep.unwipe : ∀ (own : List Nat), (∀ v ∈ own, ρ.set v none = ρ) → Rep c B ts vs ρ (L2.wipe σ own) H → Rep c B ts vs ρ σ H
  | [], _, r => r
  | v :: own, h, r => by
    refine Rep.unwipe own (fun w hw => h w (List.mem_cons_of_mem _ hw)) ?_
    have r1 := r.forget (i := v) ((L2.wipe σ own)[v]?.getD none)
    rw [h v List.mem_cons_self] at r1
    have e : (L2.wipe σ (v :: own)).set v ((L2.wipe σ own)[v]?.getD none) = L2.wipe σ own := by
      show ((L2.wipe σ own).set v none).set v _ = _
      rw [List.set_set]
      apply List.ext_getElem?
      intro i
      by_cases hi : v = i
      · subst hi
        by_cases hl : v < (L2.wipe σ own).length
        · rw [List.getElem?_set_self hl, List.getElem?_eq_getElem hl]
          rfl
        · rw [List.getElem?_eq_none (by rw [List.length_set]; omega), List.getElem?_eq_none (by omega)]
      · rw [List.getElem?_set_ne hi]
    rw [e] at r1
    exact r1
/-- back from a turn -/
theorem Rep.back {σ2 : L2.St} {own : List Nat} (e : L2.wipe σ2 own = L2.wipe σ own) (r : Rep c B ts vs ρ σ2 H) : Rep c B ts vs (wipeE ρ own) σ H := by
  have r1 := r.wipe own
  rw [e] at r1
  exact Rep.unwipe own (fun v hv => wipeE_at ρ own v hv) r1
theorem RpAll.tmpS {c : Cfg} {B : Base} {G H : Hp} {us : List V} {ds : List D} {own : Owns} (k : RpAll c G us ds) (h : Sl c B G H ts vs own) : Sl c B G H (tmp ds ++ ts) (tmv us ++ vs) own := k.rev.sl h
theorem Rep.insO {st : List D} {sv : List V} {p : Addr} (hl : sv.length = st.length) (r : Rep c B (tmp st ++ ts) (tmv sv ++ vs) ρ σ H) (hp : H p = none) :
    Rep c B (tmp st ++ (some (.o none (.lst [])) :: ts)) (tmv sv ++ (some (.ref p) :: vs)) ρ σ (upd H p (.lst [])) := by
  obtain ⟨G, o1, o2, k, h1, h2⟩ := r
  obtain ⟨a1, a2⟩ := h1.tmp hl
  have ow := own_new (o := .lst []) k hp
  exact ⟨G, p :: o1, o2, k.allocO hp, a1.tmpS (.o ⟨[], upd_same, .nil⟩ (fun _ e => nomatch e) (a2.mono (fun _ _ e => e) fun q hq => ow q (List.mem_append_left _ hq))), h2.mono (fun _ _ e => e) fun q hq => ow q (List.mem_append_right _ hq)⟩
theorem Rep.appT {st acc : List D} {sv : List V} {p : Addr} {y : D} {v : V} (hl : sv.length = st.length) (r : Rep c B (some (.d y) :: (tmp st ++ (some (.o none (.lst acc)) :: ts))) (some v :: (tmv sv ++ (some (.ref p) :: vs))) ρ σ H) :
    ∃ us, H p = some (.lst us) ∧ us.length = acc.length ∧ Rep c B (tmp st ++ (some (.o none (.lst (acc ++ [y]))) :: ts)) (tmv sv ++ (some (.ref p) :: vs)) ρ σ (upd H p (.lst (us ++ [v]))) := by
  obtain ⟨G, o1, o2, k, h1, h2⟩ := r
  cases h1 with
  | d hv h1 =>
    obtain ⟨a1, a2⟩ := h1.tmp hl
    cases a2 with
    | @o _ _ _ _ _ own hc hb a2 =>
      obtain ⟨us, e, ku⟩ := hc
      have nd := k.nd
      rw [List.cons_append, List.nodup_cons] at nd
      have ne : ∀ q ∈ own ++ o2, upd H p (.lst (us ++ [v])) q = H q := fun q hq => upd_ne fun z => nd.1 (z ▸ hq)
      refine ⟨us, e, ku.length, G, p :: own, o2, k.write (List.mem_append_left _ List.mem_cons_self) e (.lst _), a1.tmpS (.o ⟨_, upd_same, ku.snoc hv⟩ hb (a2.mono (fun _ _ e => e) fun q hq => ne q (List.mem_append_left _ hq))), h2.mono (fun _ _ e => e) fun q hq => ne q (List.mem_append_right _ hq)⟩
theorem Rep.accT {st acc : List D} {sv : List V} {p : Addr} (hl : sv.length = st.length) (r : Rep c B (tmp st ++ (some (.o none (.lst acc)) :: ts)) (tmv sv ++ (some (.ref p) :: vs)) ρ σ H) : Rep c B (some (.o none (.lst acc)) :: ts) (some (.ref p) :: vs) ρ σ H := r.dropN hl
end
/-- an exception may not leave a comprehension -/
def Out.calm {α : Type} : Out α → Out α
  | .err _ _ => .stuck
  | o => o
def W0 : WX := fun _ _ _ _ => False
def mComp (gm : D → M Unit) (ft : M Bool) (fe : M S) (own : List Nat) : List D → List D → En → Out (List D)
  | [], acc, ρ => .ok acc ρ
  | x :: xs, acc, ρ => (gm x ρ).calm.then fun _ ρ1 => (ft ρ1).calm.then fun b ρ2 => if b = true then (dv fe ρ2).calm.then fun y ρ3 => if small (acc.length + 1) then mComp gm ft fe own xs (acc ++ [y]) (wipeE ρ3 own) else .stuck
    else mComp gm ft fe own xs acc (wipeE ρ2 own)
def mLc (fI : M (List D)) (gm : D → M Unit) (ft : M Bool) (fe : M S) (own : List Nat) : M S := fun ρ => (fI ρ).then fun items ρ1 => (mComp gm ft fe own items [] (wipeE ρ1 own)).then fun ds ρ2 => .ok (.o none (.lst ds)) ρ2
theorem post_calm {α : Type} {K : α → En → Prop} {E E' : Err → En → Prop} {m : Out α} (h : Post K E m.calm) : Post K E' m := by
  cases m with
  | ok a ρ => exact h
  | err e ρ => exact h.elim
  | stuck => exact h
section
variable {c : Cfg} {W : WX} {wi : TI} {fI : M (List D)} {te : TE} {fe : M S} {tt : TT} {ft : M Bool} {g : TG} {gm : D → M Unit} {js own : List Nat}
theorem den_lc (h : DenI c W wi fI) (k : DenG c W0 g gm js) (kt : DenT c W0 tt ft) (ke : Den c W0 te fe) (hj : ∀ j ∈ js, j ∈ own) : Den c W (tLc wi g tt te own) (mLc fI gm ft fe own) := fun B ts vs ρ σ H Q r q => by
  unfold mLc at q
  rw [post_then] at q
  refine h B ts vs ρ σ H _ r (q.imp1 fun items ρ1 q J st sv H1 hl r1 w D hD => ?_)
  obtain ⟨n, Gw, Y, wk, rfl, hG, hY⟩ := w
  rw [post_then] at q
  refine lc_it wk (fun i H => ∃ ρ acc, Rep c B (tmp st ++ (some (.o none (.lst acc)) :: ts)) (tmv sv ++ (some (.ref D) :: vs)) ρ σ H ∧ (∀ v ∈ own, ρ.set v none = ρ) ∧
    Post (fun ds ρ2 => OkP c B ts vs σ Q (.o none (.lst ds)) ρ2) (ErrP c W B ts vs σ) (mComp gm ft fe own (items.drop i) acc ρ)) ⟨wipeE ρ1 own, [], ?_, fun v hv => wipeE_at ρ1 own v hv, q⟩ (fun i H _ ⟨ρ, acc, r, _⟩ => hG _ _ _ _ _ _ r) ?_ ?_
  · exact (Rep.insO hl r1 hD).back rfl
  · rintro i x H1 H2 hi ⟨ρ, acc, r, hw, q⟩ y
    obtain ⟨d, ed, r2⟩ := hY _ _ _ _ _ _ _ _ _ hi r y
    have hd : items.drop i = d :: items.drop (i + 1) := by
      rw [List.drop_eq_getElem_cons hi]
      rw [List.getElem?_eq_getElem hi] at ed
      cases ed
      rfl
    rw [hd] at q
    have q : Post _ _ ((gm d ρ).calm.then fun _ ρ1 => (ft ρ1).calm.then fun b ρ2 => _) := q
    rw [post_then] at q
    have r3 : Rep c B (some (.d d) :: (tmp st ++ (some (.o none (.lst acc)) :: ts))) (some x :: (tmv sv ++ (some (.ref D) :: vs))) ρ (L2.wipe σ own) H2 := by
      have := r2.wipe own
      have e := wipeE_id hw
      rw [e] at this
      exact this
    refine k B _ _ ρ _ H2 d x _ r3 (post_calm (q.imp1 fun _ ρ2 q σ2 H3 o r4 => ?_))
    have eo := Off.wipe hj o
    refine ⟨eo, ?_⟩
    rw [post_then] at q
    refine kt B _ _ ρ2 σ2 H3 _ r4 (post_calm (q.imp1 fun b ρ3 q H4 r5 => ?_))
    cases b with
    | false => exact ⟨wipeE ρ3 own, acc, r5.back eo, fun v hv => wipeE_at ρ3 own v hv, q⟩
    | true =>
      have q : Post _ _ ((dv fe ρ3).calm.then fun y ρ4 => _) := q
      rw [post_then] at q
      refine ke.dv r5 (post_calm (q.imp1 fun y ρ4 q v H5 r6 => ?_))
      split at q
      · rename_i hz
        obtain ⟨us, e1, e2, r7⟩ := Rep.appT hl r6
        refine ⟨us, e1, ?_, wipeE ρ4 own, acc ++ [y], r7.back eo, fun v hv => wipeE_at ρ4 own v hv, q⟩
        have := small_line hz
        omega
      · exact q.elim
  · rintro H1 ⟨ρ, acc, r, _, q⟩
    rw [List.drop_length] at q
    exact q _ H1 (r.accT hl)
def mComp2 (gm : D → M Unit) (ft : M Bool) (fI1 : M (List D)) (gm1 : D → M Unit) (ft1 : M Bool) (fe : M S) (own vs1 : List Nat) : List D → List D → En → Out (List D)
  | [], acc, ρ => .ok acc ρ
  | x :: xs, acc, ρ => (gm x ρ).calm.then fun _ ρ1 => (ft ρ1).calm.then fun b ρ2 => if b = true then (fI1 ρ2).calm.then fun items ρ3 => (mComp gm1 ft1 fe vs1 items acc (wipeE ρ3 vs1)).then fun acc' ρ4 => mComp2 gm ft fI1 gm1 ft1 fe own vs1 xs acc' (wipeE ρ4 own)
    else mComp2 gm ft fI1 gm1 ft1 fe own vs1 xs acc (wipeE ρ2 own)
def mLc2 (fI : M (List D)) (gm : D → M Unit) (ft : M Bool) (fI1 : M (List D)) (gm1 : D → M Unit) (ft1 : M Bool) (fe : M S) (own vs1 : List Nat) : M S := fun ρ => (fI ρ).then fun items ρ1 => (mComp2 gm ft fI1 gm1 ft1 fe own vs1 items [] (wipeE ρ1 own)).then fun ds ρ2 => .ok (.o none (.lst ds)) ρ2
theorem Rep.two_tmp {c : Cfg} {B : Base} {st st1 : List D} {sv sv1 : List V} {ts : En} {vs : List (Option V)} {ρ : En} {σ : L2.St} {H : Hp} : Rep c B (tmp st1 ++ (tmp st ++ ts)) (tmv sv1 ++ (tmv sv ++ vs)) ρ σ H ↔ Rep c B (tmp (st ++ st1) ++ ts) (tmv (sv ++ sv1) ++ vs) ρ σ H := by
  have e1 : tmp st1 ++ (tmp st ++ ts) = tmp (st ++ st1) ++ ts := by simp [tmp]
  have e2 : tmv sv1 ++ (tmv sv ++ vs) = tmv (sv ++ sv1) ++ vs := by simp [tmv]
  rw [e1, e2]
theorem den_lc2 {wi1 : TI} {fI1 : M (List D)} {tt1 : TT} {ft1 : M Bool} {g1 : TG} {gm1 : D → M Unit} {js1 vs1 : List Nat} (h : DenI c W wi fI) (k : DenG c W0 g gm js) (kt : DenT c W0 tt ft) (h1 : DenI c W0 wi1 fI1) (k1 : DenG c W0 g1 gm1 js1) (kt1 : DenT c W0 tt1 ft1) (ke : Den c W0 te fe)
    (hj : ∀ j ∈ js, j ∈ own) (hj1 : ∀ j ∈ js1, j ∈ vs1) (hv : ∀ j ∈ vs1, j ∈ own) : Den c W (tLc2 wi g tt wi1 g1 tt1 te own vs1) (mLc2 fI gm ft fI1 gm1 ft1 fe own vs1) := fun B ts vs ρ σ H Q r q => by
  unfold mLc2 at q
  rw [post_then] at q
  refine h B ts vs ρ σ H _ r (q.imp1 fun items ρ1 q J st sv H1 hl r1 w D hD => ?_)
  obtain ⟨n, Gw, Y, wk, rfl, hG, hY⟩ := w
  rw [post_then] at q
  let Pv : Nat → Hp → Prop := fun i H => ∃ ρ acc, Rep c B (tmp st ++ (some (.o none (.lst acc)) :: ts)) (tmv sv ++ (some (.ref D) :: vs)) ρ σ H ∧ (∀ v ∈ own, ρ.set v none = ρ) ∧
    Post (fun ds ρ2 => OkP c B ts vs σ Q (.o none (.lst ds)) ρ2) (ErrP c W B ts vs σ) (mComp2 gm ft fI1 gm1 ft1 fe own vs1 (items.drop i) acc ρ)
  refine ⟨fun i m H => m = items.length - i ∧ i ≤ items.length ∧ Pv i H, ⟨items.length, by simp, Nat.zero_le _, wipeE ρ1 own, [], (Rep.insO hl r1 hD).back rfl, fun v hv => wipeE_at ρ1 own v hv, q⟩, ?_⟩
  rintro i m H1 ⟨rfl, hi, ρ, acc, r, hw, q⟩
  have hg := hG _ _ _ _ _ _ r
  by_cases hlt : i < items.length
  · refine .inr ⟨wk.goes i H1 hlt hg, Pv (i + 1), fun H' p => ⟨items.length - (i + 1), by omega, rfl, hlt, p⟩, fun x H2 y => ?_⟩
    obtain ⟨d, ed, r2⟩ := hY _ _ _ _ _ _ _ _ _ hlt r (wk.yields i H1 x H2 hlt hg y)
    have hd : items.drop i = d :: items.drop (i + 1) := by
      rw [List.drop_eq_getElem_cons hlt]
      rw [List.getElem?_eq_getElem hlt] at ed
      cases ed
      rfl
    rw [hd] at q
    have q : Post _ _ ((gm d ρ).calm.then fun _ ρ1 => (ft ρ1).calm.then fun b ρ2 => _) := q
    rw [post_then] at q
    have r3 : Rep c B (some (.d d) :: (tmp st ++ (some (.o none (.lst acc)) :: ts))) (some x :: (tmv sv ++ (some (.ref D) :: vs))) ρ (L2.wipe σ own) H2 := by
      have := r2.wipe own
      rw [wipeE_id hw] at this
      exact this
    refine k B _ _ ρ _ H2 d x _ r3 (post_calm (q.imp1 fun _ ρ2 q σ2 H3 o r4 => ?_))
    have eo := Off.wipe hj o
    refine ⟨eo, ?_⟩
    rw [post_then] at q
    refine kt B _ _ ρ2 σ2 H3 _ r4 (post_calm (q.imp1 fun b ρ3 q H4 r5 => ?_))
    cases b with
    | false => exact ⟨wipeE ρ3 own, acc, r5.back eo, fun v hv => wipeE_at ρ3 own v hv, q⟩
    | true =>
      have q : Post _ _ ((fI1 ρ3).calm.then fun items1 ρ4 => _) := q
      rw [post_then] at q
      refine h1 B _ _ ρ3 σ2 H4 _ r5 (post_calm (q.imp1 fun items1 ρ4 q J1 st1 sv1 H5 hl1 r6 w1 => ?_))
      obtain ⟨n1, Gw1, Y1, wk1, rfl, hG1, hY1⟩ := w1
      have q : Post _ _ ((mComp gm1 ft1 fe vs1 items1 acc (wipeE ρ4 vs1)).then fun acc' ρ5 => _) := q
      rw [post_then] at q
      have hll : (sv ++ sv1).length = (st ++ st1).length := by simp [hl, hl1]
      let Pv1 : Nat → Hp → Prop := fun j H => ∃ ρ acc, Rep c B (tmp st1 ++ (tmp st ++ (some (.o none (.lst acc)) :: ts))) (tmv sv1 ++ (tmv sv ++ (some (.ref D) :: vs))) ρ σ2 H ∧ (∀ v ∈ vs1, ρ.set v none = ρ) ∧
        Post (fun acc' ρ5 => Post (fun ds ρ2 => OkP c B ts vs σ Q (.o none (.lst ds)) ρ2) (ErrP c W B ts vs σ) (mComp2 gm ft fI1 gm1 ft1 fe own vs1 (items.drop (i + 1)) acc' (wipeE ρ5 own))) (ErrP c W B ts vs σ) (mComp gm1 ft1 fe vs1 (items1.drop j) acc ρ)
      refine ⟨fun j m H => m = items1.length - j ∧ j ≤ items1.length ∧ Pv1 j H, ⟨items1.length, by simp, Nat.zero_le _, wipeE ρ4 vs1, acc, r6.back rfl, fun v hv => wipeE_at ρ4 vs1 v hv, q⟩, ?_⟩
      rintro j m H6 ⟨rfl, hj', ρ5, acc5, r7, hw7, q⟩
      have hg1 := hG1 _ _ _ _ _ _ r7
      by_cases hlt1 : j < items1.length
      · refine .inr ⟨wk1.goes j H6 hlt1 hg1, Pv1 (j + 1), fun H' p => ⟨items1.length - (j + 1), by omega, rfl, hlt1, p⟩, fun x1 H7 y1 => ?_⟩
        obtain ⟨d1, ed1, r8⟩ := hY1 _ _ _ _ _ _ _ _ _ hlt1 r7 (wk1.yields j H6 x1 H7 hlt1 hg1 y1)
        have hd1 : items1.drop j = d1 :: items1.drop (j + 1) := by
          rw [List.drop_eq_getElem_cons hlt1]
          rw [List.getElem?_eq_getElem hlt1] at ed1
          cases ed1
          rfl
        rw [hd1] at q
        have q : Post _ _ ((gm1 d1 ρ5).calm.then fun _ ρ1 => (ft1 ρ1).calm.then fun b ρ2 => _) := q
        rw [post_then] at q
        have r9 : Rep c B (some (.d d1) :: (tmp st1 ++ (tmp st ++ (some (.o none (.lst acc5)) :: ts)))) (some x1 :: (tmv sv1 ++ (tmv sv ++ (some (.ref D) :: vs)))) ρ5 (L2.wipe σ2 vs1) H7 := by
          have := r8.wipe vs1
          rw [wipeE_id hw7] at this
          exact this
        refine k1 B _ _ ρ5 _ H7 d1 x1 _ r9 (post_calm (q.imp1 fun _ ρ6 q σ3 H8 o1 r10 => ?_))
        have eo1 := Off.wipe hj1 o1
        refine ⟨eo1, ?_⟩
        rw [post_then] at q
        refine kt1 B _ _ ρ6 σ3 H8 _ r10 (post_calm (q.imp1 fun b ρ7 q H9 r11 => ?_))
        cases b with
        | false => exact ⟨wipeE ρ7 vs1, acc5, r11.back eo1, fun v hv => wipeE_at ρ7 vs1 v hv, q⟩
        | true =>
          have q : Post _ _ ((dv fe ρ7).calm.then fun y ρ8 => _) := q
          rw [post_then] at q
          refine ke.dv r11 (post_calm (q.imp1 fun y ρ8 q v H10 r12 => ?_))
          split at q
          · rename_i hz
            have r12' : Rep c B (some (.d y) :: (tmp (st ++ st1) ++ (some (.o none (.lst acc5)) :: ts))) (some v :: (tmv (sv ++ sv1) ++ (some (.ref D) :: vs))) ρ8 σ3 H10 := by
              have e1 : tmp st1 ++ (tmp st ++ (some (S.o none (.lst acc5)) :: ts)) = tmp (st ++ st1) ++ (some (.o none (.lst acc5)) :: ts) := by simp [tmp]
              have e2 : tmv sv1 ++ (tmv sv ++ (some (V.ref D) :: vs)) = tmv (sv ++ sv1) ++ (some (.ref D) :: vs) := by simp [tmv]
              rw [← e1, ← e2]
              exact r12
            obtain ⟨us, e1, e2, r13⟩ := Rep.appT hll r12'
            refine ⟨us, e1, ?_, wipeE ρ8 vs1, acc5 ++ [y], (Rep.two_tmp.mpr r13).back eo1, fun v hv => wipeE_at ρ8 vs1 v hv, q⟩
            have := small_line hz
            omega
          · exact q.elim
      · have e : j = items1.length := by omega
        subst e
        rw [List.drop_length] at q
        refine .inl ⟨wk1.stops H6 hg1, wipeE ρ5 own, acc5, (Rep.dropN hl1 r7).back eo, fun v hv => wipeE_at ρ5 own v hv, q⟩
  · have e : i = items.length := by omega
    subst e
    rw [List.drop_length] at q
    exact .inl ⟨wk.stops H1 hg, q _ H1 (r.accT hl)⟩
end
end Fx
/-! defs, their calls, fields, what is made -/
namespace Fx
open PySem PySem.Spec PyProof.Rows L2
open C8 (Cal Mak pe_c pe_mk)
/-! ### states within states -/
def erK : List D → List D
  | [.ins n ds, _] => [.ins n ds, .tup []]
  | ks => ks
theorem erK_key {kvs : List (Key × V)} : erK (kvs.map fun p => keyD p.1) = kvs.map fun p => keyD p.1 := by
  match kvs with
  | [] => rfl
  | (.inl i, _) :: _ => rfl
  | (.inr i, _) :: _ => rfl
theorem QCell.er {c : Cfg} {B B' : Base} {G H : Hp} {a : Addr} {ks : List D} {dss : List (List D)} {os : Owns} (h : QCell c B G H a ks dss os) : QCell c B' G H a (erK ks) dss os := by
  rcases h with ⟨kvs, bs, rfl, h1, rfl, h3, h4⟩ | ⟨n, ds, p, dk, dv, dx, fs, b, o, kv, us, vs, rfl, rfl, rfl, h1, h2, h3, h4, h5, h6, h7, h8, h9⟩ | ⟨ks', o, kv, bs, rfl, rfl, h1, h2, h3, h4⟩
  · exact .inl ⟨kvs, bs, rfl, h1, erK_key, h3, h4⟩
  · exact .inr (.inl ⟨n, ds, none, dk, dv, dx, fs, b, o, kv, us, vs, rfl, rfl, rfl, h1, h2, h3, h4, h5, h6, h7, h8, fun j e => nomatch e⟩)
  · exact .inr (.inr ⟨ks', o, kv, bs, rfl, rfl, h1, h2, h3, h4⟩)
theorem QCell.un {c : Cfg} {B B' : Base} {G H G' H' : Hp} {a : Addr} {ks : List D} {dss : List (List D)} {os os' : Owns} (h0 : QCell c B G H a ks dss os) (h : QCell c B' G' H' a (erK ks) dss os') : QCell c B G' H' a ks dss os' := by
  rcases h0 with ⟨kvs, bs, rfl, h1, rfl, h3, h4⟩ | ⟨n, ds, p, dk, dv, dx, fs, b, o, kv, us, vs, rfl, rfl, rfl, h1, h2, h3, h4, h5, h6, h7, h8, h9⟩ | ⟨ks', o, kv, bs, rfl, rfl, h1, h2, h3, h4⟩
  · rw [erK_key] at h
    rcases h with h | ⟨n, ds, p, dk, dv, dx, fs, b, o, kv, us, vs, e, _⟩ | ⟨ks', o, kv, bs', e, _⟩
    · exact .inl h
    · exfalso
      match kvs, e with
      | (.inl i, _) :: _, e => cases e
      | (.inr i, _) :: _, e => cases e
    · exfalso
      match kvs, e with
      | (.inl i, _) :: _, e => cases e
      | (.inr i, _) :: _, e => cases e
  · rcases h with ⟨kvs, bs, rfl, g1, e, g3, g4⟩ | ⟨n', ds', p', dk', dv', dx', fs', b', o', kv', us', vs', e1, e2, rfl, g1, g2, g3, g4, g5, g6, g7, g8, g9⟩ | ⟨ks', o, kv, bs, e, _⟩
    · exfalso
      match kvs, e with
      | (.inl i, _) :: _, e => cases e
      | (.inr i, _) :: _, e => cases e
    · have e1 : [D.ins n ds, D.tup []] = [D.ins n' ds', plD p'] := e1
      rw [List.cons.injEq, D.ins.injEq] at e1
      obtain ⟨⟨rfl, rfl⟩, _⟩ := e1
      cases e2
      exact .inr (.inl ⟨n, ds, p, dk, dv, dx', fs', b', o', kv', us', vs', rfl, rfl, rfl, g1, g2, g3, g4, g5, g6, g7, g8, h9⟩)
    · cases (show [D.ins n ds, D.tup []] = [D.tup ks'] from e)
  · rcases h with ⟨kvs, bs, rfl, g1, e, g3, g4⟩ | ⟨n', ds', p', dk', dv', dx', fs', b', o', kv', us', vs', e1, _⟩ | g
    · exfalso
      match kvs, e with
      | (.inl i, _) :: _, e => cases e
      | (.inr i, _) :: _, e => cases e
    · cases (show [D.tup ks'] = [D.ins n' ds', plD p'] from e1)
    · exact .inr (.inr g)
def er : S → S
  | .d x => .d x
  | .o _ x => .o none x
  | .q ks dss => .q (erK ks) dss
def erE (es : En) : En := es.map (Option.map er)
def bare (s : S) : Bool := match s with
  | .d _ => true
  | .o none _ => true
  | .o (some _) _ => false
  | .q _ _ => false
section
variable {c : Cfg} {B B' : Base} {G G' H H' : Hp} {ts es es' : En} {vs ws : List (Option V)} {ρ : En} {σ : L2.St} {own own' : Owns}
theorem Sl.er : ∀ {es : En} {vs : List (Option V)} {own : Owns}, Sl c B G H es vs own → Sl c B' G H (erE es) vs own
  | _, _, _, .nil => .nil
  | _, _, _, .skip k => .skip (Sl.er k)
  | _, _, _, .d h k => .d h (Sl.er k)
  | _, _, _, .o h _ k => .o h (fun _ e => nomatch e) (Sl.er k)
  | _, _, _, .q h k => .q h.er (Sl.er k)
theorem Sl.unflag : ∀ {es : En} {vs : List (Option V)} {own own' : Owns}, Sl c B G H es vs own → Sl c B' G' H' (erE es) vs own' → Sl c B G' H' es vs own'
  | [], _, _, _, .nil, h => by
    cases h
    exact .nil
  | none :: es, _, _, _, .skip k, h => by
    have h : Sl c B' G' H' (none :: erE es) _ _ := h
    cases h with
    | skip h => exact .skip (Sl.unflag k h)
  | some (.d x) :: es, _, _, _, .d _ k, h => by
    have h : Sl c B' G' H' (some (.d x) :: erE es) _ _ := h
    cases h with
    | d h1 h => exact .d h1 (Sl.unflag k h)
  | some (.o b x) :: es, _, _, _, .o _ hb k, h => by
    have h : Sl c B' G' H' (some (.o none x) :: erE es) _ _ := h
    cases h with
    | o h1 _ h2 => exact .o h1 hb (Sl.unflag k h2)
  | some (.q ks dss) :: es, _, _, _, .q h0 k, h => by
    have h : Sl c B' G' H' (some (.q (erK ks) dss) :: erE es) _ _ := h
    cases h with
    | q h1 h2 => exact .q (h0.un h1) (Sl.unflag k h2)
theorem Sl.app : ∀ {es : En} {vs : List (Option V)} {o1 o2 : Owns}, Sl c B G H es vs o1 → Sl c B G H es' ws o2 → Sl c B G H (es ++ es') (vs ++ ws) (o1 ++ o2)
  | _, _, _, _, .nil, h => h
  | _, _, _, _, .skip k, h => .skip (Sl.app k h)
  | _, _, _, _, .d a k, h => .d a (Sl.app k h)
  | _, _, _, _, .o a b k, h => .o a b (Sl.app k h)
  | _, _, _, _, .q a k, h => by
    rw [List.append_assoc]
    exact .q a (Sl.app k h)
theorem Sl.split : ∀ {es : En} {vs : List (Option V)} {own : Owns}, es.length = vs.length → Sl c B G H (es ++ es') (vs ++ ws) own → ∃ o1 o2, own = o1 ++ o2 ∧ Sl c B G H es vs o1 ∧ Sl c B G H es' ws o2
  | [], [], own, _, h => ⟨[], own, rfl, .nil, h⟩
  | [], _ :: _, _, e, _ => by simp at e
  | _ :: _, [], _, e, _ => by simp at e
  | none :: es, v :: vs, _, e, h => by
    have h : Sl c B G H (none :: (es ++ es')) (v :: (vs ++ ws)) _ := h
    cases h with
    | skip h =>
      obtain ⟨o1, o2, rfl, h1, h2⟩ := Sl.split (by simpa using e) h
      exact ⟨o1, o2, rfl, .skip h1, h2⟩
  | some (.d x) :: es, v :: vs, _, e, h => by
    have h : Sl c B G H (some (.d x) :: (es ++ es')) (v :: (vs ++ ws)) _ := h
    cases h with
    | d a h =>
      obtain ⟨o1, o2, rfl, h1, h2⟩ := Sl.split (by simpa using e) h
      exact ⟨o1, o2, rfl, .d a h1, h2⟩
  | some (.o b x) :: es, v :: vs, _, e, h => by
    have h : Sl c B G H (some (.o b x) :: (es ++ es')) (v :: (vs ++ ws)) _ := h
    cases h with
    | o a hb h3 =>
      obtain ⟨o1, o2, rfl, h1, h2⟩ := Sl.split (by simpa using e) h3
      exact ⟨_ :: o1, o2, rfl, .o a hb h1, h2⟩
  | some (.q ks dss) :: es, v :: vs, _, e, h => by
    have h : Sl c B G H (some (.q ks dss) :: (es ++ es')) (v :: (vs ++ ws)) _ := h
    cases h with
    | q a h3 =>
      obtain ⟨o1, o2, rfl, h1, h2⟩ := Sl.split (by simpa using e) h3
      exact ⟨_ ++ o1, o2, by rw [List.append_assoc], .q a h1, h2⟩
theorem RpAll.slot {us : List V} {ds : List D} (k : RpAll c G us ds) : Sl c B G H (ds.map fun x => some (S.d x)) (us.map some) [] := by
  have := k.sl (B := B) (H := H) (ts := []) (vs := []) (own := []) .nil
  rwa [List.append_nil, List.append_nil] at this
theorem OkB.anyB (k : OkB c B G H own) (hp : B'.pin = B.pin := by rfl) : OkB c B' G H own := ⟨k.sub, k.notbl, k.nd, k.out, k.tabs, fun a o e => k.pint a o (by rw [← hp]; exact e), fun a o e => k.pin a o (by rw [← hp]; exact e)⟩
/-- into a def: what waits are its arguments, all else waits -/
theorem Rep.enter {ds : List D} {us : List V} (hl : us.length = ds.length) (r : Rep c B (tmp ds ++ ts) (tmv us ++ vs) ρ σ H) (hp : B'.pin = B.pin := by rfl) : Rep c B' (erE ts ++ erE ρ) (vs ++ σ) (ds.map fun x => some (S.d x)) (us.map some) H := by
  obtain ⟨G, o1, o2, k, h1, h2⟩ := r
  obtain ⟨a1, a2⟩ := h1.tmp hl
  exact ⟨G, o1 ++ o2, [], by rw [List.append_nil]; exact k.anyB (hp := hp), (a2.er).app h2.er, a1.slot⟩
/-- back from it -/
theorem Rep.leave {s : S} {v : V} {ρ' : En} {σ' : L2.St} {H0 : Hp} (hs : bare s = true) (r0 : Rep c B ts vs ρ σ H0) (r : Rep c B' (some s :: (erE ts ++ erE ρ)) (some v :: (vs ++ σ)) ρ' σ' H) (hp : B'.pin = B.pin := by rfl) : Rep c B (some s :: ts) (some v :: vs) ρ σ H := by
  obtain ⟨G0, p1, p2, k0, g1, g2⟩ := r0
  obtain ⟨G, o1, o2, k, h1, h2⟩ := r
  obtain ⟨w, os, o1', ew, e1, rfl, h1'⟩ := h1.unone
  cases ew
  obtain ⟨q1, q2, rfl, f1, f2⟩ := h1'.split (by rw [show (erE ts).length = ts.length by simp [erE]]; exact g1.length)
  have e1' : En1 c B G H s v os := by
    cases e1 with
    | d h => exact .d h
    | @o a b x hc hb =>
      cases b with
      | none => exact .o hc fun _ e => nomatch e
      | some k => cases hs
    | q h => cases hs
  refine ⟨G, os ++ q1, q2, (k.anyB (hp := hp.symm)).subO (fun p hp => ?_) ?_, Sl.one e1' (g1.unflag f1), g2.unflag f2⟩
  · simp only [List.mem_append] at hp ⊢
    rcases hp with (hp | hp) | hp
    · exact .inl (.inl hp)
    · exact .inl (.inr (.inl hp))
    · exact .inl (.inr (.inr hp))
  · refine k.nd.sublist ?_
    rw [List.append_assoc os]
    exact List.sublist_append_left _ _
end
/-! ### defs -/
abbrev Fn := List S → Out S
/-- a def of np parameters and nN names, by its body -/
def runF (np nN : Nat) (body : M Fl) : Fn := fun args => if args.length = np then match body (args.map some ++ List.replicate (nN - np) none) with
    | .ok (.rt s) ρ => .ok s ρ
    | .ok .nx ρ => .ok (.d .non) ρ
    | .err e ρ => .err e ρ
    | _ => .stuck
  else .stuck
/-- what a def promises that nothing leaves by an exception -/
def spF (c : Cfg) (F : Fn) : Sp := fun vs H Q _ => ∃ B ts ws args, Rep c B ts ws (args.map some) (vs.map some) H ∧ Post (fun s ρ' => ∀ v σ' H', Rep c B (some s :: ts) (some v :: ws) ρ' σ' H' → Q v H') (fun _ _ => False) (F args)
theorem Rep.slots {c : Cfg} {B : Base} {ts : En} {vs : List (Option V)} {ρ : En} {σ : L2.St} {H : Hp} (n : Nat) (r : Rep c B ts vs ρ σ H) : Rep c B ts vs (ρ ++ List.replicate n none) (σ ++ List.replicate n none) H := by
  obtain ⟨G, o1, o2, k, h1, h2⟩ := r
  have : ∀ n : Nat, Sl c B G H (List.replicate n none) (List.replicate n none) [] := by
    intro n
    induction n with
    | zero => exact .nil
    | succ n ih => exact .skip ih
  refine ⟨G, o1, o2, k, h1, ?_⟩
  have := h2.app (this n)
  rwa [List.append_nil] at this
section
variable {P : Program} {w : World} {K : PySem.W.Frag} {mg : Str → Option Value} {base : Heap}
theorem fn_den {c : Cfg} {x qual : Str} {st : Stmt} {f : Addr} {fd : FuncData} {N ps : List Str} {k : Nat} {body : M Fl} (F : Fun K x qual st f fd) (Sc : FnScope N ps (defScope st))
    (hbody : ∀ (cdv : Value) (A : Around) (outer : List Env) (s : Shared) (H : Hp) (E : XK), Room k (A.deeper (envOfC qual (defScope st) s.heap.objs.size f cdv)) →
      ∃ t, PSs (cxOf L2.CX0 P w K mg base N qual (defScope st) f cdv A outer s H E).nox (defBody st) t ∧ DenS c W0 t body) : FnOk P w K mg base L2.CX0 (k + 1) f fd ps (spF c (runF ps.length N.length body)) := by
  have len : ∀ vs H Q E, spF c (runF ps.length N.length body) vs H Q E → vs.length = ps.length := by
    rintro vs H Q E ⟨B, ts, ws, args, r, p⟩
    obtain ⟨G, o1, o2, k, h1, h2⟩ := r
    have e := h2.length
    rw [List.length_map, List.length_map] at e
    unfold runF at p
    split at p
    · rename_i ha
      omega
    · exact p.elim
  refine F.ok Sc len fun cdv A outer s H vs Q E hr h => ?_
  have hl := len vs H Q E h
  obtain ⟨B, ts, ws, args, r, p⟩ := h
  obtain ⟨t, h1, h2⟩ := hbody cdv A outer s H E hr
  refine ⟨t, h1, ?_⟩
  unfold runF at p
  split at p
  · rename_i ha
    have r2 := r.slots (N.length - ps.length)
    have e1 : vs.map some ++ List.replicate (N.length - ps.length) none = L2.start N vs := by
      unfold L2.start
      rw [hl]
    rw [e1] at r2
    refine h2 B ts ws _ _ H _ r2 ?_
    cases hb : body (args.map some ++ List.replicate (N.length - ps.length) none) with
    | stuck => rw [hb] at p; exact p.elim
    | err e ρ => rw [hb] at p; exact p.elim
    | ok f ρ =>
      rw [hb] at p
      cases f with
      | rt s => exact fun v σ' H' r' => p v σ' H' r'
      | nx => exact fun σ' H' r' => p .non σ' H' (Rep.repl (ds := []) (us := []) r' rfl fun G _ => .non)
      | bk => exact p.elim
      | ct => exact p.elim
  · exact p.elim
end
/-! ### calls -/
def mCall (F : Fn) (fA : M (List D)) : M S := fun ρ => (fA ρ).then fun ds ρ1 => match F (ds.map .d) with
  | .ok s _ => if bare s then .ok s ρ1 else .stuck
  | _ => .stuck
section
variable {c : Cfg} {W : WX} {tA : TA} {fA : M (List D)} {F : Fn} {E : XK}
theorem den_call (h : DenA c W tA fA) : Den c W (tCall (spF c F) [] E tA) (mCall F fA) := fun B ts vs ρ σ H Q r q => by
  unfold mCall at q
  rw [post_then] at q
  refine h B ts vs ρ σ H _ r (q.imp1 fun ds ρ1 q us H1 hl r1 => ?_)
  show spF c F (us ++ []) H1 Q E
  rw [List.append_nil]
  refine ⟨⟨fun _ => none, B.pin⟩, erE ts ++ erE ρ1, vs ++ σ, ds.map .d, by rw [List.map_map]; exact r1.enter hl, ?_⟩
  have r2 := r1.dropN hl
  cases hf : F (ds.map .d) with
  | stuck => rw [hf] at q; exact q.elim
  | err e ρ' => rw [hf] at q; exact q.elim
  | ok s ρ' =>
    rw [hf] at q
    have q : Post (OkP c B ts vs σ Q) (ErrP c W B ts vs σ) (if bare s then .ok s ρ1 else .stuck) := q
    split at q
    · rename_i hs
      exact fun v σ' H' r' => q v H' (Rep.leave hs r2 r')
    · exact q.elim
end
/-! ### an argument that may be changed -/
/-- the arguments but the one at slot i, which stands at place j -/
def OkC (c : Cfg) (B : Base) (ts : En) (vs : List (Option V)) (σ : L2.St) (i j : Nat) (Q : List V → Hp → Prop) (ds : List D) (ρ : En) : Prop :=
  ∀ us H' a, us.length = ds.length → Rep c B (tmp ds ++ ts) (tmv us ++ vs) ρ σ H' → σ[i]? = some (some (.ref a)) → j ≤ ds.length → Q (us.take j ++ .ref a :: us.drop j) H'
def DenC (c : Cfg) (W : WX) (tA : TA) (i j : Nat) (f : M (List D)) : Prop := ∀ B ts vs ρ σ H Q, Rep c B ts vs ρ σ H → Post (OkC c B ts vs σ i j Q) (ErrP c W B ts vs σ) (f ρ) → tA σ H Q
def isOwn (ρ : En) (i : Nat) : Bool := match ρ[i]? with
  | some (some (.o _ _)) => true
  | _ => false
def aOwn (i : Nat) (fr : M (List D)) : M (List D) := fun ρ => if isOwn ρ i then fr ρ else .stuck
section
variable {c : Cfg} {B B' : Base} {W : WX} {ta : TE} {fa : M S} {tr tA : TA} {fr fA : M (List D)} {F : Fn} {E : XK} {i j : Nat} {ts : En} {vs : List (Option V)} {ρ : En} {σ : L2.St} {H : Hp}
theorem dc_own (h : DenA c W tr fr) : DenC c W (tCons (tVar i) tr) i 0 (aOwn i fr) := fun B ts vs ρ σ H Q r q => by
  unfold aOwn at q
  split at q
  · rename_i ho
    unfold isOwn at ho
    split at ho
    · rename_i b x e
      obtain ⟨a, e1, _⟩ := r.varO e
      refine ⟨.ref a, e1, h B ts vs ρ σ H _ r (q.imp1 fun ds ρ1 q us H1 hl r1 => ?_)⟩
      exact q us H1 a hl r1 e1 (Nat.zero_le _)
    · cases ho
  · exact q.elim
theorem dc_cons (ha : Den c W ta fa) (hr : DenC c W tr i j fr) : DenC c W (tCons ta tr) i (j + 1) (aCons fa fr) := fun B ts vs ρ σ H Q r q => by
  unfold aCons at q
  rw [post_then] at q
  refine ha.dv r (q.imp1 fun x ρ1 h v H1 r1 => ?_)
  rw [post_then] at h
  refine hr B _ _ ρ1 σ H1 _ r1 (h.imp (fun ds ρ2 h us H2 a hl r2 e hj => ?_) fun _ _ h => h.drop)
  refine h (v :: us) H2 a (by simp [hl]) ?_ e (by simp; omega)
  unfold tmp tmv
  rw [List.reverse_cons, List.map_append, List.reverse_cons, List.map_append, List.append_assoc, List.append_assoc]
  exact r2
def mCallO (F : Fn) (i j : Nat) (fA : M (List D)) : M S := fun ρ => (fA ρ).then fun ds ρ1 => match ρ1[i]? with
  | some (some (.o b x)) => if j ≤ ds.length then match F ((ds.take j).map .d ++ .o (some j) x :: (ds.drop j).map .d) with
      | .ok s ρ' => match ρ'[j]? with
        | some (some (.o (some j') y)) => if j' = j ∧ bare s = true then .ok s (ρ1.set i (some (.o b y))) else .stuck
        | _ => .stuck
      | _ => .stuck
    else .stuck
  | _ => .stuck
/-- into a def with a cell -/
theorem Sl.takeO : ∀ {es : En} {vs : List (Option V)} {own : Owns} {i : Nat} {b : Option Nat} {x : D} {G : Hp}, Sl c B G H es vs own → es[i]? = some (some (.o b x)) → ∃ a own', vs[i]? = some (some (.ref a)) ∧ Cell c G H a x ∧ (∀ k, b = some k → B.at_ k = some a) ∧ Sl c B G H (es.set i none) vs own' ∧ (∀ p ∈ own, p = a ∨ p ∈ own') ∧ (∀ p ∈ own', p ∈ own) ∧ a ∈ own ∧ (own.Nodup → own'.Nodup ∧ a ∉ own')
  | _, _, _, _, _, _, _, .nil, e => by simp at e
  | _, _, _, 0, _, _, _, .skip k, e => by simp at e
  | _, _, _, 0, _, _, _, .d h k, e => by simp at e
  | _, _, a :: own, 0, _, _, _, .o h hb k, e => by
    simp at e
    obtain ⟨rfl, rfl⟩ := e
    exact ⟨a, own, rfl, h, hb, .skip k, fun p hp => List.mem_cons.mp hp, fun p hp => List.mem_cons_of_mem _ hp, List.mem_cons_self, fun nd => ⟨(List.nodup_cons.mp nd).2, (List.nodup_cons.mp nd).1⟩⟩
  | _, _, _, i + 1, _, _, _, .skip k, e => by
    obtain ⟨a, own', h1, h2, h3, h4, h5⟩ := Sl.takeO (i := i) k (by simpa using e)
    exact ⟨a, own', h1, h2, h3, .skip h4, h5⟩
  | _, _, _, i + 1, _, _, _, .d h k, e => by
    obtain ⟨a, own', h1, h2, h3, h4, h5⟩ := Sl.takeO (i := i) k (by simpa using e)
    exact ⟨a, own', h1, h2, h3, .d h h4, h5⟩
  | _, _, b :: own, i + 1, _, _, _, .o h hb k, e => by
    obtain ⟨a, own', h1, h2, h3, h4, h5, h6, h7, h8⟩ := Sl.takeO (i := i) k (by simpa using e)
    refine ⟨a, b :: own', h1, h2, h3, .o h hb h4, fun p hp => ?_, fun p hp => ?_, List.mem_cons_of_mem _ h7, fun nd => ?_⟩
    · rcases List.mem_cons.mp hp with rfl | hp
      · exact .inr List.mem_cons_self
      · exact (h5 p hp).imp id (List.mem_cons_of_mem _)
    · rcases List.mem_cons.mp hp with rfl | hp
      · exact List.mem_cons_self
      · exact List.mem_cons_of_mem _ (h6 p hp)
    · rw [List.nodup_cons] at nd
      obtain ⟨n1, n2⟩ := h8 nd.2
      refine ⟨List.nodup_cons.mpr ⟨fun hm => nd.1 (h6 _ hm), n1⟩, fun hm => ?_⟩
      rcases List.mem_cons.mp hm with rfl | hm
      · exact nd.1 h7
      · exact n2 hm
  | _, _, _, 0, _, _, _, .q h k, e => by simp at e
  | _, _, _, i + 1, _, _, _, @Sl.q _ _ _ _ _ _ _ _ _ qs own h k, e => by
    obtain ⟨a, own', h1, h2, h3, h4, h5, h6, h7, h8⟩ := Sl.takeO (i := i) k (by simpa using e)
    refine ⟨a, qs ++ own', h1, h2, h3, .q h h4, fun p hp => ?_, fun p hp => ?_, List.mem_append_right _ h7, fun nd => ?_⟩
    · rcases List.mem_append.mp hp with hp | hp
      · exact .inr (List.mem_append_left _ hp)
      · exact (h5 p hp).imp id (List.mem_append_right _)
    · rcases List.mem_append.mp hp with hp | hp
      · exact List.mem_append_left _ hp
      · exact List.mem_append_right _ (h6 p hp)
    · have n0 := List.nodup_append.mp nd
      obtain ⟨n1, n2⟩ := h8 n0.2.1
      refine ⟨nodup_sub nd h6 n1, fun hm => ?_⟩
      rcases List.mem_append.mp hm with hm | hm
      · exact n0.2.2 _ hm _ h7 rfl
      · exact n2 hm
theorem Sl.cons_inv {G : Hp} {s : Option S} {es : En} {v : Option V} {vs : List (Option V)} {own : Owns} (h : Sl c B G H (s :: es) (v :: vs) own) : (s = none ∧ Sl c B G H es vs own) ∨ (∃ w x, s = some (.d x) ∧ v = some w ∧ Rp c G w x ∧ Sl c B G H es vs own) ∨
    (∃ a b x o', s = some (.o b x) ∧ v = some (.ref a) ∧ own = a :: o' ∧ Cell c G H a x ∧ (∀ k, b = some k → B.at_ k = some a) ∧ Sl c B G H es vs o') ∨
    ∃ a ks dss os o', s = some (.q ks dss) ∧ v = some (.ref a) ∧ own = os ++ o' ∧ QCell c B G H a ks dss os ∧ Sl c B G H es vs o' := by
  cases h with
  | skip k => exact .inl ⟨rfl, k⟩
  | d h k => exact .inr (.inl ⟨_, _, rfl, rfl, h, k⟩)
  | o h hb k => exact .inr (.inr (.inl ⟨_, _, _, _, rfl, rfl, rfl, h, hb, k⟩))
  | q h k => exact .inr (.inr (.inr ⟨_, _, _, _, _, rfl, rfl, rfl, h, k⟩))
theorem Sl.putO {G : Hp} : ∀ {es : En} {vs : List (Option V)} {own : Owns} {i : Nat} {b : Option Nat} {x : D} {a : Addr}, Sl c B G H (es.set i none) vs own → i < es.length → vs[i]? = some (some (.ref a)) → Cell c G H a x → (∀ k, b = some k → B.at_ k = some a) → ∃ own', Sl c B G H (es.set i (some (.o b x))) vs own' ∧ (∀ p ∈ own', p = a ∨ p ∈ own) ∧ (own.Nodup → a ∉ own → own'.Nodup)
  | [], _, _, _, _, _, _, _, hi, _, _, _ => by simp at hi
  | s :: es, v :: vs, own, 0, b, x, a, h, _, ev, hc, hb => by
    have h : Sl c B G H (none :: es) (v :: vs) own := h
    simp at ev
    subst ev
    cases h with
    | skip h => exact ⟨a :: own, .o hc hb h, fun p hp => List.mem_cons.mp hp, fun nd na => List.nodup_cons.mpr ⟨na, nd⟩⟩
  | s :: es, [], own, 0, b, x, a, h, _, ev, hc, hb => by simp at ev
  | s :: es, [], own, i + 1, b, x, a, h, _, ev, hc, hb => by simp at ev
  | s :: es, v :: vs, own, i + 1, b, x, a, h, hi, ev, hc, hb => by
    have hj : i < es.length := by simpa using hi
    have ew : vs[i]? = some (some (.ref a)) := by simpa using ev
    rcases Sl.cons_inv (show Sl c B G H (s :: es.set i none) (v :: vs) own from h) with ⟨rfl, k⟩ | ⟨w, y, rfl, rfl, hh, k⟩ | ⟨a', b', y, o', rfl, rfl, rfl, hh, hb', k⟩ | ⟨a', ks, dss, os, o', rfl, rfl, rfl, hh, k⟩
    · obtain ⟨own', h1, h2, h3⟩ := Sl.putO k hj ew hc hb
      exact ⟨own', .skip h1, h2, h3⟩
    · obtain ⟨own', h1, h2, h3⟩ := Sl.putO k hj ew hc hb
      exact ⟨own', .d hh h1, h2, h3⟩
    · obtain ⟨own', h1, h2, h3⟩ := Sl.putO k hj ew hc hb
      refine ⟨a' :: own', .o hh hb' h1, fun p hp => ?_, fun nd na => ?_⟩
      · rcases List.mem_cons.mp hp with rfl | hp
        · exact .inr List.mem_cons_self
        · exact (h2 p hp).imp id (List.mem_cons_of_mem _)
      · rw [List.nodup_cons] at nd
        rw [List.mem_cons, not_or] at na
        refine List.nodup_cons.mpr ⟨fun hm => ?_, h3 nd.2 na.2⟩
        rcases h2 a' hm with e | hm
        · exact na.1 e.symm
        · exact nd.1 hm
    · obtain ⟨own', h1, h2, h3⟩ := Sl.putO k hj ew hc hb
      refine ⟨os ++ own', .q hh h1, fun p hp => ?_, fun nd na => ?_⟩
      · rcases List.mem_append.mp hp with hp | hp
        · exact .inr (List.mem_append_left _ hp)
        · exact (h2 p hp).imp id (List.mem_append_right _)
      · rw [List.nodup_append] at nd ⊢
        rw [List.mem_append, not_or] at na
        refine ⟨nd.1, h3 nd.2.1 na.2, fun x hx y hy e => ?_⟩
        rcases h2 y hy with z | z
        · exact na.1 (z ▸ e ▸ hx)
        · exact nd.2.2 x hx y z e
theorem Rep.enterO {ds : List D} {us : List V} {b : Option Nat} {x : D} {a : Addr} (hl : us.length = ds.length) (hj : j ≤ ds.length) (r : Rep c B (tmp ds ++ ts) (tmv us ++ vs) ρ σ H) (e : ρ[i]? = some (some (.o b x))) (ev : σ[i]? = some (some (.ref a))) :
    Rep c ⟨fun k => if k = j then some a else none, B.pin⟩ (erE ts ++ erE (ρ.set i none)) (vs ++ σ) (((ds.take j).map S.d ++ S.o (some j) x :: (ds.drop j).map S.d).map some) ((us.take j ++ V.ref a :: us.drop j).map some) H := by
  obtain ⟨G, o1, o2, k, h1, h2⟩ := r
  obtain ⟨a1, a2⟩ := h1.tmp hl
  obtain ⟨a', own', e1, hc, _, h3, m1, m2, m3, m4⟩ := h2.takeO e
  rw [ev] at e1
  cases e1
  have nd := k.nd
  rw [List.nodup_append] at nd
  obtain ⟨n1, n2, n3⟩ := nd
  obtain ⟨n4, n5⟩ := m4 n2
  refine ⟨G, o1 ++ own', [a], (k.anyB).subO (fun p hp => ?_) ?_, (a2.er).app h3.er, ?_⟩
  · rcases List.mem_append.mp hp with hp | hp
    · rcases List.mem_append.mp hp with hp | hp
      · exact List.mem_append_left _ hp
      · exact List.mem_append_right _ (m2 p hp)
    · simp at hp
      subst hp
      exact List.mem_append_right _ m3
  · rw [List.nodup_append, List.nodup_append]
    refine ⟨⟨n1, n4, fun x hx y hy => n3 x hx y (m2 y hy)⟩, by simp, fun x hx y hy => ?_⟩
    simp at hy
    subst hy
    rcases List.mem_append.mp hx with hx | hx
    · exact n3 x hx _ m3
    · exact fun z => n5 (z ▸ hx)
  · rw [List.map_append, List.map_cons, List.map_append, List.map_cons, List.map_map, List.map_map]
    have s1 : Sl c ⟨fun k => if k = j then some a else none, B.pin⟩ G H ((ds.take j).map fun x => some (S.d x)) ((us.take j).map some) [] := (a1.take j).slot
    have s2 : Sl c ⟨fun k => if k = j then some a else none, B.pin⟩ G H ((ds.drop j).map fun x => some (S.d x)) ((us.drop j).map some) [] := (a1.drop j).slot
    exact s1.app (.o hc (fun k hk => by cases hk; simp) s2)
theorem Rep.leaveO {s : S} {v : V} {ρ' : En} {σ' : L2.St} {H0 : Hp} {b : Option Nat} {x y : D} {a : Addr} (hs : bare s = true) (r0 : Rep c B ts vs ρ σ H0) (e : ρ[i]? = some (some (.o b x))) (ev : σ[i]? = some (some (.ref a)))
    (r : Rep c ⟨fun k => if k = j then some a else none, B.pin⟩ (some s :: (erE ts ++ erE (ρ.set i none))) (some v :: (vs ++ σ)) ρ' σ' H) (e' : ρ'[j]? = some (some (.o (some j) y))) : Rep c B (some s :: ts) (some v :: vs) (ρ.set i (some (.o b y))) σ H := by
  obtain ⟨G0, p1, p2, k0, g1, g2⟩ := r0
  obtain ⟨a0, own0, e0, _, hb0, g3, _⟩ := g2.takeO e
  rw [ev] at e0
  cases e0
  obtain ⟨G, o1, o2, k, h1, h2⟩ := r
  obtain ⟨w, os, o1', ew, e1, rfl, h1'⟩ := h1.unone
  cases ew
  obtain ⟨q1, q2, rfl, f1, f2⟩ := h1'.split (by rw [show (erE ts).length = ts.length by simp [erE]]; exact g1.length)
  have e1' : En1 c B G H s v os := by
    cases e1 with
    | d h => exact .d h
    | @o a b x hc hb =>
      cases b with
      | none => exact .o hc fun _ e => nomatch e
      | some k => cases hs
    | q h => cases hs
  obtain ⟨a2, e2, hc2, m2, hb2⟩ := h2.getO e'
  have ea : a2 = a := by
    have := hb2 j rfl
    simp at this
    exact this.symm
  subst ea
  have hi : i < ρ.length := (List.getElem?_eq_some_iff.mp e).1
  have nd := k.nd
  rw [List.nodup_append, List.nodup_append, List.nodup_append] at nd
  obtain ⟨⟨n1, ⟨n2, n3, n4⟩, n5⟩, n6, n7⟩ := nd
  have na : a2 ∉ q2 := fun hm => n7 a2 (List.mem_append_right _ (List.mem_append_right _ hm)) a2 m2 rfl
  obtain ⟨own', f3, m3, m4⟩ := Sl.putO (g3.unflag f2) hi ev hc2 hb0
  refine ⟨G, os ++ q1, own', (k.anyB).subO (fun p hp => ?_) ?_, Sl.one e1' (g1.unflag f1), f3⟩
  · simp only [List.mem_append] at hp ⊢
    rcases hp with (hp | hp) | hp
    · exact .inl (.inl hp)
    · exact .inl (.inr (.inl hp))
    · rcases m3 p hp with rfl | hp
      · exact .inr m2
      · exact .inl (.inr (.inr hp))
  · rw [List.nodup_append, List.nodup_append]
    refine ⟨⟨n1, n2, fun x hx y hy => n5 x hx y (List.mem_append_left _ hy)⟩, m4 n3 na, fun x hx y hy => ?_⟩
    rcases m3 y hy with rfl | hy
    · rcases List.mem_append.mp hx with hx | hx
      · exact n7 x (List.mem_append_left _ hx) _ m2
      · exact n7 x (List.mem_append_right _ (List.mem_append_left _ hx)) _ m2
    · rcases List.mem_append.mp hx with hx | hx
      · exact n5 x hx y (List.mem_append_right _ hy)
      · exact n4 x hx y hy
theorem den_callO (h : DenC c W tA i j fA) : Den c W (tCall (spF c F) [] E tA) (mCallO F i j fA) := fun B ts vs ρ σ H Q r q => by
  unfold mCallO at q
  rw [post_then] at q
  refine h B ts vs ρ σ H _ r (q.imp1 fun ds ρ1 q us H1 a hl r1 ev hj => ?_)
  show spF c F (us.take j ++ V.ref a :: us.drop j ++ []) H1 Q E
  rw [List.append_nil]
  split at q
  · rename_i b x e
    rw [if_pos hj] at q
    refine ⟨_, _, _, _, r1.enterO hl hj e ev, ?_⟩
    have r2 := r1.dropN hl
    cases hf : F ((ds.take j).map .d ++ .o (some j) x :: (ds.drop j).map .d) with
    | stuck => rw [hf] at q; exact q.elim
    | err e ρ' => rw [hf] at q; exact q.elim
    | ok s ρ' =>
      rw [hf] at q
      have q2 : Post (OkP c B ts vs σ Q) (ErrP c W B ts vs σ) (match ρ'[j]? with
        | some (some (.o (some j') y)) => if j' = j ∧ bare s = true then .ok s (ρ1.set i (some (.o b y))) else .stuck
        | _ => .stuck) := q
      clear q
      split at q2
      · rename_i j' y e'
        split at q2
        · rename_i hh
          obtain ⟨rfl, hs⟩ := hh
          exact fun v σ' H' r' => q2 v H' (Rep.leaveO hs r2 e ev r' e')
        · exact q2.elim
      · exact q2.elim
  · exact q.elim
end
/-! ### fields -/
/-- what the text tells of a class, of a field of it -/
structure FldOk (c : Cfg) (n : String) (f : Str) (i : Nat) : Prop where
  cl : Cls c.K (c.cls n)
  na : NoAttr c.K (c.cls n) f
  at_ : (c.flds n)[i]? = some f
  nd : (c.flds n).Nodup
def gFld (n : String) (i : Nat) : D → Option S
  | .ins m ds => if m = n then (ds[i]?).bind ok1 else none
  | _ => none
def mFldE (n : String) (i : Nat) (fe : M S) : M S := mUn (gFld n i) fe
section
variable {c : Cfg} {W : WX} {te : TE} {fe : M S} {n : String} {f : Str} {i k : Nat}
theorem lookup_at : ∀ {fs : List (Str × V)} {i : Nat} {f : Str}, (fs.map (·.1)).Nodup → (fs.map (·.1))[i]? = some f → ∃ v, fs.lookup f = some v ∧ (fs.map (·.2))[i]? = some v
  | [], _, _, _, e => by simp at e
  | (g, v) :: fs, 0, f, nd, e => by
    simp at e
    subst e
    exact ⟨v, by simp, rfl⟩
  | (g, v) :: fs, i + 1, f, nd, e => by
    rw [List.map_cons, List.nodup_cons] at nd
    have e : (fs.map (·.1))[i]? = some f := by simpa using e
    obtain ⟨w, h1, h2⟩ := lookup_at nd.2 e
    refine ⟨w, ?_, h2⟩
    have ne : f ≠ g := fun z => nd.1 (z ▸ List.mem_of_getElem? e)
    rw [List.lookup_cons, beq_eq_false_iff_ne.mpr ne]
    exact h1
/-- the field's value, where the first of the fields stand -/
theorem fld_read {K : FldOk c n f i} {fs : List (Str × V)} {ds : List D} {G : Hp} {x : D} (hn : fs.map (·.1) = (c.flds n).take ds.length) (k : RpAll c G (fs.map (·.2)) ds) (e : ds[i]? = some x) : ∃ v, fs.lookup f = some v ∧ Rp c G v x := by
  have hi : i < ds.length := (List.getElem?_eq_some_iff.mp e).1
  have nd : (fs.map (·.1)).Nodup := by
    rw [hn]
    exact K.nd.sublist (List.take_sublist _ _)
  obtain ⟨v, h1, h2⟩ := lookup_at nd (by rw [hn, List.getElem?_take_of_lt hi]; exact K.at_)
  obtain ⟨d, h3, h4⟩ := k.getV h2
  rw [e] at h3
  cases h3
  exact ⟨v, h1, h4⟩
theorem Rp.insE {G : Hp} {v : V} {ds : List D} (h : Rp c G v (.ins n ds)) : ∃ a dx fs, v = .ref a ∧ G a = some (.ins (c.cls n) dx fs) ∧ fs.map (·.1) = (c.flds n).take ds.length ∧ RpAll c G (fs.map (·.2)) ds := by cases h with | ins h1 h2 h3 => exact ⟨_, _, _, rfl, h1, h2, h3⟩
/-- .. by its getter -/
theorem den_prop (K : FldOk c n f i) (h : Den c W te fe) : Den c W (tProp (c.cls n) (getSp (c.cls n) f) [] E0 te) (mFldE n i fe) := fun B ts vs ρ σ H Q r q => by
  unfold mFldE mUn at q
  rw [post_then] at q
  refine h.dv r (q.imp1 fun x ρ1 q v H1 r1 => ?_)
  cases x <;> first | exact q.elim | skip
  rename_i m ds
  have q : Post (OkP c B ts vs σ Q) (ErrP c W B ts vs σ) (match (if m = n then (ds[i]?).bind ok1 else none) with
    | some s => .ok s ρ1
    | none => .stuck) := q
  by_cases hm : m = n
  · subst hm
    rw [if_pos rfl] at q
    cases e : ds[i]? with
    | none => rw [e] at q; exact q.elim
    | some x =>
      rw [e] at q
      obtain ⟨G, O, hv⟩ := r1.one
      obtain ⟨a, dx, fs, rfl, ha, hn, k⟩ := hv.insE
      obtain ⟨w, h1, h2⟩ := fld_read (K := K) hn k e
      exact ⟨a, dx, fs, rfl, O.sub _ _ ha, a, dx, fs, w, rfl, O.sub _ _ ha, h1, q _ _ (O.val h2)⟩
  · rw [if_neg hm] at q
    exact q.elim
/-- self.f = e, the next of its fields -/
def mSetF (n : String) (i k : Nat) (fe : M S) : M Fl := fun ρ => (dv fe ρ).then fun x ρ1 => match ρ1[k]? with
  | some (some (.o b (.ins m ds))) => if m = n ∧ ds.length = i then .ok .nx (ρ1.set k (some (.o b (.ins m (ds ++ [x]))))) else .stuck
  | _ => .stuck
theorem putF_new : ∀ {fs : List (Str × V)} {f : Str} {v : V}, f ∉ fs.map (·.1) → (putF f v fs).map (·.1) = fs.map (·.1) ++ [f] ∧ (putF f v fs).map (·.2) = fs.map (·.2) ++ [v]
  | [], f, v, _ => by simp [putF]
  | (g, u) :: fs, f, v, h => by
    rw [List.map_cons, List.mem_cons, not_or] at h
    obtain ⟨h1, h2⟩ := putF_new (v := v) h.2
    have e : putF f v ((g, u) :: fs) = (g, u) :: putF f v fs := by
      show (if g = f then (g, v) :: fs else (g, u) :: putF f v fs) = _
      rw [if_neg (fun z => h.1 z.symm)]
    rw [e]
    simp [h1, h2]
theorem ds_setF (K : FldOk c n f i) (hi : (c.flds n).length ≤ 100) (h : Den c W te fe) : DenS c W (sFld c.K (tVar k) te f) (mSetF n i k fe) := fun B ts vs ρ σ H D r q0 => by
  unfold mSetF at q0
  rw [post_then] at q0
  refine h.dv r (q0.imp (fun x ρ1 q v H1 r1 => ?_) fun _ _ h => h.toP)
  split at q
  · rename_i b m ds e
    split at q
    · rename_i hm
      obtain ⟨rfl, hl⟩ := hm
      obtain ⟨a, ev, G, sub, dx, fs, ha, hn, ka⟩ := r1.varO e
      have hil : i < (c.flds m).length := (List.getElem?_eq_some_iff.mp K.at_).1
      have hfl : fs.length = ds.length := by
        have := ka.length
        simpa using this
      have nf : f ∉ fs.map (·.1) := by
        rw [hn, hl]
        intro hm
        obtain ⟨j, hj, ej⟩ := List.mem_iff_getElem.mp hm
        have hj2 : j < i := by
          rw [List.length_take] at hj
          omega
        rw [List.getElem_take] at ej
        have e2 := (List.getElem?_eq_some_iff.mp K.at_).2
        have := (List.getElem_inj K.nd).mp (ej.trans e2.symm)
        omega
      refine ⟨.ref a, ev, a, _, dx, fs, rfl, ha, K.cl, K.na, by omega, ?_⟩
      refine q _ _ (Rep.write (ds := [x]) (us := [v]) e ev rfl r1 ha (.ins _ _ _) fun G H' e' hc hk => ?_)
      obtain ⟨dx', fs', ha', hn', ka'⟩ := hc
      rw [ha] at ha'
      cases ha'
      obtain ⟨p1, p2⟩ := putF_new (v := v) nf
      refine ⟨dx, _, e', ?_, ?_⟩
      · rw [p1, hn, List.length_append, List.length_singleton, hl, List.take_succ, K.at_]
        rfl
      · rw [p2]
        cases hk with
        | cons hk _ => exact ka'.snoc hk
    · exact q.elim
  · exact q.elim
end
/-- C(..) -/
def mMake (n : String) (nf : Nat) (F : Fn) (fA : M (List D)) : M S := fun ρ => (fA ρ).then fun ds ρ1 => match F (S.o (some 0) (D.ins n []) :: ds.map S.d) with
  | .ok (.d .non) ρ' => match (ρ'[0]? : Option (Option S)) with
    | some (some (.o (some j) (.ins m fs))) => if j = 0 ∧ m = n ∧ fs.length = nf then .ok (.d (.ins n fs)) ρ1 else .stuck
    | _ => .stuck
  | _ => .stuck
section
variable {c : Cfg} {W : WX} {tA : TA} {fA : M (List D)} {F : Fn} {n : String} {nf : Nat} {E : XK}
theorem Rep.foreign {B : Base} {ts : En} {vs : List (Option V)} {ρ : En} {σ : L2.St} {H : Hp} {p : Addr} {o : HO} (hp : H p = none) (r : Rep c B ts vs ρ σ H) : Rep c B ts vs ρ σ (upd H p o) := by
  obtain ⟨G, o1, o2, k, h1, h2⟩ := r
  have ow := own_new (o := o) k hp
  refine ⟨G, o1, o2, ⟨fun a u e => ?_, k.notbl, k.nd, fun q hq => ?_, tabs_new k.tabs hp, k.pint, fun a u e => ⟨by rw [upd_ne (ne_of_none (k.pin a u e).1 hp)]; exact (k.pin a u e).1, (k.pin a u e).2⟩⟩, h1.mono (fun _ _ e => e) fun q hq => ow q (List.mem_append_left _ hq), h2.mono (fun _ _ e => e) fun q hq => ow q (List.mem_append_right _ hq)⟩
  · rw [upd_ne (ne_of_none (k.sub a u e) hp)]
    exact k.sub a u e
  · rw [ow q hq]
    exact k.out q hq
theorem den_make (hnf : (c.flds n).length = nf) (h : DenA c W tA fA) : Den c W (tMake (c.cls n) (spF c F) [] E tA) (mMake n nf F fA) := fun B ts vs ρ σ H Q r q0 => by
  unfold mMake at q0
  rw [post_then] at q0
  refine h B ts vs ρ σ H _ r (q0.imp1 fun ds ρ1 q us H1 hl r1 => ?_)
  intro x dx hx hdx ne
  show spF c F (.ref x :: (us ++ [])) _ _ E
  rw [List.append_nil]
  have r2 := Rep.foreign (o := .own x) hdx r1
  have hx2 : upd H1 dx (.own x) x = none := by rw [upd_ne ne.symm]; exact hx
  have ra : Rep c ⟨fun k => if k = 0 then some x else none, B.pin⟩ (erE ts ++ erE ρ1) (vs ++ σ) ((S.o (some 0) (.ins n []) :: ds.map S.d).map some) ((V.ref x :: us).map some) (upd (upd H1 dx (.own x)) x (.ins (c.cls n) dx [])) := by
    obtain ⟨G, o1, o2, k, h1, h2⟩ := r2
    obtain ⟨a1, a2⟩ := h1.tmp hl
    have k2 := (k.allocO (o := .ins (c.cls n) dx []) hx2)
    have ow := own_new (o := .ins (c.cls n) dx []) k hx2
    have nd := k2.nd
    rw [List.nodup_cons] at nd
    refine ⟨G, o1 ++ o2, [x], (k2.anyB).subO (fun p hp => ?_) ?_, ((a2.mono (fun _ _ e => e) fun q hq => ow q (List.mem_append_left _ hq)).er).app (h2.mono (fun _ _ e => e) fun q hq => ow q (List.mem_append_right _ hq)).er, ?_⟩
    · rcases List.mem_append.mp hp with hp | hp
      · exact List.mem_cons_of_mem _ hp
      · simp at hp
        subst hp
        exact List.mem_cons_self
    · rw [List.nodup_append]
      refine ⟨nd.2, by simp, fun y hy z hz => ?_⟩
      simp at hz
      subst hz
      exact fun e => nd.1 (e ▸ hy)
    · rw [List.map_cons, List.map_map]
      exact .o ⟨dx, [], upd_same, by simp, .nil⟩ (fun k hk => by cases hk; rfl) a1.slot
  refine ⟨_, _, _, _, ra, ?_⟩
  have r3 := r1.dropN hl
  cases hf : F (S.o (some 0) (D.ins n []) :: ds.map S.d) with
  | stuck => rw [hf] at q; exact q.elim
  | err e ρ' => rw [hf] at q; exact q.elim
  | ok s ρ' =>
    rw [hf] at q
    match s, q with
    | .d .non, q =>
      have q2 : Post (OkP c B ts vs σ Q) (ErrP c W B ts vs σ) (match (ρ'[0]? : Option (Option S)) with
        | some (some (.o (some j) (.ins m fs))) => if j = 0 ∧ m = n ∧ fs.length = nf then .ok (.d (.ins n fs)) ρ1 else .stuck
        | _ => .stuck) := q
      clear q
      split at q2
      · rename_i j m fs e'
        split at q2
        · rename_i hh
          obtain ⟨rfl, rfl, hfs⟩ := hh
          intro v σ' H' r'
          obtain ⟨G, o1, o2, k, h1, h2⟩ := r'
          obtain ⟨a, ev, hc, hm, hb⟩ := h2.getO e'
          have ea : a = x := by
            have := hb 0 rfl
            simp at this
            exact this.symm
          subst ea
          cases h1 with
          | d hv h1 =>
            cases hv
            refine ⟨rfl, q2 _ _ ?_⟩
            obtain ⟨dx', gs, ha, hn, ka⟩ := hc
            obtain ⟨G0, p1, p2, k0, g1, g2⟩ := r3
            obtain ⟨q1, q2, rfl, f1, f2⟩ := h1.split (by rw [show (erE ts).length = ts.length by simp [erE]]; exact g1.length)
            have nd := k.nd
            rw [List.nodup_append] at nd
            have gp := (k.out a (List.mem_append_right _ hm)).1
            have k3 : OkB c B (upd G a (.ins (c.cls m) dx' gs)) H' (q1 ++ q2) := (k.anyB).freeze (List.mem_append_right _ hm) ha rfl (fun q hq => ⟨List.mem_append_left _ hq, nd.2.2 q hq a hm⟩) nd.1
            refine ⟨_, q1, q2, k3, .d (.ins upd_same ?_ (ka.mono (upd_sub gp))) ((g1.unflag f1).mono (upd_sub gp) fun _ _ => rfl), (g2.unflag f2).mono (upd_sub gp) fun _ _ => rfl⟩
            rw [hn]
        · exact q2.elim
      · exact q2.elim
end
end Fx
/-! slices, chains, truth, isinstance, cells of names -/
namespace Fx
open PySem PySem.Spec PyProof.Rows L2
/-! ### slices -/
def cutD (xs : List D) (lo hi : Option Int) : List D := (xs.drop (HT.sIx xs.length 0 lo)).take (HT.sIx xs.length xs.length hi - HT.sIx xs.length 0 lo)
theorem RpAll.cut {c : Cfg} {G : Hp} {us : List V} {xs : List D} (k : RpAll c G us xs) (lo hi : Option Int) : RpAll c G (cutV us lo hi) (cutD xs lo hi) := by
  unfold cutV cutD
  rw [k.length]
  exact (k.drop _).take _
def rSlG (K : PySem.W.Frag) : V → Option Int → Option Int → Hp → VK → Prop := fun x lo hi H Q => rSlN K x lo hi H Q ∨ rSlL K x lo hi H Q ∨ C8.rSlX x lo hi H Q
theorem sl_G {X : Cx} : SlR X (rSlG X.K) := SlR.or sl_tupN (SlR.or sl_list C8.sl_txt)
def gSl (x : D) (lo hi : Option Int) : Option S := match x with
  | .tup xs => ok1 (.tup (cutD xs lo hi))
  | .lst xs => some (.o none (.lst (cutD xs lo hi)))
  | .str z => if small z.length then ok1 (.str (Txt.slice z lo hi)) else none
  | _ => none
def oNone : M (Option Int) := fun ρ => .ok none ρ
def oSome (f : M S) : M (Option Int) := fun ρ => (dv f ρ).then fun x ρ' => match x with
  | .int i => .ok (some i) ρ'
  | _ => .stuck
def DenO (c : Cfg) (W : WX) (to : TO) (f : M (Option Int)) : Prop := ∀ B ts vs ρ σ H Q, Rep c B ts vs ρ σ H → Post (fun o ρ' => ∀ H', Rep c B ts vs ρ' σ H' → Q o H') (ErrP c W B ts vs σ) (f ρ) → to σ H Q
def mSl (fe : M S) (fl fh : M (Option Int)) : M S := fun ρ => (dv fe ρ).then fun x ρ1 => (fl ρ1).then fun lo ρ2 => (fh ρ2).then fun hi ρ3 => match gSl x lo hi with
  | some s => .ok s ρ3
  | none => .stuck
section
variable {c : Cfg} {W : WX} {te ta tb tc : TE} {fe fa fb fc : M S} {tl th : TO} {fl fh : M (Option Int)}
theorem do_none : DenO c W tNoPart oNone := fun B ts vs ρ σ H Q r q => q H r
theorem do_some (h : Den c W te fe) : DenO c W (tPart te) (oSome fe) := fun B ts vs ρ σ H Q r q => by
  unfold oSome at q
  rw [post_then] at q
  refine h.dv r (q.imp1 fun x ρ1 q v H1 r1 => ?_)
  cases x <;> first | exact q.elim | skip
  obtain ⟨G, O, hv⟩ := r1.one
  cases hv
  exact ⟨_, rfl, q H1 r1.drop⟩
theorem cutD_all {xs : List D} {lo hi : Option Int} (h : HT.sIx xs.length 0 lo = 0 ∧ HT.sIx xs.length xs.length hi = xs.length) : cutD xs lo hi = xs := by
  unfold cutD
  rw [h.1, h.2]
  simp
theorem den_sl (h : Den c W te fe) (hl : DenO c W tl fl) (hh : DenO c W th fh) : Den c W (tSl (rSlG c.K) te tl th) (mSl fe fl fh) := fun B ts vs ρ σ H Q r q => by
  unfold mSl at q
  rw [post_then] at q
  refine h.dv r (q.imp1 fun x ρ1 q1 v H1 r1 => ?_)
  rw [post_then] at q1
  refine hl B _ _ ρ1 σ H1 _ r1 (q1.imp (fun lo ρ2 q2 H2 r2 => ?_) fun _ _ h => h.drop)
  rw [post_then] at q2
  refine hh B _ _ ρ2 σ H2 _ r2 (q2.imp (fun hi ρ3 q3 H3 r3 => ?_) fun _ _ h => h.drop)
  obtain ⟨G, O, hv⟩ := r3.one
  cases x with
  | tup xs =>
    obtain ⟨a, us, rfl, ha, k, n⟩ := hv.tupN
    refine .inl ⟨a, us, rfl, SqT.up O.sub ha, fun hw => ?_, fun hw p o hp ho => ?_⟩
    · rw [k.length] at hw
      have e : cutD xs lo hi = xs := cutD_all hw
      have q4 : OkP c B ts vs σ Q (.d (.tup (cutD xs lo hi))) ρ3 := q3
      rw [e] at q4
      exact q4 _ _ (O.val (.tup ha k n))
    · exact q3 _ _ (O.new hp rfl fun G' m e => .tup (.inl (.inr ⟨o, e⟩)) ((k.cut lo hi).mono m) fun _ => ⟨o, e, ho⟩)
  | lst xs =>
    obtain ⟨a, us, rfl, ha, k⟩ := hv.lstE
    exact .inr (.inl ⟨a, us, rfl, SqL.of (O.sub _ _ ha), fun p hp => q3 _ _ (O.newO hp fun H' e => ⟨_, e, k.cut lo hi⟩)⟩)
  | str z =>
    have q4 : Post (OkP c B ts vs σ Q) (ErrP c W B ts vs σ) (match (if small z.length then ok1 (.str (Txt.slice z lo hi)) else none) with
      | some s => .ok s ρ3
      | none => .stuck) := q3
    by_cases hz : small z.length = true
    · rw [if_pos hz] at q4
      cases hv
      exact .inr (.inr ⟨z, rfl, small_line hz, q4 _ _ (O.val (.str _))⟩)
    · rw [if_neg hz] at q4
      exact q4.elim
  | _ => exact q3.elim
/-! ### a op b op c -/
def mChain (g g' : D → D → Option S) (fa fb fc : M S) : M S := fun ρ => (dv fa ρ).then fun x ρ1 => (dv fb ρ1).then fun y ρ2 => match g x y with
  | some (.d (.bl true)) => (dv fc ρ2).then fun z ρ3 => match g' y z with
      | some s => .ok s ρ3
      | none => .stuck
  | some (.d (.bl false)) => .ok (.d (.bl false)) ρ2
  | _ => .stuck
theorem den_chain {r r' : R2} {g g' : D → D → Option S} (ho : OpDen c r g) (ho' : OpDen c r' g') (hmono : ∀ x y H Q Q', (∀ v H', Q v H' → Q' v H') → r x y H Q → r x y H Q') (ha : Den c W ta fa) (hb : Den c W tb fb) (hc : Den c W tc fc) : Den c W (tChain r r' ta tb tc) (mChain g g' fa fb fc) := fun B ts vs ρ σ H Q rp q => by
  unfold mChain at q
  rw [post_then] at q
  refine ha.dv rp (q.imp1 fun x ρ1 q1 v H1 r1 => ?_)
  rw [post_then] at q1
  refine hb.dv r1 (q1.imp (fun y ρ2 q2 u H2 r2 => ?_) fun _ _ h => h.drop)
  have fin : ∀ b, g x y = some (.d (.bl b)) → (if b = true then ∀ H3, Rep c B (some (.d y) :: ts) (some u :: vs) ρ2 σ H3 → tc σ H3 (fun w' H4 => r' u w' H4 Q) else ∀ H3, Rep c B ts vs ρ2 σ H3 → Q (.bl false) H3) → r v u H2 fun z H3 => ∃ k, z = .bl k ∧ (if k = true then tc σ H3 (fun w' H4 => r' u w' H4 Q) else Q (.bl false) H3) := by
    intro b hg hk
    -- keep y waiting
    have r3 : Rep c B (some (.d y) :: some (.d x) :: some (.d y) :: ts) (some u :: some v :: some u :: vs) ρ2 σ H2 := by
      obtain ⟨G, o1, o2, k, h1, h2⟩ := r2
      cases h1 with
      | d a h1 =>
        cases h1 with
        | d b h1 => exact ⟨G, o1, o2, k, .d a (.d b (.d a h1)), h2⟩
    refine ho B _ _ ρ2 σ H2 _ x y v u _ r3 hg fun w H3 r4 => ?_
    obtain ⟨G, O, hw⟩ := r4.one
    cases hw
    refine ⟨b, rfl, ?_⟩
    cases b with
    | true => exact hk H3 r4.drop
    | false => exact hk H3 r4.drop.drop
  split at q2
  · rename_i hg
    refine fin true hg fun H3 r3 => ?_
    rw [post_then] at q2
    refine hc.dv r3 (q2.imp (fun z ρ3 q3 w H4 r4 => ?_) fun _ _ h => h.drop)
    split at q3
    · rename_i s hs
      exact ho' B ts vs ρ3 σ H4 Q y z u w s r4 hs q3
    · exact q3.elim
  · rename_i hg
    exact fin false hg fun H3 r3 => OkP.bl q2 r3
  · exact q2.elim
end
/-! ### truth -/
def truD : D → Option Bool
  | .non => some false
  | .bl b => some b
  | .int i => some (i != 0)
  | .str z => if small z.length then some ((z.length : Int) != 0) else none
  | .tup ds => some (!ds.isEmpty)
  | .lst ds => some (!ds.isEmpty)
  | _ => none
def mTruth (fe : M S) : M Bool := fun ρ => (dv fe ρ).then fun x ρ1 => match truD x with
  | some b => .ok b ρ1
  | none => .stuck
/-- .. of a name's cell -/
def mTruthO (i : Nat) : M Bool := fun ρ => match ρ[i]? with
  | some (some (.o _ (.lst ds))) => .ok (!ds.isEmpty) ρ
  | some (some (.d x)) => match truD x with
    | some b => .ok b ρ
    | none => .stuck
  | _ => .stuck
section
variable {c : Cfg} {W : WX} {te : TE} {fe : M S} {i : Nat}
theorem isEmpty_len {α β : Type} {xs : List α} {ys : List β} (h : xs.length = ys.length) : xs.isEmpty = ys.isEmpty := by
  cases xs <;> cases ys <;> first | rfl | simp at h
theorem Rp.tru {G H : Hp} {v : V} {x : D} {b : Bool} (s : ∀ a o, G a = some o → H a = some o) (h : Rp c G v x) (e : truD x = some b) : TruV c.K v H b := by
  cases x with
  | non => cases e; cases h; rfl
  | bl b => cases e; cases h; rfl
  | int i => cases e; cases h; rfl
  | str z =>
    have e : (if small z.length then some ((z.length : Int) != 0) else none) = some b := e
    split at e
    · rename_i hz
      cases e
      cases h
      exact ⟨small_line hz, rfl⟩
    · cases e
  | tup ds =>
    cases e
    obtain ⟨a, us, rfl, ha, k⟩ := h.tupE
    exact .inr (.inl ⟨us, SqT.up s ha, by rw [isEmpty_len k.length]⟩)
  | lst ds =>
    cases e
    obtain ⟨a, us, rfl, ha, k⟩ := h.lstE
    exact .inl ⟨us, SqL.of (s _ _ ha), by rw [isEmpty_len k.length]⟩
  | _ => cases e
def tTru (K : PySem.W.Frag) (te : TE) : TT := fun σ H Q => te σ H fun x H1 => ∃ k, TruV K x H1 k ∧ Q k H1
theorem dt_truth (h : Den c W te fe) : DenT c W (tTru c.K te) (mTruth fe) := fun B ts vs ρ σ H Q r q => by
  unfold mTruth at q
  rw [post_then] at q
  refine h.dv r (q.imp1 fun x ρ1 q v H1 r1 => ?_)
  split at q
  · rename_i b e
    obtain ⟨G, O, hv⟩ := r1.one
    exact ⟨b, hv.tru O.sub e, q H1 r1.drop⟩
  · exact q.elim
theorem dt_truthO : DenT c W (tTru c.K (tVar i)) (mTruthO i) := fun B ts vs ρ σ H Q r q => by
  unfold mTruthO at q
  split at q
  · rename_i b ds e
    obtain ⟨a, ev, G, sub, us, ha, k⟩ := r.varO e
    exact ⟨.ref a, ev, _, .inl ⟨us, SqL.of ha, rfl⟩, by rw [isEmpty_len k.length]; exact q H r⟩
  · rename_i x e
    split at q
    · rename_i b eb
      obtain ⟨v, ev, r1⟩ := r.var e
      obtain ⟨G, O, hv⟩ := r1.one
      exact ⟨v, ev, b, hv.tru O.sub eb, q H r⟩
    · exact q.elim
  · exact q.elim
end
/-! ### isinstance -/
def tyD : D → Option String
  | .non => some "NoneType"
  | .bl _ => some "bool"
  | .int _ => some "int"
  | .str _ => some "str"
  | .tup _ => some "tuple"
  | .lst _ => some "list"
  | _ => none
theorem Rp.tyX {c : Cfg} {G H : Hp} {v : V} {x : D} {n : String} (s : ∀ a o, G a = some o → H a = some o) (h : Rp c G v x) (e : tyD x = some n) : TyX c.K H v (.type n) := by
  cases h with
  | non => cases e; exact .base .non
  | bl b => cases e; exact .base (.bl b)
  | int i => cases e; exact .base (.int i)
  | str z => cases e; exact .base (.str z)
  | tup ha _ =>
    cases e
    rcases SqT.up s ha with (ha | ⟨o, ha⟩) | ⟨o, its, m, hk, hc, _⟩
    · exact .base (.tup ha)
    · exact .fTuple ha
    · exact .kTuple hk hc
  | lst ha _ => cases e; exact .base (.lst (s _ _ ha))
  | _ => cases e
def isTy (n : String) (x : D) : Option Bool := match n, x with
  | "int", .int _ => some true
  | "int", .bl _ => some true
  | "int", .non => some false
  | "int", .str _ => some false
  | "int", .tup _ => some false
  | "int", .lst _ => some false
  | "bool", .bl _ => some true
  | "bool", .int _ => some false
  | "bool", .non => some false
  | "bool", .str _ => some false
  | "bool", .tup _ => some false
  | "bool", .lst _ => some false
  | "str", .str _ => some true
  | "str", .int _ => some false
  | "str", .bl _ => some false
  | "str", .non => some false
  | "str", .tup _ => some false
  | "str", .lst _ => some false
  | "tuple", .tup _ => some true
  | "tuple", .int _ => some false
  | "tuple", .bl _ => some false
  | "tuple", .non => some false
  | "tuple", .str _ => some false
  | "tuple", .lst _ => some false
  | "list", .lst _ => some true
  | "list", .int _ => some false
  | "list", .bl _ => some false
  | "list", .non => some false
  | "list", .str _ => some false
  | "list", .tup _ => some false
  | _, _ => none
theorem isTy_kit {n : String} {x : D} {b : Bool} (h : isTy n x = some b) : ∃ m, tyD x = some m ∧ kitB m n = some b := by
  unfold isTy at h
  split at h <;> first | cases h | skip
  all_goals exact ⟨_, rfl, by decide +kernel⟩
def gIsi : List D → Option S
  | [x, .ty n] => (isTy n x).bind fun b => ok1 (.bl b)
  | _ => none
theorem cd_isi {c : Cfg} : CbDen c (rIsi c.K) gIsi := by
  intro B ts vs ρ σ H Q ds us s hl r e q
  match ds, hl, r, e with
  | [x, .ty n], hl, r, e =>
    obtain ⟨v, w, rfl, G, O, h1, h2⟩ := r.two' hl
    have e : (isTy n x).bind (fun b => ok1 (.bl b)) = some s := e
    cases e1 : isTy n x with
    | none => rw [e1] at e; cases e
    | some b =>
      rw [e1] at e
      cases e
      cases h2
      obtain ⟨m, t1, t2⟩ := isTy_kit e1
      exact ⟨v, .ty n, .type m, .type n, b, rfl, .ty n, h1.tyX O.sub t1, kit_ty t2, q _ _ (O.val (.bl _))⟩
/-- isinstance of an own class -/
structure ClsOk (c : Cfg) (n : String) : Prop where
  cl : Cls c.K (c.cls n)
  at_ : PySem.W.findIn c.K (.ref (c.cls n)) "__class__" = some (some (.builtin "object.__class__"))
  get : PySem.W.specialIn c.K (.builtin "object.__class__") "__get__" = some (some (.builtin "getset_descriptor.__get__"))
  tk : PySem.W.takesIn c.K (.builtin "object.__class__") = some true
  mr : PySem.W.mroIn c.K (c.cls n) (.type "object") = some true
  self : PySem.W.kitOne c.K (.ref (c.cls n)) (.ref (c.cls n)) = some true
def tIsC (K : PySem.W.Frag) (C : Addr) (te : TE) : TE := tCB (rIsi K) (tCons te (tCons (tC (.ref C)) tNil))
def mIsC (n : String) (fe : M S) : M S := mUn (fun x => match x with
  | .ins m _ => if m = n then ok1 (.bl true) else none
  | _ => none) fe
theorem den_isC {c : Cfg} {W : WX} {n : String} {te : TE} {fe : M S} (K : ClsOk c n) (h : Den c W te fe) : Den c W (tIsC c.K (c.cls n) te) (mIsC n fe) := fun B ts vs ρ σ H Q r q => by
  unfold mIsC mUn at q
  rw [post_then] at q
  refine h.dv r (q.imp1 fun x ρ1 q v H1 r1 => ?_)
  cases x <;> first | exact q.elim | skip
  rename_i m ds
  have q2 : Post (OkP c B ts vs σ Q) (ErrP c W B ts vs σ) (match (if m = n then ok1 (.bl true) else none) with
    | some s => .ok s ρ1
    | none => .stuck) := q
  clear q
  by_cases hm : m = n
  · subst hm
    rw [if_pos rfl] at q2
    obtain ⟨G, O, hv⟩ := r1.one
    obtain ⟨a, dx, fs, rfl, ha, _, _⟩ := hv.insE
    exact ⟨.ref a, .ref _, .ref _, .ref _, true, rfl, .own _, .base (.ins (O.sub _ _ ha) K.cl K.at_ K.get K.tk K.mr), K.self, q2 _ _ (O.val (.bl _))⟩
  · rw [if_neg hm] at q2
    exact q2.elim
/-! ### cells of names: what is read of them, how they are changed -/
/-- what stands at a name, wherever -/
def peek (ρ : En) (i : Nat) : Option D := match ρ[i]? with
  | some (some (.d x)) => some x
  | some (some (.o _ x)) => some x
  | _ => none
section
variable {c : Cfg} {W : WX} {B : Base} {ts : En} {vs : List (Option V)} {ρ : En} {σ : L2.St} {H : Hp} {te : TE} {fe : M S} {i : Nat}
theorem Rep.peekL {ds : List D} (e : peek ρ i = some (.lst ds)) (r : Rep c B ts vs ρ σ H) : ∃ a us G o1 o2, σ[i]? = some (some (.ref a)) ∧ H a = some (.lst us) ∧ RpAll c G us ds ∧ OkB c B G H (o1 ++ o2) ∧ Sl c B G H ts vs o1 ∧ Sl c B G H ρ σ o2 := by
  unfold peek at e
  obtain ⟨G, o1, o2, k, h1, h2⟩ := r
  split at e
  · rename_i x e1
    cases e
    obtain ⟨v, ev, hv⟩ := h2.getD e1
    obtain ⟨a, us, rfl, ha, ka⟩ := hv.lstE
    exact ⟨a, us, G, o1, o2, ev, k.sub _ _ ha, ka, k, h1, h2⟩
  · rename_i b x e1
    cases e
    obtain ⟨a, ev, ⟨us, ha, ka⟩, _, _⟩ := h2.getO e1
    exact ⟨a, us, G, o1, o2, ev, ha, ka, k, h1, h2⟩
  · cases e
/-- x[e], x a name that holds a list -/
def peekL (ρ : En) (i : Nat) : Bool := match peek ρ i with
  | some (.lst _) => true
  | _ => false
def mIxO (i : Nat) (fe : M S) : M S := fun ρ => if peekL ρ i then (dv fe ρ).then fun y ρ1 => match peek ρ1 i, y with
    | some (.lst ds), .int k => match atI ds k with
      | some x => .ok (.d x) ρ1
      | none => .stuck
    | _, _ => .stuck
  else .stuck
theorem den_ixO (h : Den c W te fe) : Den c W (tOp (rIx c.K) (tVar i) te) (mIxO i fe) := fun B ts vs ρ σ H Q r q => by
  unfold mIxO at q
  split at q
  · rename_i hp
    unfold peekL at hp
    split at hp
    · rename_i ds0 e0
      obtain ⟨a0, us0, _, _, _, ev, _⟩ := r.peekL e0
      rw [post_then] at q
      refine ⟨.ref a0, ev, h.dv r (q.imp1 fun y ρ1 q1 v H1 r1 => ?_)⟩
      split at q1
      · rename_i ds k e1
        obtain ⟨G, O, hv⟩ := r1.one
        cases hv
        obtain ⟨a, us, G, o1, o2, ev1, ha, ka, kk, h1, h2⟩ := r1.peekL e1
        rw [ev] at ev1
        cases ev1
        split at q1
        · rename_i x ex
          obtain ⟨w, ew, hw⟩ := ka.atI ex
          refine .inl ⟨a0, us, k, w, rfl, rfl, SqL.of ha, ew, q1 _ _ ?_⟩
          cases h1 with
          | d _ h1 => exact ⟨G, o1, o2, kk, .d hw h1, h2⟩
        · exact q1.elim
      · exact q1.elim
    · cases hp
  · exact q.elim
theorem Rep.unit {c : Cfg} (r : Rep c B ts vs ρ σ H) : Rep c B (some (.d .non) :: ts) (some .non :: vs) ρ σ H := Rep.repl (ds := []) (us := []) r rfl fun G _ => .non
/-- a name that holds a list -/
def ownL (ρ : En) (i : Nat) : Bool := match ρ[i]? with
  | some (some (.o _ (.lst _))) => true
  | _ => false
theorem ownL_at (h : ownL ρ i = true) (r : Rep c B ts vs ρ σ H) : ∃ a us, σ[i]? = some (some (.ref a)) ∧ H a = some (.lst us) := by
  unfold ownL at h
  split at h
  · rename_i b ds e
    obtain ⟨a, ev, G, sub, us, ha, k⟩ := r.varO e
    exact ⟨a, us, ev, ha⟩
  · cases h
def mMeth1 (i : Nat) (g : List D → D → Option (D × List D)) (fe : M S) : M S := fun ρ => if ownL ρ i then (dv fe ρ).then fun y ρ1 => match ρ1[i]? with
    | some (some (.o b (.lst ds))) => match g ds y with
      | some (z, es) => .ok (.d z) (ρ1.set i (some (.o b (.lst es))))
      | none => .stuck
    | _ => .stuck
  else .stuck
/-- how a method changes a list -/
def MthDen (c : Cfg) (r : V → List V → Hp → VK → Prop) (g : List D → D → Option (D × List D)) : Prop := ∀ (G H : Hp) (Q : VK) (a : Addr) (us : List V) (ds : List D) (y z : D) (v : V) (es : List D), (∀ b o, G b = some o → H b = some o) → H a = some (.lst us) → RpAll c G us ds → Rp c G v y → g ds y = some (z, es) →
  (∀ w us', Rp c G w z → RpAll c G us' es → Q w (upd H a (.lst us'))) → r (.ref a) [v] H Q
theorem den_meth1 {r : V → List V → Hp → VK → Prop} {g : List D → D → Option (D × List D)} (hm : MthDen c r g) (h : Den c W te fe) : Den c W (tBM c.K "list" r (tVar i) (tCons te tNil)) (mMeth1 i g fe) := fun B ts vs ρ σ H Q rp q => by
  unfold mMeth1 at q
  split at q
  · rename_i ho
    obtain ⟨a, us, ev, ha⟩ := ownL_at ho rp
    rw [post_then] at q
    refine ⟨.ref a, ev, .inl ⟨rfl, us, SqL.of ha⟩, h.dv rp (q.imp1 fun y ρ1 q1 v H1 r1 => ?_)⟩
    split at q1
    · rename_i b ds e1
      split at q1
      · rename_i z es eg
        obtain ⟨G, o1, o2, k, h1, h2⟩ := id r1
        obtain ⟨a', ev', ⟨us', ha', ka⟩, hmem, hb⟩ := h2.getO e1
        rw [ev] at ev'
        cases ev'
        cases h1 with
        | d hv h1 =>
          refine hm G H1 Q a us' ds y z v es k.sub ha' ka hv eg fun w us2 hw hk => q1 w _ ?_
          have nd := k.nd
          rw [List.nodup_append] at nd
          exact ⟨G, o1, o2, k.write (List.mem_append_right _ hmem) ha' (.lst _), .d hw (h1.mono (fun _ _ e => e) fun q hq => upd_ne fun z => nd.2.2 q hq a hmem z), h2.write nd.2.1 e1 ev (fun q hq => upd_ne hq) ⟨us2, upd_same, hk⟩⟩
      · exact q1.elim
    · exact q1.elim
  · exact q.elim
def mMeth0 (i : Nat) (g : List D → Option (D × List D)) : M S := fun ρ => match ρ[i]? with
  | some (some (.o b (.lst ds))) => match g ds with
    | some (z, es) => .ok (.d z) (ρ.set i (some (.o b (.lst es))))
    | none => .stuck
  | _ => .stuck
def Mth0Den (c : Cfg) (r : V → List V → Hp → VK → Prop) (g : List D → Option (D × List D)) : Prop := ∀ (G H : Hp) (Q : VK) (a : Addr) (us : List V) (ds : List D) (z : D) (es : List D), H a = some (.lst us) → RpAll c G us ds → g ds = some (z, es) →
  (∀ w us', Rp c G w z → RpAll c G us' es → Q w (upd H a (.lst us'))) → r (.ref a) [] H Q
theorem den_meth0 {r : V → List V → Hp → VK → Prop} {g : List D → Option (D × List D)} (hm : Mth0Den c r g) : Den c W (tBM0 c.K "list" r (tVar i)) (mMeth0 i g) := fun B ts vs ρ σ H Q rp q => by
  unfold mMeth0 at q
  split at q
  · rename_i b ds e1
    split at q
    · rename_i z es eg
      obtain ⟨G, o1, o2, k, h1, h2⟩ := id rp
      obtain ⟨a, ev, ⟨us, ha, ka⟩, hmem, hb⟩ := h2.getO e1
      refine ⟨.ref a, ev, .inl ⟨rfl, us, SqL.of ha⟩, hm G H Q a us ds z es ha ka eg fun w us2 hw hk => q w _ ?_⟩
      have nd := k.nd
      rw [List.nodup_append] at nd
      exact ⟨G, o1, o2, k.write (List.mem_append_right _ hmem) ha (.lst _), .d hw (h1.mono (fun _ _ e => e) fun q hq => upd_ne fun z => nd.2.2 q hq a hmem z), h2.write nd.2.1 e1 ev (fun q hq => upd_ne hq) ⟨us2, upd_same, hk⟩⟩
    · exact q.elim
  · exact q.elim
def gApp (ds : List D) (y : D) : Option (D × List D) := if small (ds.length + 1) then some (.non, ds ++ [y]) else none
theorem md_app : MthDen c rAppend gApp := by
  intro G H Q a us ds y z v es sub ha ka hv e q
  unfold gApp at e
  split at e
  · rename_i hz
    cases e
    refine ⟨a, us, v, rfl, rfl, ha, ?_, q _ _ .non (ka.snoc hv)⟩
    have := small_line hz
    rw [ka.length]
    omega
  · cases e
def gExt (ds : List D) (y : D) : Option (D × List D) := match y with
  | .lst es => if small (ds.length + es.length) then some (.non, ds ++ es) else none
  | _ => none
theorem md_ext : MthDen c rExtend gExt := by
  intro G H Q a us ds y z v es sub ha ka hv e q
  cases y <;> first | cases e | skip
  rename_i ys
  have e : (if small (ds.length + ys.length) then some (D.non, ds ++ ys) else none) = some (z, es) := e
  split at e
  · rename_i hz
    cases e
    obtain ⟨b, ws, rfl, hb, kb⟩ := hv.lstE
    exact ⟨a, b, us, ws, rfl, rfl, ha, sub _ _ hb, by rw [ka.length, kb.length]; exact small_line hz, q _ _ .non (ka.app kb)⟩
  · cases e
def gPop (ds : List D) : Option (D × List D) := match ds[ds.length - 1]? with
  | some y => some (y, ds.dropLast)
  | none => none
theorem RpAll.dropLast {G : Hp} {us : List V} {ds : List D} (k : RpAll c G us ds) : RpAll c G us.dropLast ds.dropLast := by
  rw [List.dropLast_eq_take, List.dropLast_eq_take, k.length]
  exact k.take _
theorem md_pop : Mth0Den c rPop gPop := by
  intro G H Q a us ds z es ha ka e q
  unfold gPop at e
  split at e
  · rename_i y ey
    cases e
    obtain ⟨w, ew, hw⟩ := ka.get ey
    exact ⟨a, us, w, rfl, rfl, ha, by rw [ka.length]; exact ew, q _ _ hw ka.dropLast⟩
  · cases e
def gPopAt (ds : List D) (y : D) : Option (D × List D) := match y with
  | .int i => if 0 ≤ i ∧ i < ds.length then match ds[i.toNat]? with
      | some x => if small ds.length then some (x, ds.eraseIdx i.toNat) else none
      | none => none
    else none
  | _ => none
theorem RpAll.eraseIdx {G : Hp} : ∀ {us : List V} {ds : List D} (i : Nat), RpAll c G us ds → RpAll c G (us.eraseIdx i) (ds.eraseIdx i)
  | _, _, _, .nil => .nil
  | _, _, 0, .cons _ k => k
  | _, _, i + 1, .cons h k => .cons h (RpAll.eraseIdx i k)
theorem md_popAt : MthDen c rPopAt gPopAt := by
  intro G H Q a us ds y z v es sub ha ka hv e q
  cases y <;> first | cases e | skip
  rename_i i
  have e : (if 0 ≤ i ∧ i < ds.length then match ds[i.toNat]? with
      | some x => if small ds.length then some (x, ds.eraseIdx i.toNat) else none
      | none => none
    else none) = some (z, es) := e
  split at e
  · rename_i hi
    split at e
    · rename_i x ex
      split at e
      · rename_i hz
        cases e
        cases hv
        obtain ⟨w, ew, hw⟩ := ka.get ex
        have hz := of_decide_eq_true hz
        refine ⟨a, us, i, i.toNat, w, rfl, rfl, ha, by omega, by omega, ?_, ew, q _ _ hw (ka.eraseIdx _)⟩
        rw [ka.length]
        unfold seqIndex?
        first
          | (rw [if_neg (by omega)]; simp; omega)
          | (simp; omega)
      · cases e
    · cases e
  · cases e
/-- x[e] = v, x a name -/
def gmItem (i : Nat) (fe : M S) : D → M Unit := fun x ρ => if ownL ρ i then (dv fe ρ).then fun y ρ1 => match ρ1[i]?, y with
    | some (some (.o b (.lst ds))), .int k => match ixN ds.length k with
      | some j => .ok () (ρ1.set i (some (.o b (.lst (ds.set j x)))))
      | none => .stuck
    | _, _ => .stuck
  else .stuck
theorem dg_item (h : Den c W te fe) : DenG c W (gSub (tVar i) te rSetL) (gmItem i fe) [] := fun B ts vs ρ σ H x v Q r q => by
  unfold gmItem at q
  split at q
  · rename_i ho
    obtain ⟨a, us, ev, ha⟩ := ownL_at ho r
    rw [post_then] at q
    refine ⟨.ref a, ev, h.dv r (q.imp (fun y ρ1 q1 w H1 r1 => ?_) fun _ _ h => h.drop.toP)⟩
    split at q1
    · rename_i b ds k e1
      split at q1
      · rename_i j ej
        obtain ⟨G, o1, o2, kk, h1, h2⟩ := id r1
        obtain ⟨a', ev', ⟨us', ha', ka⟩, hmem, hb⟩ := h2.getO e1
        rw [ev] at ev'
        cases ev'
        cases h1 with
        | d hw h1 =>
          cases hw
          cases h1 with
          | d hv h1 =>
            refine ⟨a, us', k, j, rfl, rfl, ha', by rw [ka.length]; exact ej, q1 σ _ ⟨rfl, fun _ _ => rfl⟩ ?_⟩
            have nd := kk.nd
            rw [List.nodup_append] at nd
            exact ⟨G, o1, o2, kk.write (List.mem_append_right _ hmem) ha' (.lst _), h1.mono (fun _ _ e => e) fun q hq => upd_ne fun z => nd.2.2 q hq a hmem z, h2.write nd.2.1 e1 ev (fun q hq => upd_ne hq) ⟨_, upd_same, ka.set j hv⟩⟩
      · exact q1.elim
    · exact q1.elim
  · exact q.elim
end
end Fx
/-! syntax and what it makes of a state -/
namespace Fx
open PySem PySem.Spec PyProof.Rows L2
open C8 (Cal Mak pe_c pe_mk)
structure QE (X : Cx) (c : Cfg) (W : WX) (e : Expr) (t : TE) (f : M S) : Prop where
  pe : PE X e t
  dn : Den c W t f
structure QT (X : Cx) (c : Cfg) (W : WX) (e : Expr) (t : TT) (f : M Bool) : Prop where
  pe : PT X e t
  dn : DenT c W t f
structure QW (X : Cx) (c : Cfg) (W : WX) (e : Expr) (t : TT) (f : M Bool) : Prop where
  pe : PW X e t
  dn : DenT c W t f
structure QA (X : Cx) (c : Cfg) (W : WX) (es : List Expr) (t : TA) (f : M (List D)) : Prop where
  pe : PA X es t
  dn : DenA c W t f
structure QC (X : Cx) (c : Cfg) (W : WX) (es : List Expr) (i j : Nat) (t : TA) (f : M (List D)) : Prop where
  pe : PA X es t
  dn : DenC c W t i j f
structure QI (X : Cx) (c : Cfg) (W : WX) (tg e : Expr) (t : TI) (f : M (List D)) : Prop where
  pe : PI X tg e t
  dn : DenI c W t f
structure QG (X : Cx) (c : Cfg) (W : WX) (e : Expr) (t : TG) (F : D → M Unit) (js : List Nat) : Prop where
  pe : PG X e t
  dn : DenG c W t F js
structure QGs (X : Cx) (c : Cfg) (W : WX) (es : List Expr) (t : TGs) (F : List D → M Unit) (js : List Nat) : Prop where
  pe : PGs X es t
  dn : DenGs c W t F js
structure QO (X : Cx) (c : Cfg) (W : WX) (e : Option Expr) (t : TO) (f : M (Option Int)) : Prop where
  pe : PO X e t
  dn : DenO c W t f
structure QS (X : Cx) (c : Cfg) (W : WX) (s : Stmt) (t : TS) (F : M Fl) : Prop where
  pe : PS X s t
  dn : DenS c W t F
structure QSs (X : Cx) (c : Cfg) (W : WX) (s : List Stmt) (t : TS) (F : M Fl) : Prop where
  pe : PSs X s t
  dn : DenS c W t F
section
variable {X : Cx} {c : Cfg} {W : WX} {a b e d : Expr} {es : List Expr} {fa fb fe fd : M S} {fA : M (List D)} {ft fu : M Bool} {pos p p2 : Pos} {k : Nat} {ta tb te td : TE} {tA : TA} {tt tu : TT}
/-! ### expressions -/
theorem qv (i : Nat) {x : Str} (hN : X.N[i]? = some x := by rfl) (hv : Vis X.env.scope x := by first | exact Or.inl rfl | exact Or.inr (Or.inl rfl) | exact Or.inr (Or.inr rfl)) (hd : (x == ("__debug__" : Str)) = false := by decide)
    (hcd : (x == ("__classdict__" : Str)) = false := by decide) : QE X c W (.Name x pos) (tVar i) (mVar i) := ⟨pe_var hN hv hd hcd, den_var⟩
theorem qint {i j} : QE X c W (.Constant (.int i) j pos) (tC (.int i)) (mC (.int i)) := ⟨pe_int, den_c fun _ => .int _⟩
theorem qbl {i j} : QE X c W (.Constant (.bool i) j pos) (tC (.bl i)) (mC (.bl i)) := ⟨pe_bl, den_c fun _ => .bl _⟩
theorem qnon {j} : QE X c W (.Constant .none j pos) (tC .non) (mC .non) := ⟨pe_non, den_c fun _ => .non⟩
theorem qty {x : Str} {n : String} (hm : X.mg x = none) (hg : Gl X x := by rfl) (hv : bootBuiltins x = some (.type n) := by decide +kernel) (hn : x ≠ "__name__" := by decide) (hd : (x == ("__debug__" : Str)) = false := by decide) : QE X c W (.Name x pos) (tC (.ty n)) (mC (.ty n)) := ⟨pe_bltn (v := .ty n) hg hm hv rfl hn hd, den_c fun _ => .ty _⟩
theorem qk {x : Str} {i : Int} (h : ∃ t, X.mg x = some (Value.int i t)) (hg : Gl X x := by rfl) (hd : (x == ("__debug__" : Str)) = false := by decide) : QE X c W (.Name x pos) (tC (.int i)) (mC (.int i)) := by
  obtain ⟨t, h⟩ := h
  exact ⟨pe_glob (v := .int i) hg h ⟨t, rfl⟩ hd, den_c fun _ => .int _⟩
theorem q_add (ha : QE X c W a ta fa) (hb : QE X c W b tb fb) (hK : X.K = c.K := by rfl) : QE X c W (.BinOp a .Add b pos) (tOp (rAddG c.K) ta tb) (mOp gAdd fa fb) := by
  obtain ⟨h1, h2⟩ := ha; obtain ⟨k1, k2⟩ := hb
  exact ⟨hK ▸ pe_op op_addG h1 k1, den_op od_add h2 k2⟩
theorem q_sub (ha : QE X c W a ta fa) (hb : QE X c W b tb fb) : QE X c W (.BinOp a .Sub b pos) (tOp (rI0 fun i j => .int (i - j)) ta tb) (mOp gMinus fa fb) := by
  obtain ⟨h1, h2⟩ := ha; obtain ⟨k1, k2⟩ := hb
  exact ⟨pe_op op_sub h1 k1, den_op od_sub h2 k2⟩
theorem q_mul (ha : QE X c W a ta fa) (hb : QE X c W b tb fb) : QE X c W (.BinOp a .Mult b pos) (tOp rMulG ta tb) (mOp gMul fa fb) := by
  obtain ⟨h1, h2⟩ := ha; obtain ⟨k1, k2⟩ := hb
  exact ⟨pe_op op_mulG h1 k1, den_op od_mul h2 k2⟩
theorem q_mod (ha : QE X c W a ta fa) (hb : QE X c W b tb fb) : QE X c W (.BinOp a .Mod b pos) (tOp (rI (fun _ j => 0 < j) fun i j => .int (i % j)) ta tb) (mOp gMod fa fb) := by
  obtain ⟨h1, h2⟩ := ha; obtain ⟨k1, k2⟩ := hb
  exact ⟨pe_op op_mod h1 k1, den_op od_mod h2 k2⟩
theorem q_fdiv (ha : QE X c W a ta fa) (hb : QE X c W b tb fb) : QE X c W (.BinOp a .FloorDiv b pos) (tOp (rI CDiv fun i j => .int (i / j)) ta tb) (mOp gDiv fa fb) := by
  obtain ⟨h1, h2⟩ := ha; obtain ⟨k1, k2⟩ := hb
  exact ⟨pe_op op_fdiv h1 k1, den_op od_div h2 k2⟩
theorem q_pow (ha : QE X c W a ta fa) (hb : QE X c W b tb fb) : QE X c W (.BinOp a .Pow b pos) (tOp (rI CPow fun i j => .int (i ^ j.toNat)) ta tb) (mOp gPow fa fb) := by
  obtain ⟨h1, h2⟩ := ha; obtain ⟨k1, k2⟩ := hb
  exact ⟨pe_op op_pow h1 k1, den_op od_pow h2 k2⟩
theorem q_neg (ha : QE X c W a ta fa) : QE X c W (.UnaryOp .USub a pos) (tUn (rU fun i => .int (-i)) ta) (mUn gNeg fa) := by
  obtain ⟨h1, h2⟩ := ha
  exact ⟨pe_un un_neg h1, den_un ud_neg h2⟩
/-- an operator of comparison -/
structure QR (X : Cx) (c : Cfg) (op : CmpOp) (r : R2) (g : D → D → Option S) : Prop where
  pe : OpR X (compareOp op) r
  dn : OpDen c r g
  mono : ∀ x y H (Q Q' : VK), (∀ v H', Q v H' → Q' v H') → r x y H Q → r x y H Q'
theorem r_lt : QR X c .Lt (rI0 fun i j => .bl (decide (i < j))) gLt := ⟨op_lt, od_BB, fun x y H Q Q' h ⟨i, j, e1, e2, q⟩ => ⟨i, j, e1, e2, h _ _ q⟩⟩
theorem r_le : QR X c .LtE (rI0 fun i j => .bl (decide (i ≤ j))) gLe := ⟨op_le, od_BB, fun x y H Q Q' h ⟨i, j, e1, e2, q⟩ => ⟨i, j, e1, e2, h _ _ q⟩⟩
theorem r_gt : QR X c .Gt (rI0 fun i j => .bl (decide (j < i))) gGt := ⟨op_gt, od_BB, fun x y H Q Q' h ⟨i, j, e1, e2, q⟩ => ⟨i, j, e1, e2, h _ _ q⟩⟩
theorem r_ge : QR X c .GtE (rI0 fun i j => .bl (decide (j ≤ i))) gGe := ⟨op_ge, od_BB, fun x y H Q Q' h ⟨i, j, e1, e2, q⟩ => ⟨i, j, e1, e2, h _ _ q⟩⟩
theorem un66 {A : Around} (hr : Room k A) : A.units + 66 < cLine := by
  have := hr.un
  omega
theorem r_eq (hr : Room k X.A) (hK : X.K = c.K := by rfl) : QR X c .Eq (rEqP c.K false) gEq := ⟨hK ▸ op_eqP (un66 hr), od_eq, fun x y H Q Q' h ⟨d, e, a1, a2, a3, a4, a5, q⟩ => ⟨d, e, a1, a2, a3, a4, a5, h _ _ q⟩⟩
theorem r_ne (hr : Room k X.A) (hK : X.K = c.K := by rfl) : QR X c .NotEq (rEqP c.K true) gNe := ⟨hK ▸ op_neP (un66 hr), od_ne, fun x y H Q Q' h ⟨d, e, a1, a2, a3, a4, a5, q⟩ => ⟨d, e, a1, a2, a3, a4, a5, h _ _ q⟩⟩
theorem r_in (hr : Room k X.A) (hK : X.K = c.K := by rfl) : QR X c .In (rInP c.K false) gIn := ⟨hK ▸ op_inP (un66 hr), od_in, fun x y H Q Q' h ⟨d, e, a1, a2, a3, a4, a5, q⟩ => ⟨d, e, a1, a2, a3, a4, a5, h _ _ q⟩⟩
theorem r_nin (hr : Room k X.A) (hK : X.K = c.K := by rfl) : QR X c .NotIn (rInP c.K true) gNotIn := ⟨hK ▸ op_ninP (un66 hr), od_in, fun x y H Q Q' h ⟨d, e, a1, a2, a3, a4, a5, q⟩ => ⟨d, e, a1, a2, a3, a4, a5, h _ _ q⟩⟩
theorem r_is : QR X c .Is (fun x y H Q => y = .non ∧ Q (.bl (decide (x = .non))) H) gIsN := ⟨op_isN, od_isN, fun x y H Q Q' h ⟨a1, q⟩ => ⟨a1, h _ _ q⟩⟩
theorem r_nis : QR X c .IsNot (fun x y H Q => y = .non ∧ Q (.bl (!decide (x = .non))) H) gNotN := ⟨op_notN, od_notN, fun x y H Q Q' h ⟨a1, q⟩ => ⟨a1, h _ _ q⟩⟩
theorem q_cmp {op : CmpOp} {g : D → D → Option S} {r : R2} (ho : QR X c op r g) (ha : QE X c W a ta fa) (hb : QE X c W b tb fb) (hm : behindInMarks op b = false := by first | exact nomark _ | with_unfolding_all rfl) : QE X c W (.Compare a [op] [b] pos) (tOp r ta tb) (mOp g fa fb) := by
  obtain ⟨h1, h2⟩ := ha; obtain ⟨k1, k2⟩ := hb; obtain ⟨r1, r2, _⟩ := ho
  exact ⟨pe_cmpR r1 h1 k1 hm, den_op r2 h2 k2⟩
theorem t_cmp {op : CmpOp} {g : D → D → Option S} {r : R2} (ho : QR X c op r g) (ha : QE X c W a ta fa) (hb : QE X c W b tb fb) (hm : behindInMarks op b = false := by first | exact nomark _ | with_unfolding_all rfl) : QT X c W (.Compare a [op] [b] pos) (tTest (tOp r ta tb)) (mTest (mOp g fa fb)) := by
  obtain ⟨h1, h2⟩ := ha; obtain ⟨k1, k2⟩ := hb; obtain ⟨r1, r2, _⟩ := ho
  exact ⟨pt_cmpR r1 h1 k1 hm, dt_test (den_op r2 h2 k2)⟩
theorem q_chain {op op' : CmpOp} {g g' : D → D → Option S} {r r' : R2} (ho : QR X c op r g) (ho' : QR X c op' r' g') (ha : QE X c W a ta fa) (hb : QE X c W b tb fb) (he : QE X c W e te fe) (hm : lastMarks [op, op'] [b, e] = false := by with_unfolding_all rfl) : QE X c W (.Compare a [op, op'] [b, e] pos) (tChain r r' ta tb te) (mChain g g' fa fb fe) := by
  obtain ⟨h1, h2⟩ := ha; obtain ⟨k1, k2⟩ := hb; obtain ⟨l1, l2⟩ := he; obtain ⟨r1, r2, m⟩ := ho; obtain ⟨s1, s2, _⟩ := ho'
  exact ⟨pe_chain r1 s1 h1 k1 l1 hm, den_chain r2 s2 m h2 k2 l2⟩
theorem t_val (he : QE X c W e te fe) (h : ∀ whole, isTrue e X.env whole = (do let v ← whole; standAt e.pos; holding [v] (truthy v)) := by intro _; rfl) : QT X c W e (tB te) (mTest fe) := by
  obtain ⟨h1, h2⟩ := he
  exact ⟨pt_val h1 h, dt_B h2⟩
theorem t_tru (he : QE X c W e te fe) (h : ∀ whole, isTrue e X.env whole = (do let v ← whole; standAt e.pos; holding [v] (truthy v)) := by intro _; rfl) (hK : X.K = c.K := by rfl) : QT X c W e (tTru c.K te) (mTruth fe) := by
  obtain ⟨h1, h2⟩ := he
  have h3 : PT X e (tTru X.K te) := pt_truth h1 h
  exact ⟨hK ▸ h3, dt_truth h2⟩
theorem t_truO (i : Nat) {x : Str} (hN : X.N[i]? = some x := by rfl) (hv : Vis X.env.scope x := by first | exact Or.inl rfl | exact Or.inr (Or.inl rfl) | exact Or.inr (Or.inr rfl)) (hd : (x == ("__debug__" : Str)) = false := by decide)
    (hcd : (x == ("__classdict__" : Str)) = false := by decide) (h : ∀ whole, isTrue (.Name x pos) X.env whole = (do let v ← whole; standAt (Expr.Name x pos).pos; holding [v] (truthy v)) := by intro _; rfl) (hK : X.K = c.K := by rfl) : QT X c W (.Name x pos) (tTru c.K (tVar i)) (mTruthO i) := by
  have h3 : PT X (.Name x pos) (tTru X.K (tVar i)) := pt_truth (pe_var hN hv hd hcd) h
  exact ⟨hK ▸ h3, dt_truthO⟩
theorem t_not (h : QT X c W a tt ft) : QT X c W (.UnaryOp .Not a pos) (tNot tt) (mNot ft) := by
  obtain ⟨h1, h2⟩ := h
  exact ⟨pt_not h1, dt_not h2⟩
theorem w_and1 (h : QT X c W a tt ft) : QW X c W (.BoolOp .And [a] pos) tt ft := by
  obtain ⟨h1, h2⟩ := h
  exact ⟨pw_and1 h1, h2⟩
theorem w_or1 (h : QT X c W a tt ft) : QW X c W (.BoolOp .Or [a] pos) tt ft := by
  obtain ⟨h1, h2⟩ := h
  exact ⟨pw_or1 h1, h2⟩
theorem w_and (h : QT X c W a tt ft) (k : QW X c W (.BoolOp .And (b :: es) pos) tu fu) : QW X c W (.BoolOp .And (a :: b :: es) pos) (tAnd tt tu) (mAnd ft fu) := by
  obtain ⟨h1, h2⟩ := h; obtain ⟨k1, k2⟩ := k
  exact ⟨pw_and h1 k1, dt_and h2 k2⟩
theorem w_or (h : QT X c W a tt ft) (k : QW X c W (.BoolOp .Or (b :: es) pos) tu fu) : QW X c W (.BoolOp .Or (a :: b :: es) pos) (tOr tt tu) (mOr ft fu) := by
  obtain ⟨h1, h2⟩ := h; obtain ⟨k1, k2⟩ := k
  exact ⟨pw_or h1 k1, dt_or h2 k2⟩
theorem QW.t (h : QW X c W a tt ft) : QT X c W a tt ft := by
  obtain ⟨h1, h2⟩ := h
  exact ⟨h1.pt, h2⟩
theorem q_one {op} (h : QE X c W a ta fa) : QE X c W (.BoolOp op [a] pos) ta fa := by
  obtain ⟨h1, h2⟩ := h
  exact ⟨pe_one h1, h2⟩
theorem q_and (h : QE X c W a ta fa) (k : QE X c W (.BoolOp .And (b :: es) pos) tb fb) : QE X c W (.BoolOp .And (a :: b :: es) pos) (tAndV ta tb) (mAndV fa fb) := by
  obtain ⟨h1, h2⟩ := h; obtain ⟨k1, k2⟩ := k
  exact ⟨pe_and h1 k1, den_andV h2 k2⟩
theorem q_not (h : QE X c W a ta fa) : QE X c W (.UnaryOp .Not a pos) (tNotV ta) (mNotV fa) := by
  obtain ⟨h1, h2⟩ := h
  exact ⟨pe_not h1, den_notV h2⟩
theorem q_if (h : QT X c W d tt ft) (ha : QE X c W a ta fa) (hb : QE X c W b tb fb) : QE X c W (.IfExp d a b pos) (tIf tt ta tb) (mIf ft fa fb) := by
  obtain ⟨h1, h2⟩ := h; obtain ⟨k1, k2⟩ := ha; obtain ⟨l1, l2⟩ := hb
  exact ⟨pe_ifExp h1 k1 l1, den_if h2 k2 l2⟩
theorem a_nil : QA X c W [] tNil aNil := ⟨pa_nil, den_nil⟩
theorem a_cons (h : QE X c W e te fe) (k : QA X c W es tA fA) (hs : starEach (e :: es) X.env = (false, eval e X.env) :: starEach es X.env := by rfl) : QA X c W (e :: es) (tCons te tA) (aCons fe fA) := by
  obtain ⟨h1, h2⟩ := h; obtain ⟨k1, k2⟩ := k
  exact ⟨pa_cons h1 k1 hs, den_cons h2 k2⟩
theorem c_own (i : Nat) {x : Str} (k : QA X c W es tA fA) (hN : X.N[i]? = some x := by rfl) (hv : Vis X.env.scope x := by first | exact Or.inl rfl | exact Or.inr (Or.inl rfl) | exact Or.inr (Or.inr rfl)) (hd : (x == ("__debug__" : Str)) = false := by decide)
    (hcd : (x == ("__classdict__" : Str)) = false := by decide) (hs : starEach (.Name x pos :: es) X.env = (false, eval (.Name x pos) X.env) :: starEach es X.env := by rfl) : QC X c W (.Name x pos :: es) i 0 (tCons (tVar i) tA) (aOwn i fA) := by
  obtain ⟨k1, k2⟩ := k
  exact ⟨pa_cons (pe_var hN hv hd hcd) k1 hs, dc_own k2⟩
theorem c_cons {i j : Nat} (h : QE X c W e te fe) (k : QC X c W es i j tA fA) (hs : starEach (e :: es) X.env = (false, eval e X.env) :: starEach es X.env := by rfl) : QC X c W (e :: es) i (j + 1) (tCons te tA) (aCons fe fA) := by
  obtain ⟨h1, h2⟩ := h; obtain ⟨k1, k2⟩ := k
  exact ⟨pa_cons h1 k1 hs, dc_cons h2 k2⟩
theorem q_tup {x1} (h : QA X c W es tA fA) : QE X c W (.Tuple es x1 pos) (tTupN tA) (mTup fA) := by
  obtain ⟨h1, h2⟩ := h
  exact ⟨pe_tupN h1, den_tup h2⟩
theorem q_lst (h : QA X c W es tA fA) : QE X c W (.List es pos) (tLst tA) (mLst fA) := by
  obtain ⟨h1, h2⟩ := h
  exact ⟨pe_lst h1, den_lst h2⟩
theorem q_ix (ha : QE X c W a ta fa) (hb : QE X c W b tb fb) (hs : PlainIx b := by exact fun _ _ => rfl) (hK : X.K = c.K := by rfl) : QE X c W (.Subscript a b pos) (tOp (rIx c.K) ta tb) (mOp gIx fa fb) := by
  obtain ⟨h1, h2⟩ := ha; obtain ⟨k1, k2⟩ := hb
  exact ⟨hK ▸ pe_ix ix_seq h1 k1 hs, den_op od_ix h2 k2⟩
theorem q_ixO (i : Nat) {x : Str} (hb : QE X c W b tb fb) (hN : X.N[i]? = some x := by rfl) (hv : Vis X.env.scope x := by first | exact Or.inl rfl | exact Or.inr (Or.inl rfl) | exact Or.inr (Or.inr rfl)) (hd : (x == ("__debug__" : Str)) = false := by decide)
    (hcd : (x == ("__classdict__" : Str)) = false := by decide) (hs : PlainIx b := by exact fun _ _ => rfl) (hK : X.K = c.K := by rfl) : QE X c W (.Subscript (.Name x p) b pos) (tOp (rIx c.K) (tVar i) tb) (mIxO i fb) := by
  obtain ⟨k1, k2⟩ := hb
  exact ⟨hK ▸ pe_ix ix_seq (pe_var hN hv hd hcd) k1 hs, den_ixO k2⟩
theorem o_none : QO X c W none tNoPart oNone := ⟨po_none, do_none⟩
theorem o_some (h : QE X c W e te fe) : QO X c W (some e) (tPart te) (oSome fe) := by
  obtain ⟨h1, h2⟩ := h
  exact ⟨po_some h1, do_some h2⟩
theorem q_sl {lo hi : Option Expr} {fl fh : M (Option Int)} {tl th : TO} (h : QE X c W e te fe) (hl : QO X c W lo tl fl) (hh : QO X c W hi th fh) (hK : X.K = c.K := by rfl) : QE X c W (.Subscript e (.Slice lo hi none p2) pos) (tSl (rSlG c.K) te tl th) (mSl fe fl fh) := by
  obtain ⟨h1, h2⟩ := h; obtain ⟨k1, k2⟩ := hl; obtain ⟨l1, l2⟩ := hh
  exact ⟨hK ▸ pe_slice sl_G h1 k1 l1, den_sl h2 k2 l2⟩
/-- a property of a class -/
structure Prp (P : Program) (w : World) (c : Cfg) (mg : Str → Option Value) (base : Heap) (k : Nat) (n : String) (x f : Str) (i : Nat) : Prop where
  fld : FldOk c n f i
  ex : ∃ (p g : Addr) (fd : FuncData) (ps : List Str), PropOf c.K (c.cls n) x p g ∧ FnOk P w c.K mg base L2.CX0 k g fd ps (getSp (c.cls n) f) ∧ Binds c.K fd ps []
theorem q_pr {j : Nat} {n : String} {x f : Str} {i : Nat} (K : Prp X.prog X.w c X.mg X.base k n x f i) (hr : Room j X.A) (hk : k + 1 ≤ j) (h : QE X c W e te fe) (hab : attributeBase e x X.env (eval e X.env) = eval e X.env := by rfl) (hK : X.K = c.K := by rfl) : QE X c W (.Attribute e x pos) (tProp (c.cls n) (getSp (c.cls n) f) [] L2.E0 te) (mFldE n i fe) := by
  obtain ⟨h1, h2⟩ := h
  obtain ⟨p, g, fd, ps, hp, F, b⟩ := K.ex
  refine ⟨pe_prop (C := c.cls n) (f := x) (sp := getSp (c.cls n) f) (dvs := []) (E := L2.E0) h1 (hK ▸ K.fld.cl) (hK ▸ hp) (hK ▸ F) (hr.mono hk) (hK ▸ b) .nil L2.pass0 hab, den_prop K.fld h2⟩
/-! ### calls -/
theorem q_call {x : Str} {F : Fn} {j : Nat} (C : Cal X.prog X.w c.K X.mg X.base k x (spF c F) []) (hr : Room j X.A) (hk : k ≤ j) (ha : QA X c W (e :: es) tA fA) (hg : Gl X x := by rfl) (hK : X.K = c.K := by rfl)
    (hdb : (x == ("__debug__" : Str)) = false := by decide) (he : starEach (e :: es) X.env = (false, eval e X.env) :: starEach es X.env := by rfl) (hpl : (backTo pos (starEach es X.env)).any (·.1) = false := by rfl) : QE X c W (.Call (.Name x p) (e :: es) [] pos) (tCall (spF c F) [] C8.E0 tA) (mCall F fA) := by
  obtain ⟨h1, h2⟩ := ha
  exact ⟨pe_c (hK ▸ C) hr hk hg h1 hdb he hpl, den_call h2⟩
theorem q_callO {x : Str} {F : Fn} {j i l : Nat} (C : Cal X.prog X.w c.K X.mg X.base k x (spF c F) []) (hr : Room j X.A) (hk : k ≤ j) (ha : QC X c W (e :: es) i l tA fA) (hg : Gl X x := by rfl) (hK : X.K = c.K := by rfl)
    (hdb : (x == ("__debug__" : Str)) = false := by decide) (he : starEach (e :: es) X.env = (false, eval e X.env) :: starEach es X.env := by rfl) (hpl : (backTo pos (starEach es X.env)).any (·.1) = false := by rfl) : QE X c W (.Call (.Name x p) (e :: es) [] pos) (tCall (spF c F) [] C8.E0 tA) (mCallO F i l fA) := by
  obtain ⟨h1, h2⟩ := ha
  exact ⟨pe_c (hK ▸ C) hr hk hg h1 hdb he hpl, den_callO h2⟩
theorem q_make {x : Str} {F : Fn} {j nf : Nat} (n : String) (C : Mak X.prog X.w c.K X.mg X.base k x (c.cls n) (spF c F) []) (hnf : (c.flds n).length = nf) (hr : Room j X.A) (hk : k + 1 ≤ j) (ha : QA X c W (e :: es) tA fA) (hg : Gl X x := by rfl) (hK : X.K = c.K := by rfl)
    (hdb : (x == ("__debug__" : Str)) = false := by decide) (he : starEach (e :: es) X.env = (false, eval e X.env) :: starEach es X.env := by rfl) (hpl : (backTo pos (starEach es X.env)).any (·.1) = false := by rfl) : QE X c W (.Call (.Name x p) (e :: es) [] pos) (tMake (c.cls n) (spF c F) [] C8.E0 tA) (mMake n nf F fA) := by
  obtain ⟨h1, h2⟩ := ha
  exact ⟨pe_mk (hK ▸ C) hr hk hg h1 hdb he hpl, den_make hnf h2⟩
/-- a built-in by its name -/
structure QB (X : Cx) (c : Cfg) (x : Str) (r : List V → Hp → VK → Prop) (g : List D → Option S) : Prop where
  ex : (∃ id, CallR X (.builtin id) r ∧ bootBuiltins x = some (.builtin id)) ∨ (∃ T, CallR X (.type T) r ∧ bootBuiltins x = some (.type T))
  dn : CbDen c r g
theorem q_blt {x : Str} {g : List D → Option S} {r : List V → Hp → VK → Prop} (B : QB X c x r g) (hm : X.mg x = none) (ha : QA X c W (e :: es) tA fA) (hg : Gl X x := by rfl) (hn : x ≠ "__name__" := by decide)
    (hdb : (x == ("__debug__" : Str)) = false := by decide) (he : starEach (e :: es) X.env = (false, eval e X.env) :: starEach es X.env := by rfl) (hpl : (backTo pos (starEach es X.env)).any (·.1) = false := by rfl) : QE X c W (.Call (.Name x p) (e :: es) [] pos) (tCB r tA) (mCB g fA) := by
  obtain ⟨h1, h2⟩ := ha
  rcases B.ex with ⟨id, r1, r2⟩ | ⟨T, r1, r2⟩
  · exact ⟨pe_callB r1 hg hm r2 h1 hn hdb he hpl, den_cb B.dn h2⟩
  · exact ⟨pe_callTy r1 hg hm r2 h1 hn hdb he hpl, den_cb B.dn h2⟩
theorem b_len (hK : X.K = c.K := by rfl) : QB X c "len" (rLenG c.K) gLen := ⟨.inl ⟨_, hK ▸ cr_lenG, PySem.boot_len⟩, cd_len⟩
theorem b_tuple (hK : X.K = c.K := by rfl) : QB X c "tuple" (rTupN c.K) gTuple := ⟨.inr ⟨_, hK ▸ call_tupN, by decide +kernel⟩, cd_tuple⟩
theorem b_list (hK : X.K = c.K := by rfl) : QB X c "list" (fun xs H Q => ∃ p ys, xs = [.ref p] ∧ (SqL c.K H p ys ∨ SqT c.K H p ys) ∧ ∀ l, H l = none → Q (.ref l) (upd H l (.lst ys))) gList := ⟨.inr ⟨_, hK ▸ call_list_of, by decide +kernel⟩, cd_list⟩
theorem b_all (hc : X.calm = true := by rfl) (hK : X.K = c.K := by rfl) : QB X c "all" (rAll c.K) gAll := ⟨.inl ⟨_, hK ▸ cr_all hc, by decide +kernel⟩, cd_all⟩
theorem b_isi (hK : X.K = c.K := by rfl) : QB X c "isinstance" (rIsi c.K) gIsi := ⟨.inl ⟨_, hK ▸ call_isi, by decide +kernel⟩, cd_isi⟩
end
end Fx
/-! statements and what they make of a state -/
namespace Fx
open PySem PySem.Spec PyProof.Rows L2
open C8 (Cal Mak pe_c pe_mk)
section
variable {X : Cx} {c : Cfg} {W : WX} {a b e d tg it : Expr} {es : List Expr} {fa fb fe fd : M S} {fA fI : M (List D)} {ft fu : M Bool} {pos p p2 apos cpos : Pos} {k : Nat} {st : Stmt} {ss rs : List Stmt} {F G : M Fl} {g : D → M Unit} {gs : List D → M Unit} {js js' : List Nat} {ta tb te td : TE} {tA : TA} {tt tu : TT} {tgt : TG} {tgs : TGs} {wi : TI} {t u : TS}
/-! ### targets -/
theorem g_name (i : Nat) {x : Str} (hN : X.N.Nodup) (hi : X.N[i]? = some x := by rfl) (hx : Loc X.env.scope x := by first | exact Or.inl rfl | exact Or.inr rfl) (hf : X.fn x = true ∨ X.env.scope.names.lookup x = some .local := by first | exact Or.inl rfl | exact Or.inr rfl) : QG X c W (.Name x pos) (gName i) (gmName i) [i] := ⟨pg_name hN hi hx hf, dg_name⟩
theorem gs_nil : QGs X c W [] gNil gmNil [] := ⟨pgs_nil, dgs_nil⟩
theorem gs_cons (h : QG X c W e tgt g js) (k : QGs X c W es tgs gs js') (hs : (assignEach (e :: es) X.env).map (·.2) = assign e X.env :: (assignEach es X.env).map (·.2) := by rfl) : QGs X c W (e :: es) (gCons tgt tgs) (gmCons g gs) (js ++ js') := by
  obtain ⟨h1, h2⟩ := h; obtain ⟨k1, k2⟩ := k
  exact ⟨pgs_cons h1 k1 hs, dgs_cons h2 k2⟩
theorem g_tup (n : Nat) {kk : Nat} (h : QGs X c W es tgs gs js) (hc : X.calm = true := by rfl) (hn : (assignEach es X.env).length = n := by rfl) (hst : (assignEach es X.env).findIdx? (·.1) = none := by rfl) (hK : X.K = c.K := by rfl) : QG X c W (.Tuple es kk pos) (gTup c.K n tgs) (gmTup n gs) js := by
  obtain ⟨h1, h2⟩ := h
  exact ⟨hK ▸ pg_tup hc h1 hn hst, dg_tup h2⟩
theorem g_item (i : Nat) {x : Str} (h : QE X c W e te fe) (hN : X.N[i]? = some x := by rfl) (hv : Vis X.env.scope x := by first | exact Or.inl rfl | exact Or.inr (Or.inl rfl) | exact Or.inr (Or.inr rfl)) (hd : (x == ("__debug__" : Str)) = false := by decide)
    (hcd : (x == ("__classdict__" : Str)) = false := by decide)
    (ha : ∀ v, assign (.Subscript (.Name x p) e pos) X.env v = (do
      let ov ← holding [v] (eval (.Name x p) X.env)
      let iv ← holding [v, ov] (eval e X.env)
      standAt pos
      holding [v, ov, iv] (setItem ov iv v)
      release [v, ov, iv] []) := by intro _; rfl) : QG X c W (.Subscript (.Name x p) e pos) (gSub (tVar i) te rSetL) (gmItem i fe) [] := by
  obtain ⟨h1, h2⟩ := h
  exact ⟨pg_sub (pe_var hN hv hd hcd) h1 set_list ha, dg_item h2⟩
/-! ### blocks -/
theorem ss_nil : QSs X c W [] tNext mNx := ⟨pss_nil, ds_nx⟩
theorem ss_cons (h : QS X c W st t F) (k : QSs X c W ss u G) : QSs X c W (st :: ss) (tSeq t u) (mSeq F G) := by
  obtain ⟨h1, h2⟩ := h; obtain ⟨k1, k2⟩ := k
  exact ⟨pss_cons h1 k1, ds_seq h2 k2⟩
theorem ss_one (h : QS X c W st t F) : QSs X c W [st] t F := by
  obtain ⟨h1, h2⟩ := h
  exact ⟨pss_one h1, h2⟩
theorem ss_never : QSs X c W ss tNever mSt := ⟨pss_never, ds_never⟩
theorem s_ret (h : QE X c W e te fe) : QS X c W (.Return (some e) pos) (tRet te) (mRet fe) := by
  obtain ⟨h1, h2⟩ := h
  exact ⟨ps_ret h1, ds_ret h2⟩
theorem ds_retO {i : Nat} : DenS c W (tRet (tVar i)) (mRetO i) := fun B ts vs ρ σ H D r q => by
  unfold mRetO at q
  split at q
  · rename_i x e
    obtain ⟨G, o1, o2, kk, h1, h2⟩ := id r
    obtain ⟨a, own', ev, hc, hb, h3, m1, m2, m3, m4⟩ := h2.takeO e
    have nd := kk.nd
    rw [List.nodup_append] at nd
    obtain ⟨n4, n5⟩ := m4 nd.2.1
    refine ⟨.ref a, ev, q _ σ H ⟨G, a :: o1, own', kk.subO (fun p hp => ?_) ?_, .o hc (fun _ e => nomatch e) h1, h3⟩⟩
    · rcases List.mem_append.mp hp with hp | hp
      · rcases List.mem_cons.mp hp with rfl | hp
        · exact List.mem_append_right _ m3
        · exact List.mem_append_left _ hp
      · exact List.mem_append_right _ (m2 p hp)
    · rw [List.cons_append, List.nodup_cons, List.nodup_append]
      refine ⟨fun hm => ?_, nd.1, n4, fun x hx y hy => nd.2.2 x hx y (m2 y hy)⟩
      rcases List.mem_append.mp hm with hm | hm
      · exact nd.2.2 a hm a m3 rfl
      · exact n5 hm
  · rename_i x e
    obtain ⟨v, e1, r1⟩ := r.var e
    exact ⟨v, e1, q v σ H r1⟩
  · exact q.elim
theorem s_retO (i : Nat) {x : Str} (hN : X.N[i]? = some x := by rfl) (hv : Vis X.env.scope x := by first | exact Or.inl rfl | exact Or.inr (Or.inl rfl) | exact Or.inr (Or.inr rfl)) (hd : (x == ("__debug__" : Str)) = false := by decide)
    (hcd : (x == ("__classdict__" : Str)) = false := by decide) : QS X c W (.Return (some (.Name x p)) pos) (tRet (tVar i)) (mRetO i) := ⟨ps_ret (pe_var hN hv hd hcd), ds_retO⟩
theorem s_if (h : QT X c W d tt ft) (k : QSs X c W ss t F) (l : QSs X c W rs u G) : QS X c W (.If d ss rs pos) (tIfS tt t u) (mIfS ft F G) := by
  obtain ⟨h1, h2⟩ := h; obtain ⟨k1, k2⟩ := k; obtain ⟨l1, l2⟩ := l
  exact ⟨ps_if h1 k1 l1, ds_if h2 k2 l2⟩
theorem s_expr (h : QE X c W e te fe) (hs : swapsWith e none pos.line X.env = pure false := by rfl) : QS X c W (.Expr e pos) (tDrop te) (mDrop fe) := by
  obtain ⟨h1, h2⟩ := h
  exact ⟨ps_expr h1 hs, ds_drop h2⟩
theorem s_set (i : Nat) {x : Str} (hN : X.N.Nodup) (h : QE X c W e te fe) (hi : X.N[i]? = some x := by rfl) (hx : Loc X.env.scope x := by first | exact Or.inl rfl | exact Or.inr rfl) (hs : swapsWith e (some (.Name x p)) pos.line X.env = pure false := by rfl) (hf : X.fn x = true ∨ X.env.scope.names.lookup x = some .local := by first | exact Or.inl rfl | exact Or.inr rfl) :
    QS X c W (.Assign [.Name x p] e pos) (tAsg te (gName i)) (mAsg fe (gmName i)) := by
  obtain ⟨h1, h2⟩ := h
  exact ⟨ps_set hN hi hx h1 hs hf, ds_asg h2 dg_name⟩
theorem s_setO (i : Nat) {x : Str} (hN : X.N.Nodup) (h : QE X c W e te fe) (hi : X.N[i]? = some x := by rfl) (hx : Loc X.env.scope x := by first | exact Or.inl rfl | exact Or.inr rfl) (hs : swapsWith e (some (.Name x p)) pos.line X.env = pure false := by rfl) (hf : X.fn x = true ∨ X.env.scope.names.lookup x = some .local := by first | exact Or.inl rfl | exact Or.inr rfl) :
    QS X c W (.Assign [.Name x p] e pos) (tAsg te (gName i)) (mAsgO i fe) := by
  obtain ⟨h1, h2⟩ := h
  exact ⟨ps_set hN hi hx h1 hs hf, ds_asgO h2⟩
theorem s_asg (h : QE X c W e te fe) (k : QG X c W tg tgt g js) (hs : swapsWithSole [tg] e pos.line X.env = pure false := by rfl) (hw : swappedStores [tg] e X.env = pure none := by rfl)
    (h1 : (assignEach [tg] X.env).map (·.2) = [assign tg X.env] := by rfl) : QS X c W (.Assign [tg] e pos) (tAsg te tgt) (mAsg fe g) := by
  obtain ⟨h2, h3⟩ := h; obtain ⟨k1, k2⟩ := k
  exact ⟨ps_asg h2 k1 hs hw h1, ds_asg h3 k2⟩
theorem s_fld {f x : Str} (n : String) (i j : Nat) (K : FldOk c n f i) (hl : (c.flds n).length ≤ 100) (h : QE X c W e te fe) (hN : X.N[j]? = some x := by rfl) (hv : Vis X.env.scope x := by first | exact Or.inl rfl | exact Or.inr (Or.inl rfl) | exact Or.inr (Or.inr rfl)) (hd : (x == ("__debug__" : Str)) = false := by decide)
    (hcd : (x == ("__classdict__" : Str)) = false := by decide) (hK : X.K = c.K := by rfl)
    (hs : swapsWith e (some (.Attribute (.Name x p) f apos)) pos.line X.env = pure false := by rfl) : QS X c W (.Assign [.Attribute (.Name x p) f apos] e pos) (sFld c.K (tVar j) te f) (mSetF n i j fe) := by
  obtain ⟨h1, h2⟩ := h
  exact ⟨hK ▸ ps_fld (pe_var hN hv hd hcd) h1 hs, ds_setF K hl h2⟩
/-! ### loops -/
theorem s_for (hp : PassesOwn (model X.prog X.w) X.A X.env X.xe) (h : QI X c W tg it wi fI) (k : QG X c W tg tgt g js) (l : QSs X c W ss t F) (hc : X.calm = true := by rfl) (hs : ∀ x, foldedSetIterable it X.env x = pure x := by intro _; rfl) : QS X c W (.For tg it ss [] pos) (tFor wi tgt t) (mFor fI g F) := by
  obtain ⟨h1, h2⟩ := h; obtain ⟨k1, k2⟩ := k; obtain ⟨l1, l2⟩ := l
  exact ⟨ps_for hp hc h1 k1 l1 hs, ds_for h2 k2 l2⟩
theorem s_while (n : Nat) (hp : PassesOwn (model X.prog X.w) X.A X.env X.xe) (h : QT X c W d tt ft) (l : QSs X c W ss t F) : QS X c W (.While d ss [] pos) (tWhile tt t) (mWhile ft F n) := by
  obtain ⟨h1, h2⟩ := h; obtain ⟨l1, l2⟩ := l
  exact ⟨ps_while hp h1 l1, ds_while h2 l2⟩
/-! ### what is walked -/
theorem i_seq (h : QE X c W e te fe) (hK : X.K = c.K := by rfl) : QI X c W tg e (iSeqT c.K te) (iSeq fe) := by
  obtain ⟨h1, h2⟩ := h
  have h3 : PI X tg e (iSeqT X.K te) := PI.or (pi_list h1) (pi_tup h1)
  exact ⟨hK ▸ h3, di_seq h2⟩
theorem i_range1 (hm : X.mg "range" = none) (h : QA X c W [a] tA fA) (hg : Gl X "range" := by rfl) (hs : starEach [a] X.env = [(false, eval a X.env)] := by rfl) : QI X c W tg (.Call (.Name "range" p) [a] [] pos) (iRng1 tA) (iRange1 fA) := by
  obtain ⟨h1, h2⟩ := h
  exact ⟨pi_range1 hg hm h1 hs, di_range1 h2⟩
theorem i_range2 (hm : X.mg "range" = none) (h : QA X c W [a, b] tA fA) (hg : Gl X "range" := by rfl) (hs : starEach [a, b] X.env = [(false, eval a X.env), (false, eval b X.env)] := by rfl) (hs2 : starEach [b] X.env = [(false, eval b X.env)] := by rfl) : QI X c W tg (.Call (.Name "range" p) [a, b] [] pos) (iRng2 tA) (iRange2 fA) := by
  obtain ⟨h1, h2⟩ := h
  exact ⟨pi_range2 hg hm h1 hs hs2, di_range2 h2⟩
end
section
variable {X : Cx} {c : Cfg} {W : WX} {a b : Expr} {fA : M (List D)} {tA : TA} {es : List Expr} {kk : Nat} {tpos pos p : Pos}
theorem i_enum (hm : X.mg "enumerate" = none) (h : QA X c W [a] tA fA) (hg : Gl X "enumerate" := by rfl) (hK : X.K = c.K := by rfl) (hs : starEach [a] X.env = [(false, eval a X.env)] := by rfl) : QI X c W (.Tuple es kk tpos) (.Call (.Name "enumerate" p) [a] [] pos) (iEnumG c.K tA) (iEnu fA) := by
  obtain ⟨h1, h2⟩ := h
  have h3 : PI X (.Tuple es kk tpos) (.Call (.Name "enumerate" p) [a] [] pos) (iEnumG X.K tA) := PI.or (pi_enum hg hm h1 hs) (Rw.pi_enumT hg hm h1 hs)
  exact ⟨hK ▸ h3, di_enu h2⟩
end
/-! ### comprehensions -/
/-- a test of a comprehension, none or one -/
structure QTs (X : Cx) (c : Cfg) (W : WX) (es : List Expr) (t : TT) (f : M Bool) : Prop where
  pe : PTs X es t
  dn : DenT c W t f
/-- the place of a comprehension's own names -/
abbrev Blk (X : Cx) (scope : Scope) (s : Shared) (H : Hp) (C : Addr) (cl : List (Str × Addr)) (fp : List Addr) : Cx := X.blk s H scope (compEnvC scope cl C X.env) fp
section
variable {X : Cx} {c : Cfg} {W : WX} {tg it elt tg1 it1 : Expr} {ifs ifs1 : List Expr} {fI fI1 : M (List D)} {g g1 : D → M Unit} {js js1 : List Nat} {ft ft1 : M Bool} {fe : M S} {scope : Scope} {own : List (Str × Nat)} {vs1 : List Nat} {pos spos py : Pos} {wi wi1 : TI} {tgt tgt1 : TG} {tt tt1 : TT} {te : TE}
theorem ts_nil : QTs X c W [] tYes mYes := ⟨pts_nil, dt_yes⟩
theorem ts_one {e : Expr} (h : QT X c W e tt ft) : QTs X c W [e] tt ft := by
  obtain ⟨h1, h2⟩ := h
  exact ⟨pts_one h1, h2⟩
theorem anyPlace (c : Cfg) (P : Shared → Hp → Addr → List (Str × Addr) → List Addr → Prop) (h : ∀ s H C cl fp, P s H C cl fp) : ∃ s H C cl fp, P s H C cl fp := ⟨({} : Shared), fun _ => none, 0, [], [], h _ _ _ _ _⟩
theorem q_lc (hN : X.N.Nodup) (hI : QI X c W tg it wi fI) (hB : BlkOk X.N X.env.scope scope own) (hG : ∀ s H C cl fp, QG (Blk X scope s H C cl fp) c W0 tg tgt g js) (hT : ∀ s H C cl fp, QTs (Blk X scope s H C cl fp) c W0 ifs tt ft)
    (hE : ∀ s H C cl fp, QE (Blk X scope s H C cl fp) c W0 elt te fe) (hj : ∀ j ∈ js, j ∈ own.map (·.2) := by decide) (hc : X.calm = true := by rfl) (hs : ∀ x, foldedSetIterable it X.env x = pure x := by intro _; rfl) :
    QE X c W (.ListComp elt [{ target := tg, iter := it, ifs := ifs, is_async := 0 }] scope pos) (tLc wi tgt tt te (own.map (·.2))) (mLc fI g ft fe (own.map (·.2))) := by
  obtain ⟨h1, h2⟩ := hI
  obtain ⟨s, H, C, cl, fp, g2, t2, e2⟩ := anyPlace c _ fun s H C cl fp => And.intro (hG s H C cl fp).dn (And.intro (hT s H C cl fp).dn (hE s H C cl fp).dn)
  exact ⟨pe_lc hc hN h1 hB (fun s H C cl fp => (hG s H C cl fp).pe) (fun s H C cl fp => (hT s H C cl fp).pe) (fun s H C cl fp => (hE s H C cl fp).pe) hs, den_lc h2 g2 t2 e2 hj⟩
theorem s_setLc (i : Nat) {y : Str} (hN : X.N.Nodup) (hI : QI X c W tg it wi fI) (hB : BlkOk X.N X.env.scope scope own) (hG : ∀ s H C cl fp, QG (Blk X scope s H C cl fp) c W0 tg tgt g js) (hT : ∀ s H C cl fp, QTs (Blk X scope s H C cl fp) c W0 ifs tt ft)
    (hE : ∀ s H C cl fp, QE (Blk X scope s H C cl fp) c W0 elt te fe) (hj : ∀ j ∈ js, j ∈ own.map (·.2) := by decide) (hc : X.calm = true := by rfl) (hi : X.N[i]? = some y := by rfl) (hy : X.env.scope.names.lookup y = some .local := by rfl)
    (hw : swapsWith (.ListComp elt [{ target := tg, iter := it, ifs := ifs, is_async := 0 }] scope pos) (some (.Name y py)) spos.line X.env = pure true := by rfl) (hs : ∀ x, foldedSetIterable it X.env x = pure x := by intro _; rfl) :
    QS X c W (.Assign [.Name y py] (.ListComp elt [{ target := tg, iter := it, ifs := ifs, is_async := 0 }] scope pos) spos) (tAsg (tLc wi tgt tt te (own.map (·.2))) (gName i)) (mAsg (mLc fI g ft fe (own.map (·.2))) (gmName i)) := by
  obtain ⟨h1, h2⟩ := hI
  obtain ⟨s, H, C, cl, fp, g2, t2, e2⟩ := anyPlace c _ fun s H C cl fp => And.intro (hG s H C cl fp).dn (And.intro (hT s H C cl fp).dn (hE s H C cl fp).dn)
  exact ⟨ps_setLc hc hN hi hy hw h1 hB (fun s H C cl fp => (hG s H C cl fp).pe) (fun s H C cl fp => (hT s H C cl fp).pe) (fun s H C cl fp => (hE s H C cl fp).pe) hs, ds_asg (den_lc h2 g2 t2 e2 hj) dg_name⟩
theorem s_setLcO (i : Nat) {y : Str} (hN : X.N.Nodup) (hI : QI X c W tg it wi fI) (hB : BlkOk X.N X.env.scope scope own) (hG : ∀ s H C cl fp, QG (Blk X scope s H C cl fp) c W0 tg tgt g js) (hT : ∀ s H C cl fp, QTs (Blk X scope s H C cl fp) c W0 ifs tt ft)
    (hE : ∀ s H C cl fp, QE (Blk X scope s H C cl fp) c W0 elt te fe) (hj : ∀ j ∈ js, j ∈ own.map (·.2) := by decide) (hc : X.calm = true := by rfl) (hi : X.N[i]? = some y := by rfl) (hy : X.env.scope.names.lookup y = some .local := by rfl)
    (hw : swapsWith (.ListComp elt [{ target := tg, iter := it, ifs := ifs, is_async := 0 }] scope pos) (some (.Name y py)) spos.line X.env = pure true := by rfl) (hs : ∀ x, foldedSetIterable it X.env x = pure x := by intro _; rfl) :
    QS X c W (.Assign [.Name y py] (.ListComp elt [{ target := tg, iter := it, ifs := ifs, is_async := 0 }] scope pos) spos) (tAsg (tLc wi tgt tt te (own.map (·.2))) (gName i)) (mAsgO i (mLc fI g ft fe (own.map (·.2)))) := by
  obtain ⟨h1, h2⟩ := hI
  obtain ⟨s, H, C, cl, fp, g2, t2, e2⟩ := anyPlace c _ fun s H C cl fp => And.intro (hG s H C cl fp).dn (And.intro (hT s H C cl fp).dn (hE s H C cl fp).dn)
  exact ⟨ps_setLc hc hN hi hy hw h1 hB (fun s H C cl fp => (hG s H C cl fp).pe) (fun s H C cl fp => (hT s H C cl fp).pe) (fun s H C cl fp => (hE s H C cl fp).pe) hs, ds_asgO (den_lc h2 g2 t2 e2 hj)⟩
theorem q_lc2 (hN : X.N.Nodup) (hI : QI X c W tg it wi fI) (hB : BlkOk X.N X.env.scope scope own) (hG : ∀ s H C cl fp, QG (Blk X scope s H C cl fp) c W0 tg tgt g js) (hT : ∀ s H C cl fp, QTs (Blk X scope s H C cl fp) c W0 ifs tt ft)
    (hI1 : ∀ s H C cl fp, QI (Blk X scope s H C cl fp) c W0 tg1 it1 wi1 fI1) (hG1 : ∀ s H C cl fp, QG (Blk X scope s H C cl fp) c W0 tg1 tgt1 g1 js1) (hT1 : ∀ s H C cl fp, QTs (Blk X scope s H C cl fp) c W0 ifs1 tt1 ft1)
    (hE : ∀ s H C cl fp, QE (Blk X scope s H C cl fp) c W0 elt te fe) (hj : ∀ j ∈ js, j ∈ own.map (·.2) := by decide) (hj1 : ∀ j ∈ js1, j ∈ vs1 := by decide) (hv : ∀ i, i ∈ vs1 → i ∈ own.map (·.2) := by decide) (hc : X.calm = true := by rfl) (hs : ∀ x, foldedSetIterable it X.env x = pure x := by intro _; rfl) (hs1 : ∀ env x, foldedSetIterable it1 env x = pure x := by intro _ _; rfl) :
    QE X c W (.ListComp elt [{ target := tg, iter := it, ifs := ifs, is_async := 0 }, { target := tg1, iter := it1, ifs := ifs1, is_async := 0 }] scope pos) (tLc2 wi tgt tt wi1 tgt1 tt1 te (own.map (·.2)) vs1) (mLc2 fI g ft fI1 g1 ft1 fe (own.map (·.2)) vs1) := by
  obtain ⟨h1, h2⟩ := hI
  obtain ⟨s, H, C, cl, fp, g2, t2, e2, i2, g3, t3⟩ := anyPlace c _ fun s H C cl fp => And.intro (hG s H C cl fp).dn (And.intro (hT s H C cl fp).dn (And.intro (hE s H C cl fp).dn (And.intro (hI1 s H C cl fp).dn (And.intro (hG1 s H C cl fp).dn (hT1 s H C cl fp).dn))))
  exact ⟨pe_lc2 hc hN h1 hB hv (fun s H C cl fp => (hG s H C cl fp).pe) (fun s H C cl fp => (hT s H C cl fp).pe) (fun s H C cl fp => (hI1 s H C cl fp).pe) (fun s H C cl fp => (hG1 s H C cl fp).pe) (fun s H C cl fp => (hT1 s H C cl fp).pe) (fun s H C cl fp => (hE s H C cl fp).pe) hs hs1, den_lc2 h2 g2 t2 i2 g3 t3 e2 hj hj1 hv⟩
end
end Fx
/-! lambdas: made, handed on, called -/
namespace Fx
open PySem PySem.Spec PyProof.Rows L2
open C8 (Cal Mak pe_c pe_mk)
open LamX (Tabs TabS TabB ExtN CodeO codeO_ne)
def runL (np nN : Nat) (fe : M S) : Fn := fun args => if args.length = np then fe (args.map some ++ List.replicate (nN - np) none) else .stuck
section
variable {c : Cfg} {W : WX} {B : Base} {G H : Hp} {ts : En} {vs : List (Option V)} {ρ : En} {σ : L2.St}
theorem Cell.at_ {a : Addr} {x : D} (hc : Cell c G H a x) : ∃ u, H a = some u ∧ isCell u := by
  cases x with
  | lst ds =>
    obtain ⟨vs, h, k⟩ := hc
    exact ⟨_, h, .lst _⟩
  | ins n ds =>
    obtain ⟨dx, fs, h, hn, k⟩ := hc
    exact ⟨_, h, .ins _ _ _⟩
  | dct ks ds =>
    obtain ⟨o, kv, us, h, d, k1, k2⟩ := hc
    have : ∃ es ep, o.data = .dict es ep := by cases d <;> assumption
    obtain ⟨es, ep, e⟩ := this
    exact ⟨_, h, .xd _ _ es ep e⟩
  | xo b o => exact ⟨_, hc.2.1, hc.2.2⟩
  | tup ds =>
    obtain ⟨vs, o, h, d, k⟩ := hc
    exact ⟨_, h, .frz _ _⟩
  | _ => exact hc.elim
theorem LsAll.at_ : ∀ {bs : List Addr} {dss : List (List D)}, LsAll c G H bs dss → ∀ p ∈ bs, ∃ u, H p = some u ∧ isCell u
  | _, _, .nil, p, hp => by simp at hp
  | _, _, .cons h _ l, p, hp => by
    rcases List.mem_cons.mp hp with rfl | hp
    · exact ⟨_, h, .lst _⟩
    · exact LsAll.at_ l p hp
theorem QCell.at_ {a : Addr} {ks : List D} {dss : List (List D)} {os : Owns} (h : QCell c B G H a ks dss os) : ∀ p ∈ os, ∃ u, H p = some u ∧ isCell u := fun p hp => by
  rcases h with ⟨kvs, bs, rfl, h1, _, _, h4⟩ | ⟨n, ds, p, dk, dv, dx, fs, b, o, kv, us, vs, rfl, rfl, rfl, h1, h2, h3, h4, h5, h6, h7, h8, h9⟩ | ⟨ks', o, kv, bs, rfl, rfl, h1, h2, h3, h4⟩
  · rcases List.mem_cons.mp hp with rfl | hp
    · exact ⟨_, h1, .dK _⟩
    · exact h4.at_ p hp
  · simp only [List.mem_cons, List.not_mem_nil, or_false] at hp
    rcases hp with rfl | rfl
    · exact ⟨_, h1, .ins _ _ _⟩
    · have : ∃ es ep, o.data = .dict es ep := by
        cases h6 <;> assumption
      obtain ⟨es, ep, e⟩ := this
      exact ⟨_, h5, .xd _ _ es ep e⟩
  · rcases List.mem_cons.mp hp with rfl | hp
    · have : ∃ es ep, o.data = .dict es ep := by
        cases h2 <;> assumption
      obtain ⟨es, ep, e⟩ := this
      exact ⟨_, h1, .xd _ _ es ep e⟩
    · exact h4.at_ p hp
end
end Fx
/-! more words: int, sorted, sums, borrowed operands, methods, several names at once -/
namespace Fx
open PySem PySem.Spec PyProof.Rows L2
open C8 (Cal Mak pe_c pe_mk)
/-! ### ints of a list -/
def intsD : List D → Option (List Int)
  | [] => some []
  | .int i :: ds => (intsD ds).map (i :: ·)
  | _ => none
theorem RpAll.ints {c : Cfg} {G : Hp} : ∀ {us : List V} {ds : List D} {ns : List Int}, intsD ds = some ns → RpAll c G us ds → us = ns.map V.int
  | _, [], _, e, h => by cases e; cases h; rfl
  | _, d :: ds, ns, e, h => by
    cases d <;> first | cases e | skip
    rename_i i
    cases h with
    | cons h1 h2 =>
      cases h1
      have e : (intsD ds).map (i :: ·) = some ns := e
      cases e2 : intsD ds with
      | none => rw [e2] at e; cases e
      | some ms =>
        rw [e2] at e
        cases e
        rw [RpAll.ints e2 h2]
        rfl
theorem RpAll.ofInts {c : Cfg} {G : Hp} : ∀ ns : List Int, RpAll c G (ns.map V.int) (ns.map D.int)
  | [] => .nil
  | i :: ns => .cons (.int i) (RpAll.ofInts ns)
def ins (i : Int) : List Int → List Int
  | [] => [i]
  | j :: js => if i ≤ j then i :: j :: js else j :: ins i js
def isort : List Int → List Int
  | [] => []
  | i :: is => ins i (isort is)
theorem ins_perm (i : Int) : ∀ js : List Int, (ins i js).Perm (i :: js)
  | [] => .refl _
  | j :: js => by
    unfold ins
    split
    · exact .refl _
    · exact ((ins_perm i js).cons j).trans (.swap i j js)
theorem isort_perm : ∀ is : List Int, (isort is).Perm is
  | [] => .refl _
  | i :: is => (ins_perm i _).trans ((isort_perm is).cons i)
theorem ins_pw (i : Int) : ∀ {js : List Int}, js.Pairwise (· ≤ ·) → (ins i js).Pairwise (· ≤ ·)
  | [], _ => by simp [ins]
  | j :: js, h => by
    unfold ins
    split
    · rename_i hij
      refine List.pairwise_cons.mpr ⟨fun k hk => ?_, h⟩
      rcases List.mem_cons.mp hk with rfl | hk
      · exact hij
      · exact Int.le_trans hij ((List.pairwise_cons.mp h).1 k hk)
    · rename_i hij
      refine List.pairwise_cons.mpr ⟨fun k hk => ?_, ins_pw i (List.pairwise_cons.mp h).2⟩
      have := (ins_perm i js).mem_iff.mp hk
      rcases List.mem_cons.mp this with rfl | hk
      · omega
      · exact (List.pairwise_cons.mp h).1 k hk
theorem isort_pw : ∀ is : List Int, (isort is).Pairwise (· ≤ ·)
  | [] => .nil
  | i :: is => ins_pw i (isort_pw is)
theorem isort_eq {ns ms : List Int} (p : ms.Perm ns) (h : ms.Pairwise (· ≤ ·)) : ms = isort ns :=
  List.Perm.eq_of_pairwise (fun a b _ _ h1 h2 => Int.le_antisymm h1 h2) h (isort_pw ns) (p.trans (isort_perm ns).symm)
def gSorted : List D → Option S
  | [.lst ds] => (intsD ds).map fun ns => .o none (.lst ((isort ns).map D.int))
  | _ => none
theorem cd_sorted {c : Cfg} : CbDen c (rSortedI c.K) gSorted := by
  intro B ts vs ρ σ H Q ds us s hl r e q
  match ds, hl, r, e with
  | [.lst ds], hl, r, e =>
    obtain ⟨v, rfl, G, O, h⟩ := r.one' hl
    obtain ⟨a, xs, rfl, ha, ka⟩ := h.lstE
    have e : (intsD ds).map (fun ns => S.o none (.lst ((isort ns).map D.int))) = some s := e
    cases e2 : intsD ds with
    | none => rw [e2] at e; cases e
    | some ns =>
      rw [e2] at e
      cases e
      rw [RpAll.ints e2 ka] at ha
      refine ⟨a, ns, rfl, SqL.of (O.sub _ _ ha), fun ns' p pm pw hp => ?_⟩
      rw [isort_eq pm pw]
      exact q _ _ (O.newO hp fun H' e => ⟨_, e, RpAll.ofInts _⟩)
/-! ### int, min, max, sum -/
def gInt1 : List D → Option S
  | [.int i] => ok1 (.int i)
  | [.bl b] => ok1 (.int (if b = true then 1 else 0))
  | _ => none
theorem cd_int {c : Cfg} : CbDen c (fun xs H Q => (∃ i, xs = [V.int i] ∧ Q (V.int i) H) ∨ ∃ k, xs = [V.bl k] ∧ Q (V.int (if k = true then 1 else 0)) H) gInt1 := by
  intro B ts vs ρ σ H Q ds us s hl r e q
  match ds, hl, r, e with
  | [.int i], hl, r, e =>
    cases e
    obtain ⟨v, rfl, G, O, h⟩ := r.one' hl
    cases h
    exact .inl ⟨i, rfl, q _ _ (O.val (.int _))⟩
  | [.bl b], hl, r, e =>
    cases e
    obtain ⟨v, rfl, G, O, h⟩ := r.one' hl
    cases h
    exact .inr ⟨b, rfl, q _ _ (O.val (.int _))⟩
section
variable {X : Cx} {c : Cfg}
theorem b_int : QB X c "int" (fun xs H Q => (∃ i, xs = [V.int i] ∧ Q (V.int i) H) ∨ ∃ k, xs = [V.bl k] ∧ Q (V.int (if k = true then 1 else 0)) H) gInt1 := ⟨.inr ⟨_, call_int1, by decide +kernel⟩, cd_int⟩
theorem b_sorted (hK : X.K = c.K := by rfl) : QB X c "sorted" (rSortedI c.K) gSorted := ⟨.inl ⟨_, hK ▸ cr_sortedI, by decide +kernel⟩, cd_sorted⟩
end
/-! ### an operand that is a name's cell, lent -/
/-- an operation whose answer is flat and that leaves the heap -/
def FlatOp (c : Cfg) (r : R2) (g : D → D → Option S) : Prop := ∀ (G H : Hp) (Q : VK) (x y : D) (v u : V) (s : S), (∀ a o, G a = some o → H a = some o) → Rp c G v x → Rp c G u y → g x y = some s → (∀ b : Bool, s = .d (.bl b) → Q (.bl b) H) → r v u H Q
theorem fo_in {c : Cfg} {neg : Bool} : FlatOp c (rInP c.K neg) (gInN neg) := by
  intro G H Q x y v u s sub h1 h2 e q
  unfold gInN at e
  split at e
  · rename_i ds hi
    split at e
    · rename_i hp
      rw [Bool.and_eq_true] at hp
      cases e
      have e3 : (toPs ds).any (fun z => PyData.eqv z (toP x)) = inD x ds := by
        rw [toPs_map, List.any_map]
        rfl
      refine ⟨toP x, toPs ds, h1.dp sub hp.1, ?_, (pl60_shaped hp.1).1, (plA_plain hp.2).1, Nat.le_trans (pl60_shaped hp.1).2 (by decide), ?_⟩
      · cases y <;> first | cases hi | skip
        · have := h2.dp (n := 61) sub (by simpa [pl] using hp.2)
          simp only [toP] at this
          exact .inr this
        · have := h2.dp (n := 61) sub (by simpa [pl] using hp.2)
          simp only [toP] at this
          exact .inl this
      · rw [e3]
        exact q _ rfl
    · cases e
  · cases e
section
variable {c : Cfg} {W : WX} {B : Base} {ts : En} {vs : List (Option V)} {ρ : En} {σ : L2.St} {H : Hp} {ta tb : TE} {fa fb : M S} {i : Nat} {r : R2} {g : D → D → Option S}
def lendD (ρ : En) (i : Nat) : Option D := match ρ[i]? with
  | some (some (.d x)) => some x
  | some (some (.o _ x)) => if canFz x then some x else none
  | _ => none
theorem Rep.lend {x y : D} {v : V} (e : lendD ρ i = some y) (r : Rep c B (some (.d x) :: ts) (some v :: vs) ρ σ H) : ∃ u G, σ[i]? = some (some u) ∧ (∀ a o, G a = some o → H a = some o) ∧ Rp c G v x ∧ Rp c G u y := by
  obtain ⟨G, o1, o2, k, h1, h2⟩ := r
  have hv : Rp c G v x := by
    cases h1 with
    | d h _ => exact h
  unfold lendD at e
  split at e
  · rename_i x' e1
    cases e
    obtain ⟨u, ev, hu⟩ := h2.getD e1
    exact ⟨u, G, ev, k.sub, hv, hu⟩
  · rename_i b x' e1
    split at e
    · rename_i hz
      cases e
      obtain ⟨a, ev, hc, ho, _⟩ := h2.getO e1
      obtain ⟨o, ha, _, hf⟩ := hc.fz hz
      have gp := (k.out a (List.mem_append_right _ ho)).1
      have s : ∀ b u, G b = some u → upd G a o b = some u := fun b u e => by
        have : b ≠ a := fun z => by rw [z, gp] at e; cases e
        rw [upd_ne this]
        exact e
      refine ⟨.ref a, upd G a o, ev, fun b u e => ?_, hv.mono s, hf _ s upd_same⟩
      by_cases hb : b = a
      · rw [hb, upd_same] at e
        rw [hb, ha, ← e]
      · rw [upd_ne hb] at e
        exact k.sub _ _ e
    · cases e
  · cases e
def mOpR (g : D → D → Option S) (fa : M S) (i : Nat) : M S := fun ρ => (dv fa ρ).then fun x ρ1 => match lendD ρ1 i with
  | some y => match g x y with
    | some (.d (.bl b)) => .ok (.d (.bl b)) ρ1
    | _ => .stuck
  | none => .stuck
theorem Rep.unit1 {x : D} {v : V} {b : Bool} (r : Rep c B (some (.d x) :: ts) (some v :: vs) ρ σ H) : Rep c B (some (.d (.bl b)) :: ts) (some (.bl b) :: vs) ρ σ H := by
  obtain ⟨G, O, _⟩ := r.one
  exact O.val (.bl _)
theorem den_opR (ho : FlatOp c r g) (h : Den c W ta fa) : Den c W (tOp r ta (tVar i)) (mOpR g fa i) := fun B ts vs ρ σ H Q rp q => by
  unfold mOpR at q
  rw [post_then] at q
  refine h.dv rp (q.imp1 fun x ρ1 q v H1 r1 => ?_)
  split at q
  · rename_i y e
    obtain ⟨u, G, ev, sub, hx, hy⟩ := r1.lend e
    split at q
    · rename_i b eg
      refine ⟨u, ev, ho G H1 Q x y v u _ sub hx hy eg fun b' hb => ?_⟩
      cases hb
      exact q _ _ r1.unit1
    · exact q.elim
  · exact q.elim
end
section
variable {X : Cx} {c : Cfg} {W : WX} {a b e : Expr} {es : List Expr} {fa fb fe : M S} {pos p p2 apos cpos : Pos} {k : Nat} {ta tb te : TE}
/-- an operator of comparison whose operand may be lent -/
structure QF (X : Cx) (c : Cfg) (op : CmpOp) (r : R2) (g : D → D → Option S) : Prop where
  pe : OpR X (compareOp op) r
  dn : FlatOp c r g
theorem f_nin (hr : Room k X.A) (hK : X.K = c.K := by rfl) : QF X c .NotIn (rInP c.K true) gNotIn := ⟨hK ▸ op_ninP (un66 hr), fo_in⟩
variable {op : CmpOp} {g : D → D → Option S} {r : R2} {x : Str}
theorem t_cmpR (ho : QF X c op r g) (ha : QE X c W a ta fa) (i : Nat) (hN : X.N[i]? = some x := by rfl) (hv : Vis X.env.scope x := by first | exact Or.inl rfl | exact Or.inr (Or.inl rfl) | exact Or.inr (Or.inr rfl)) (hd : (x == ("__debug__" : Str)) = false := by decide)
    (hcd : (x == ("__classdict__" : Str)) = false := by decide) (hm : behindInMarks op (.Name x p) = false := by first | exact nomark _ | with_unfolding_all rfl) : QT X c W (.Compare a [op] [.Name x p] pos) (tTest (tOp r ta (tVar i))) (mTest (mOpR g fa i)) := by
  obtain ⟨h1, h2⟩ := ha; obtain ⟨r1, r2⟩ := ho
  exact ⟨pt_cmpR r1 h1 (pe_var hN hv hd hcd) hm, dt_test (den_opR r2 h2)⟩
/-! ### methods of a name's list, its length -/
theorem q_append (i : Nat) (he : QE X c W e te fe) (hN : X.N[i]? = some x := by rfl) (hv : Vis X.env.scope x := by first | exact Or.inl rfl | exact Or.inr (Or.inl rfl) | exact Or.inr (Or.inr rfl)) (hd : (x == ("__debug__" : Str)) = false := by decide)
    (hcd : (x == ("__classdict__" : Str)) = false := by decide) (hbase : attributeBase (.Name x p) "append" X.env (eval (.Name x p) X.env) = eval (.Name x p) X.env := by rfl)
    (hfew : ((backTo cpos (starEach [e] X.env)).all (fun y => !y.1) && (backToKw cpos (keywordEach [] X.env)).all (fun y => y.1.isSome) && decide ([e].length + ([] : List Keyword).length + (if ([] : List Keyword).isEmpty then 0 else 1) < 30)) = true := by rfl) (hline : (apos.endLine == cpos.line) = true := by rfl)
    (hs : starEach [e] X.env = (false, eval e X.env) :: starEach [] X.env := by rfl) (hplain : (backTo cpos (starEach [] X.env)).any (·.1) = false := by rfl) (hK : X.K = c.K := by rfl) :
    QE X c W (.Call (.Attribute (.Name x p) "append" apos) [e] [] cpos) (tBM c.K "list" rAppend (tVar i) (tCons te tNil)) (mMeth1 i gApp fe) := by
  obtain ⟨h1, h2⟩ := he
  exact ⟨hK ▸ pe_bm PySem.F.plainAttrs_list PySem.F.slot_list_append PySem.F.type_list_append mt_append (pe_var hN hv hd hcd) (pa_cons h1 pa_nil hs) hbase hfew hline hs hplain, den_meth1 md_app h2⟩
theorem q_extend (i : Nat) (he : QE X c W e te fe) (hN : X.N[i]? = some x := by rfl) (hv : Vis X.env.scope x := by first | exact Or.inl rfl | exact Or.inr (Or.inl rfl) | exact Or.inr (Or.inr rfl)) (hd : (x == ("__debug__" : Str)) = false := by decide)
    (hcd : (x == ("__classdict__" : Str)) = false := by decide) (hbase : attributeBase (.Name x p) "extend" X.env (eval (.Name x p) X.env) = eval (.Name x p) X.env := by rfl)
    (hfew : ((backTo cpos (starEach [e] X.env)).all (fun y => !y.1) && (backToKw cpos (keywordEach [] X.env)).all (fun y => y.1.isSome) && decide ([e].length + ([] : List Keyword).length + (if ([] : List Keyword).isEmpty then 0 else 1) < 30)) = true := by rfl) (hline : (apos.endLine == cpos.line) = true := by rfl)
    (hs : starEach [e] X.env = (false, eval e X.env) :: starEach [] X.env := by rfl) (hplain : (backTo cpos (starEach [] X.env)).any (·.1) = false := by rfl) (hK : X.K = c.K := by rfl) :
    QE X c W (.Call (.Attribute (.Name x p) "extend" apos) [e] [] cpos) (tBM c.K "list" rExtend (tVar i) (tCons te tNil)) (mMeth1 i gExt fe) := by
  obtain ⟨h1, h2⟩ := he
  exact ⟨hK ▸ pe_bm PySem.F.plainAttrs_list PySem.F.slot_list_extend PySem.F.type_list_extend mt_extend (pe_var hN hv hd hcd) (pa_cons h1 pa_nil hs) hbase hfew hline hs hplain, den_meth1 md_ext h2⟩
theorem q_popAt (i : Nat) (he : QE X c W e te fe) (hN : X.N[i]? = some x := by rfl) (hv : Vis X.env.scope x := by first | exact Or.inl rfl | exact Or.inr (Or.inl rfl) | exact Or.inr (Or.inr rfl)) (hd : (x == ("__debug__" : Str)) = false := by decide)
    (hcd : (x == ("__classdict__" : Str)) = false := by decide) (hbase : attributeBase (.Name x p) "pop" X.env (eval (.Name x p) X.env) = eval (.Name x p) X.env := by rfl)
    (hfew : ((backTo cpos (starEach [e] X.env)).all (fun y => !y.1) && (backToKw cpos (keywordEach [] X.env)).all (fun y => y.1.isSome) && decide ([e].length + ([] : List Keyword).length + (if ([] : List Keyword).isEmpty then 0 else 1) < 30)) = true := by rfl) (hline : (apos.endLine == cpos.line) = true := by rfl)
    (hs : starEach [e] X.env = (false, eval e X.env) :: starEach [] X.env := by rfl) (hplain : (backTo cpos (starEach [] X.env)).any (·.1) = false := by rfl) (hK : X.K = c.K := by rfl) :
    QE X c W (.Call (.Attribute (.Name x p) "pop" apos) [e] [] cpos) (tBM c.K "list" rPopAt (tVar i) (tCons te tNil)) (mMeth1 i gPopAt fe) := by
  obtain ⟨h1, h2⟩ := he
  exact ⟨hK ▸ pe_bm PySem.F.plainAttrs_list PySem.F.slot_list_pop PySem.F.type_list_pop mt_popAt (pe_var hN hv hd hcd) (pa_cons h1 pa_nil hs) hbase hfew hline hs hplain, den_meth1 md_popAt h2⟩
theorem q_pop (i : Nat) (hN : X.N[i]? = some x := by rfl) (hv : Vis X.env.scope x := by first | exact Or.inl rfl | exact Or.inr (Or.inl rfl) | exact Or.inr (Or.inr rfl)) (hd : (x == ("__debug__" : Str)) = false := by decide)
    (hcd : (x == ("__classdict__" : Str)) = false := by decide) (hbase : attributeBase (.Name x p) "pop" X.env (eval (.Name x p) X.env) = eval (.Name x p) X.env := by rfl) (hline : (apos.endLine == cpos.line) = true := by rfl) (hK : X.K = c.K := by rfl) :
    QE X c W (.Call (.Attribute (.Name x p) "pop" apos) [] [] cpos) (tBM0 c.K "list" rPop (tVar i)) (mMeth0 i gPop) :=
  ⟨hK ▸ pe_bm0 PySem.F.plainAttrs_list PySem.F.slot_list_pop PySem.F.type_list_pop mt_pop (pe_var hN hv hd hcd) hbase hline, den_meth0 md_pop⟩
/-- isinstance(e, C), C a class of the text's own -/
theorem q_isC {C : Str} (n : String) (K : ClsOk c n) (hgm : X.mg C = some (.ref (c.cls n))) (hm : X.mg "isinstance" = none) (he : QE X c W e te fe) (hg : Gl X "isinstance" := by rfl) (hgC : Gl X C := by rfl) (hdb : (C == ("__debug__" : Str)) = false := by decide)
    (hs : starEach [e, .Name C p2] X.env = (false, eval e X.env) :: starEach [.Name C p2] X.env := by rfl) (hs2 : starEach [.Name C p2] X.env = (false, eval (.Name C p2) X.env) :: starEach [] X.env := by rfl) (hpl : (backTo pos (starEach [.Name C p2] X.env)).any (·.1) = false := by rfl) (hK : X.K = c.K := by rfl) :
    QE X c W (.Call (.Name "isinstance" p) [e, .Name C p2] [] pos) (tIsC c.K (c.cls n) te) (mIsC n fe) := by
  obtain ⟨h1, h2⟩ := he
  exact ⟨pe_callB (hK ▸ call_isi) hg hm (by decide +kernel) (pa_cons h1 (pa_cons (pe_glob (v := .ref (c.cls n)) hgC hgm rfl hdb) pa_nil hs2) hs) (by decide) (by decide) hs hpl, den_isC K h2⟩
end
end Fx
/-! a, b = x, y and a, b, c = x, y, z -/
/-! isinstance of a written pair of types -/
namespace Fx
open PySem PySem.Spec PyProof.Rows L2
def isTy2 (n m : String) (x : D) : Option Bool := match isTy n x with
  | some true => some true
  | some false => isTy m x
  | none => none
def gIsi2 (n m : String) (x : D) : Option S := (isTy2 n m x).bind fun b => ok1 (.bl b)
def mIsi2 (n m : String) (fe : M S) : M S := mUn (gIsi2 n m) fe
end Fx
/-! set(a tuple of ints), its length -/
namespace Rw
open PySem PySem.Spec PyProof.Rows L2
section
variable {X : Cx}
/-- how many unlike ones -/
def Card (ns : List Int) (c : Nat) : Prop := ∃ l : List Int, l.Nodup ∧ (∀ k, k ∈ l ↔ k ∈ ns) ∧ l.length = c
def rSetT (K : PySem.W.Frag) (w : World) : List V → Hp → VK → Prop := fun xs H Q => ∃ (p : Addr) (ns : List Int), xs = [.ref p] ∧ SqT K H p (ns.map V.int) ∧ ns.length ≤ 1000 ∧
  ∀ q c, H q = none → c ≤ ns.length → Card ns c → Q (.ref q) (upd H q (SetO w q (fun j => decide (j ∈ ns)) c))
theorem cr_setT (hc : X.calm = true) : CallR X (.type "set") (rSetT X.K X.w) := by
  rintro pins s σ H xs us Q I r ⟨p, ns, rfl, hS, hn, q⟩
  obtain ⟨u, rfl, ru⟩ := vals1 r
  cases ru
  obtain ⟨its, rv, pt, hz⟩ := I.tuple hS
  have hi : IntsAre its.toArray.toList ns := ints_of_vals rv
  refine call_set_tupI ns (I.ok.hd hc) (show s.heap.IsTuple p its.toArray from pt) hi (by unfold scanBound; omega) fun h' tk c R hcn k => ?_
  have nw : H s.heap.objs.size = none := I.hok.fresh (Nat.le_refl _)
  have cd : Card ns c := by
    obtain ⟨o, es, ep, t, ho, hex, hdt, g, nd, hm, hb, hf, hsz, _⟩ := R
    refine ⟨es.toList.map keyOf, nd, fun j => ?_, ?_⟩
    · rw [← hm j, decide_eq_true_eq]
    · rw [List.length_map, Array.length_toList, hsz]
  exact ⟨.ref s.heap.objs.size, _, I.laid (t' := tk) k (Nat.le_refl _) (setO_new R), rfl, q _ c nw hcn cd⟩
theorem cr_lenSet : CallR X (.builtin "len") (fun xs H Q => ∃ (a : Addr) (S : Int → Bool) (n : Nat), xs = [.ref a] ∧ H a = some (SetO X.w a S n) ∧ n ≤ 1000 ∧ Q (.int n) H) := by
  rintro pins s σ H xs us Q I r ⟨a, S, n, rfl, ha, hn, q⟩
  obtain ⟨u, rfl, ru⟩ := vals1 r
  cases ru
  obtain ⟨o, es, ep, t, ho, hex, hdt, g, nd, hm, hb, hf, hsz, _⟩ := setO_get I ha
  subst hsz
  exact PySem.call_len_set ho hex hdt hf (by omega) ⟨.int es.size, H, I.tok _, ⟨_, rfl⟩, q⟩
end
end Rw
/-! sorted lists without repetition, the products' mirrors -/
namespace Rw
/-- u is what is in ls, ascending, once each -/
def Srt (u ls : List Int) : Prop := u.Pairwise (· < ·) ∧ ∀ k, k ∈ u ↔ k ∈ ls
theorem pw_nodup : ∀ {u : List Int}, u.Pairwise (· < ·) → u.Nodup
  | [], _ => List.nodup_nil
  | a :: u, h => by
    rw [List.pairwise_cons] at h
    rw [List.nodup_cons]
    exact ⟨fun m => Int.lt_irrefl _ (h.1 a m), pw_nodup h.2⟩
theorem srt_inj : ∀ {u v : List Int}, u.Pairwise (· < ·) → v.Pairwise (· < ·) → (∀ k, k ∈ u ↔ k ∈ v) → u = v
  | [], [], _, _, _ => rfl
  | [], b :: v, _, _, h => by have := (h b).mpr List.mem_cons_self; cases this
  | a :: u, [], _, _, h => by have := (h a).mp List.mem_cons_self; cases this
  | a :: u, b :: v, p, q, h => by
    rw [List.pairwise_cons] at p q
    have ab : a = b := by
      have h1 := (h a).mp List.mem_cons_self
      have h2 := (h b).mpr List.mem_cons_self
      rcases List.mem_cons.mp h1 with e | m1
      · exact e
      · rcases List.mem_cons.mp h2 with e | m2
        · exact e.symm
        · have := q.1 a m1
          have := p.1 b m2
          omega
    subst ab
    have : u = v := srt_inj p.2 q.2 fun k => by
      constructor
      · intro m
        rcases List.mem_cons.mp ((h k).mp (List.mem_cons_of_mem _ m)) with e | m'
        · have := p.1 k m
          omega
        · exact m'
      · intro m
        rcases List.mem_cons.mp ((h k).mpr (List.mem_cons_of_mem _ m)) with e | m'
        · have := q.1 k m
          omega
        · exact m'
    rw [this]
theorem Srt.inj {u v ls : List Int} (p : Srt u ls) (q : Srt v ls) : u = v := srt_inj p.1 q.1 fun k => (p.2 k).trans (q.2 k).symm
theorem len_sub : ∀ {l m : List Int}, l.Nodup → (∀ k ∈ l, k ∈ m) → l.length ≤ m.length
  | [], m, _, _ => Nat.zero_le _
  | a :: l, m, nd, h => by
    rw [List.nodup_cons] at nd
    have ha := h a List.mem_cons_self
    have := len_sub (l := l) (m := m.erase a) nd.2 fun k hk => by
      have ne : k ≠ a := fun e => nd.1 (e ▸ hk)
      exact (List.mem_erase_of_ne ne).mpr (h k (List.mem_cons_of_mem _ hk))
    have e := List.length_erase_of_mem ha
    have : 0 < m.length := List.length_pos_of_mem ha
    simp only [List.length_cons]
    omega
theorem Srt.card {u ls : List Int} {c : Nat} (p : Srt u ls) (q : Card ls c) : c = u.length := by
  obtain ⟨l, nd, m, rfl⟩ := q
  have h1 := len_sub nd fun k hk => (p.2 k).mpr ((m k).mp hk)
  have h2 := len_sub (pw_nodup p.1) fun k hk => (m k).mpr ((p.2 k).mp hk)
  omega
def ins (x : Int) : List Int → List Int
  | [] => [x]
  | y :: l => if x < y then x :: y :: l else if x = y then y :: l else y :: ins x l
theorem mem_ins {x k : Int} : ∀ {l : List Int}, k ∈ ins x l ↔ k = x ∨ k ∈ l
  | [] => by simp [ins]
  | y :: l => by
    unfold ins
    split
    · simp
    · split
      · rename_i e
        subst e
        simp
      · simp only [List.mem_cons, mem_ins]
        constructor
        · rintro (h | h | h) <;> simp [h]
        · rintro (h | h | h) <;> simp [h]
theorem pw_ins {x : Int} : ∀ {l : List Int}, l.Pairwise (· < ·) → (ins x l).Pairwise (· < ·)
  | [], _ => by simp [ins]
  | y :: l, h => by
    rw [List.pairwise_cons] at h
    unfold ins
    split
    · rename_i c
      rw [List.pairwise_cons, List.pairwise_cons]
      refine ⟨fun k hk => ?_, h⟩
      rcases List.mem_cons.mp hk with e | m
      · rw [e]; exact c
      · have := h.1 k m
        omega
    · split
      · rw [List.pairwise_cons]
        exact h
      · rw [List.pairwise_cons]
        refine ⟨fun k hk => ?_, pw_ins h.2⟩
        rcases mem_ins.mp hk with e | m
        · omega
        · exact h.1 k m
def uniq : List Int → List Int
  | [] => []
  | x :: l => ins x (uniq l)
theorem srt_uniq : ∀ ls, Srt (uniq ls) ls
  | [] => ⟨List.Pairwise.nil, fun _ => Iff.rfl⟩
  | x :: l => by
    obtain ⟨p, m⟩ := srt_uniq l
    refine ⟨pw_ins p, fun k => ?_⟩
    show k ∈ ins x (uniq l) ↔ _
    rw [mem_ins, m k, List.mem_cons]
theorem Srt.len {u ls : List Int} (p : Srt u ls) : u.length ≤ ls.length := len_sub (pw_nodup p.1) fun k hk => (p.2 k).mp hk
end Rw
/-! sets of a tuple's ints: sorted, counted; places in a list; the least of a tuple -/
namespace PySem
end PySem
namespace Fx
open PySem PySem.Spec PyProof.Rows L2
/-! ### on data -/
def gSetL (x : D) : Option S := match x with
  | .tup ds => match intsD ds with
    | some ns => if ns.length ≤ 1000 then ok1 (.int (Rw.uniq ns).length) else none
    | none => none
  | _ => none
def tSet (K : PySem.W.Frag) (w : World) (te : TE) : TE := tCB (Rw.rSetT K w) (tCons te tNil)
theorem den_setL {c : Cfg} {W : WX} {w : World} {te : TE} {fe : M S} (h : Den c W te fe) : Den c W (tCB (fun xs H Q => ∃ (a : Addr) (S : Int → Bool) (n : Nat), xs = [.ref a] ∧ H a = some (SetO w a S n) ∧ n ≤ 1000 ∧ Q (.int n) H) (tCons (tSet c.K w te) tNil)) (mUn gSetL fe) := fun B ts vs ρ σ H Q r q => by
  unfold mUn at q
  rw [post_then] at q
  refine h.dv r (q.imp1 fun x ρ1 q v H1 r1 => ?_)
  unfold gSetL at q
  split at q
  · rename_i s es
    split at es
    · rename_i ds
      split at es
      · rename_i ns en
        split at es
        · rename_i hn
          cases es
          obtain ⟨G, O, hv⟩ := r1.one
          obtain ⟨a, us, rfl, ha, ka⟩ := hv.tupE
          rw [RpAll.ints en ka] at ha
          refine ⟨a, ns, rfl, SqT.up O.sub ha, by omega, fun p n hp hl hc => ?_⟩
          obtain ⟨G2, O2, _⟩ := (r1.foreign (o := SetO w p (fun j => decide (j ∈ ns)) n) hp).one
          have e : n = (Rw.uniq ns).length := (Rw.srt_uniq ns).card hc
          refine ⟨p, _, n, rfl, upd_same, by omega, ?_⟩
          subst e
          exact q _ _ (O2.val (.int _))
        · cases es
      · cases es
    · cases es
  · exact q.elim
section
variable {X : Cx} {c : Cfg} {W : WX} {e f : Expr} {te tf : TE} {fe ff : M S} {pos p p2 p3 apos cpos : Pos}
theorem q_setL (hm1 : X.mg "len" = none) (hm2 : X.mg "set" = none) (he : QE X c W e te fe) (hc : X.calm = true := by rfl) (hg1 : Gl X "len" := by rfl) (hg2 : Gl X "set" := by rfl)
    (hs : starEach [.Call (.Name "set" p2) [e] [] p3] X.env = (false, eval (.Call (.Name "set" p2) [e] [] p3) X.env) :: starEach [] X.env := by rfl) (hpl : (backTo pos (starEach [] X.env)).any (·.1) = false := by rfl)
    (hs2 : starEach [e] X.env = (false, eval e X.env) :: starEach [] X.env := by rfl) (hpl2 : (backTo p3 (starEach [] X.env)).any (·.1) = false := by rfl) (hK : X.K = c.K := by rfl) :
    QE X c W (.Call (.Name "len" p) [.Call (.Name "set" p2) [e] [] p3] [] pos) (tCB (fun xs H Q => ∃ (a : Addr) (S : Int → Bool) (n : Nat), xs = [.ref a] ∧ H a = some (SetO X.w a S n) ∧ n ≤ 1000 ∧ Q (.int n) H) (tCons (tSet c.K X.w te) tNil)) (mUn gSetL fe) := by
  obtain ⟨h1, h2⟩ := he
  refine ⟨pe_callB Rw.cr_lenSet hg1 hm1 PySem.boot_len (pa_cons (pe_callTy (hK ▸ Rw.cr_setT hc) hg2 hm2 (by decide +kernel) (pa_cons h1 pa_nil hs2) (by decide) (by decide) hs2 hpl2) pa_nil hs) (by decide) (by decide) hs hpl, den_setL h2⟩
end
end Fx
/-! what the printed texts name -/
namespace Fx
open PySem PySem.Spec PyProof.Rows L2
def noE : Expr := .Name "" ⟨0, 0, 0, 0⟩
def lamQ (q : Str) : Expr → LamS
  | .Lambda params body scope _ => ⟨q, params, body, scope⟩
  | e => ⟨q, default, e, default⟩
theorem QSs.out {X : Cx} {c : Cfg} {W : WX} {ss : List Stmt} {t : TS} {F : M Fl} (h : QSs X c W ss t F) : ∃ t, PSs X ss t ∧ DenS c W t F := ⟨t, h.pe, h.dn⟩
theorem QE.out {X : Cx} {c : Cfg} {W : WX} {e : Expr} {t : TE} {f : M S} (h : QE X c W e t f) : ∃ t, PE X e t ∧ Den c W t f := ⟨t, h.pe, h.dn⟩
end Fx
/-! the law's call -/
namespace Fx
open PySem PySem.Spec PyProof.Rows L2
open C8 (Cal Mak pe_c pe_mk)
open LamX (Tabs TabS TabB ExtN CodeO codeO_ne)
def spLawX (c : Cfg) : Sp := fun vs H Q _ => ∃ (a : Addr) (ns : List Int), vs = [.ref a] ∧ ns.length ≤ 63 ∧ SqL c.K H a (ns.map V.int) ∧ Tabs c.T H ∧ ∀ H', Q (.bl true) H'
def noTbl (H : Hp) : Hp := fun a => match H a with
  | some o => if isTbl o then none else some o
  | none => none
theorem noTbl_sub {H : Hp} : ∀ a o, noTbl H a = some o → H a = some o ∧ isTbl o = false := fun a o e => by
  unfold noTbl at e
  split at e
  · rename_i u h
    split at e
    · cases e
    · rename_i hb
      cases e
      exact ⟨h, by simpa using hb⟩
  · cases e
theorem noTbl_at {H : Hp} {a : Addr} {o : HO} (h : H a = some o) (n : isTbl o = false) : noTbl H a = some o := by
  unfold noTbl
  rw [h]
  simp [n]
theorem law_ok {P : Program} {w : World} {c : Cfg} {mg : Str → Option Value} {base : Heap} {CX : CXT} {k : Nat} {f : Addr} {fd : FuncData} {F : Fn} (pure : ∀ ns : List Int, ns.length ≤ 63 → ∃ ρ, F [.d (.scr ns)] = .ok (.d (.bl true)) ρ)
    (o : FnOk P w c.K mg base CX k f fd ["script"] (spF c F)) : FnOk P w c.K mg base CX k f fd ["script"] (spLawX c) := by
  refine o.imp fun vs H Q E h => ?_
  obtain ⟨a, ns, rfl, hl, hs, hT, q⟩ := h
  obtain ⟨ρ, e⟩ := pure ns hl
  refine ⟨⟨fun _ => none, fun _ => none⟩, [], [], [.d (.scr ns)], ⟨noTbl H, [], [], ⟨fun a o e => (noTbl_sub a o e).1, fun a o e => (noTbl_sub a o e).2, List.nodup_nil, fun p hp => by simp at hp, hT, (fun a o e => nomatch e), (fun a o e => nomatch e)⟩, .nil, .d (.scr ?_) .nil⟩, ?_⟩
  · rcases hs with (h | ⟨o, h⟩) | h
    · exact .inl (.inl (noTbl_at h rfl))
    · exact .inl (.inr ⟨o, noTbl_at h rfl⟩)
    · exact .inr h
  · rw [e]
    intro v σ' H' r
    obtain ⟨G, O, hv⟩ := r.one
    cases hv
    exact q H'
theorem cal_mk {P : Program} {w : World} {K : PySem.W.Frag} {mg : Str → Option Value} {base : Heap} {f : Addr} {fd : FuncData} {x : Str} {st : Stmt} {ps : List Str} {k : Nat} {sp : Sp} (F : Fun K x x st f fd) (hm : mg x = some (.ref f)) (b : Binds K fd ps []) (o : FnOk P w K mg base CX0 k f fd ps sp) : Cal P w K mg base k x sp [] := ⟨f, fd, ps, [], o, hm, F.kp, b, .nil⟩
end Fx
/-! defs that raise, try .. except X -/
/-! tuple(range(n)), list(range(n)), a starred element, reversed(xs) -/
namespace Fx
open PySem PySem.Spec PyProof.Rows L2
open C8 (Cal Mak pe_c pe_mk)
open StX (tStar pa_star)
section
variable {c : Cfg} {B : Base} {W : WX} {ts : En} {vs : List (Option V)} {ρ : En} {σ : L2.St} {H : Hp} {ta te : TE} {fa fe : M S} {tA : TA} {fA fr : M (List D)}
/-! ### tuple(range(n)) -/
/-! ### (.., *xs, ..) -/
def aStar (fe : M S) (fr : M (List D)) : M (List D) := fun ρ => (dv fe ρ).then fun x ρ1 => match itemsD x with
  | some ds => (fr ρ1).then fun es ρ2 => .ok (ds ++ es) ρ2
  | none => .stuck
theorem Rep.spread {x : D} {v : V} {ds : List D} (e : itemsD x = some ds) (r : Rep c B (some (.d x) :: ts) (some v :: vs) ρ σ H) : ∃ a us, v = .ref a ∧ SqI c.K (isLst x) H a us ∧ us.length = ds.length ∧ Rep c B (tmp ds ++ ts) (tmv us ++ vs) ρ σ H := by
  obtain ⟨G, O, hv⟩ := r.top
  obtain ⟨a, us, rfl, h1, k⟩ := hv.seq O.sub e
  obtain ⟨G', o1, o2, kk, g1, g2⟩ := r
  cases g1 with
  | d g0 g1 =>
    obtain ⟨a', us', e1, h1', k'⟩ := g0.seq kk.sub e
    cases e1
    refine ⟨a, us', rfl, h1', k'.length, G', o1, o2, kk, ?_, g2⟩
    have := (k'.rev).sl (B := B) (H := H) g1
    unfold tmp tmv
    exact this
theorem den_star (he : Den c W te fe) (hr : DenA c W tA fr) : DenA c W (tStar c.K te tA) (aStar fe fr) := fun B ts vs ρ σ H Q r q => by
  unfold aStar at q
  rw [post_then] at q
  refine he.dv r (q.imp1 fun x ρ1 q v H1 r1 => ?_)
  have q : Post (OkA c B ts vs σ Q) (ErrP c W B ts vs σ) (match itemsD x with
    | some ds => (fr ρ1).then fun es ρ2 => .ok (ds ++ es) ρ2
    | none => .stuck) := q
  cases e : itemsD x with
  | none => rw [e] at q; exact q.elim
  | some ds =>
    rw [e] at q
    have q : Post (OkA c B ts vs σ Q) (ErrP c W B ts vs σ) ((fr ρ1).then fun es ρ2 => .ok (ds ++ es) ρ2) := q
    rw [post_then] at q
    obtain ⟨a, us, rfl, h1, hl, r2⟩ := Rep.spread e r1
    refine ⟨a, us, rfl, ?_, ?_⟩
    · cases hx : isLst x with
      | true => rw [hx] at h1; exact .inr h1
      | false => rw [hx] at h1; exact .inl h1
    · refine hr B _ _ ρ1 σ H1 _ r2 (q.imp (fun es ρ2 q ws H2 hl2 r3 => ?_) fun e' ρ' q k d H' he' r' => q k d H' he' (r'.dropN hl))
      refine q (us ++ ws) H2 (by rw [List.length_append, List.length_append, hl, hl2]) ?_
      unfold tmp tmv at r3 ⊢
      rw [List.reverse_append, List.map_append, List.reverse_append, List.map_append, List.append_assoc, List.append_assoc]
      exact r3
/-! ### reversed(xs) -/
def iRevS (fA : M (List D)) : M (List D) := fun ρ => (fA ρ).then fun ds ρ1 => match ds with
  | [.lst ds] => .ok ds.reverse ρ1
  | _ => .stuck
theorem di_rev (h : DenA c W tA fA) : DenI c W (iRev c.K tA) (iRevS fA) := fun B ts vs ρ σ H R r q => by
  unfold iRevS at q
  rw [post_then] at q
  refine h B ts vs ρ σ H _ r (q.imp1 fun xs ρ1 q us H1 hl r1 => ?_)
  split at q
  · rename_i ds
    have q : OkI c B ts vs σ R ds.reverse ρ1 := q
    match us, hl, r1 with
    | [v], hl, r1 =>
      have r1 : Rep c B (some (.d (.lst ds)) :: ts) (some v :: vs) ρ1 σ H1 := r1
      obtain ⟨G, O, hv⟩ := r1.top
      obtain ⟨a, us, rfl, h1, k⟩ := hv.seq O.sub rfl
      refine ⟨a, us, rfl, h1, ?_⟩
      rw [k.length]
      refine q _ [.lst ds] [.ref a] H1 rfl r1 ⟨ds.length, SrcAt c true ds.length a, fun i H y H' => H' = H ∧ TurnAt c true a (ds.length - 1 - i) H y, ⟨?_, ?_, ?_⟩, by rw [List.length_reverse], fun B ts vs ρ σ H r => src_of (x := .lst ds) rfl r, ?_⟩
      · rintro i H hi ⟨us, h1, h2⟩
        exact ⟨hi, us, us[ds.length - 1 - i]'(by omega), h1, List.getElem?_eq_getElem (by omega)⟩
      · intro H _
        exact Nat.le_refl _
      · rintro i H y H' _ _ ⟨e, h⟩
        exact ⟨e, fun us h1 => h us h1⟩
      · rintro B ts vs ρ σ H k y H' hk r ⟨rfl, t⟩
        obtain ⟨d, e1, r2⟩ := turn_val (x := .lst ds) (ds := ds) rfl (k := ds.length - 1 - k) (by omega) r t
        exact ⟨d, by rw [List.getElem?_reverse hk]; exact e1, r2⟩
  · exact q.elim
end
section
variable {X : Cx} {c : Cfg} {W : WX} {a e tg : Expr} {es : List Expr} {ta te : TE} {tA : TA} {fa fe : M S} {fA fr : M (List D)} {pos p p2 pos2 : Pos}
theorem a_star (h : QE X c W e te fe) (k : QA X c W es tA fr) (hK : X.K = c.K := by rfl) (hs : starEach (.Starred e p :: es) X.env = (true, eval e X.env) :: starEach es X.env := by rfl) : QA X c W (.Starred e p :: es) (tStar c.K te tA) (aStar fe fr) := by
  obtain ⟨h1, h2⟩ := h; obtain ⟨k1, k2⟩ := k
  exact ⟨hK ▸ pa_star h1 k1 hs, den_star h2 k2⟩
theorem i_rev (hm : X.mg "reversed" = none) (h : QA X c W [a] tA fA) (hg : Gl X "reversed" := by rfl) (hK : X.K = c.K := by rfl) (hs : starEach [a] X.env = [(false, eval a X.env)] := by rfl) : QI X c W tg (.Call (.Name "reversed" p) [a] [] pos) (iRev c.K tA) (iRevS fA) := by
  obtain ⟨h1, h2⟩ := h
  exact ⟨hK ▸ pi_reversed hg hm h1 hs, di_rev h2⟩
end
end Fx
/-! dicts whose objects are known: keys ints and texts, or tuples: read, written -/
namespace Fx
open PySem PySem.Spec PyProof.Rows L2
open C8 (Cal Mak pe_c pe_mk)
/-! ### keys -/
def isKey : D → Bool
  | .int _ => true
  | .str _ => true
  | _ => false
def isKeyT : D → Bool
  | .tup ds => match nkDs ds with
    | some ks => decide (NestedKey.depthAll ks + 1 ≤ 8)
    | none => false
  | _ => false
def keyEq : D → D → Bool
  | .int i, .int j => decide (i = j)
  | .str x, .str y => decide (x = y)
  | .tup xs, .tup ys => match nkDs xs, nkDs ys with
    | some a, some b => NestedKey.beqAll a b
    | _, _ => false
  | _, _ => false
theorem keyEq_keyD {k k' : Key} : keyEq (keyD k) (keyD k') = decide (k = k') := by
  cases k <;> cases k' <;> simp [keyEq, keyD]
/-- the place of a key -/
def keyAt (ks : List D) (k : D) : Option Nat := ks.findIdx? (keyEq k)
def hasKey (ks : List D) (k : D) : Bool := ks.any (keyEq k)
/-- a key that the dict can be asked for -/
def homog (ks : List D) (k : D) : Bool := (isKey k && ks.all isKey) || (isKeyT k && ks.all isKeyT)
def putKs {α : Type} (ks : List D) (k : D) (l : List α) (x : α) : List α := if hasKey ks k then l else l ++ [x]
def putVs {α : Type} (ks : List D) (k : D) (l : List α) (x : α) : List α := if hasKey ks k then List.zipWith (fun k' d => if keyEq k k' then x else d) ks l else l ++ [x]
theorem find_at {β : Type} (q : β → Bool) : ∀ l : List β, l.find? q = (l.findIdx? q).bind fun i => l[i]?
  | [] => rfl
  | x :: l => by
    rw [List.find?_cons, List.findIdx?_cons]
    cases e : q x with
    | true => simp
    | false =>
      simp only [Bool.false_eq_true, if_false]
      rw [find_at q l]
      cases l.findIdx? q <;> simp
theorem idx_map {α β : Type} {p : α → Bool} {q : β → Bool} {l1 : List α} {l2 : List β} (h : l1.map p = l2.map q) : l1.findIdx? p = l2.findIdx? q := by
  have e1 := List.findIdx?_map (f := p) (l := l1) (p := id)
  have e2 := List.findIdx?_map (f := q) (l := l2) (p := id)
  rw [h] at e1
  exact e1.symm.trans e2
theorem any_map2 {α β : Type} {p : α → Bool} {q : β → Bool} {l1 : List α} {l2 : List β} (h : l1.map p = l2.map q) : l1.any p = l2.any q := by
  have e1 : (l1.map p).any id = l1.any p := by rw [List.any_map]; rfl
  have e2 : (l2.map q).any id = l2.any q := by rw [List.any_map]; rfl
  rw [← e1, ← e2, h]
theorem any_idx {α : Type} {p : α → Bool} : ∀ {l : List α}, l.any p = (l.findIdx? p).isSome
  | [] => rfl
  | x :: l => by
    rw [List.any_cons, List.findIdx?_cons]
    cases e : p x with
    | true => rfl
    | false =>
      rw [any_idx (l := l)]
      simp only [Bool.false_or, Bool.false_eq_true, if_false, Option.isSome_map]
theorem key_of {c : Cfg} {G : Hp} {v : V} {x : D} (h : Rp c G v x) (e : isKey x = true) : ∃ k : Key, x = keyD k ∧ v = kV k := by
  cases x <;> first | cases e | skip
  · cases h
    exact ⟨.inl _, rfl, rfl⟩
  · cases h
    exact ⟨.inr _, rfl, rfl⟩
theorem keyT_of {x : D} (e : isKeyT x = true) : ∃ ds ks, x = .tup ds ∧ nkDs ds = some ks ∧ nkD x = some (.tup ks) ∧ (NestedKey.tup ks).depth ≤ 8 := by
  cases x <;> first | cases e | skip
  rename_i ds
  have e : (match nkDs ds with
    | some ks => decide (NestedKey.depthAll ks + 1 ≤ 8)
    | none => false) = true := e
  cases h : nkDs ds with
  | none => rw [h] at e; cases e
  | some ks =>
    rw [h] at e
    exact ⟨ds, ks, rfl, h, by rw [nkD, h], of_decide_eq_true e⟩
theorem keyEqT {ds : List D} {ks : List NestedKey} {k' : D} {n' : NestedKey} (h : nkDs ds = some ks) (h' : nkD k' = some n') : keyEq (.tup ds) k' = decide (n' = .tup ks) := by
  rw [NestedKey.decide_eq]
  cases k' with
  | tup es =>
    rw [nkD] at h'
    cases e : nkDs es with
    | none => rw [e] at h'; cases h'
    | some ls =>
      rw [e] at h'
      cases h'
      show (match nkDs ds, nkDs es with
        | some a, some b => NestedKey.beqAll a b
        | _, _ => false) = NestedKey.beqAll ls ks
      rw [h, e]
      show NestedKey.beqAll ks ls = NestedKey.beqAll ls ks
      have a := NestedKey.decide_eq (.tup ks) (.tup ls)
      have b := NestedKey.decide_eq (.tup ls) (.tup ks)
      show NestedKey.beq (.tup ks) (.tup ls) = NestedKey.beq (.tup ls) (.tup ks)
      rw [← a, ← b]
      by_cases q : NestedKey.tup ks = .tup ls
      · rw [decide_eq_true q, decide_eq_true q.symm]
      · rw [decide_eq_false q, decide_eq_false fun z => q z.symm]
  | non => rw [nkD] at h'; cases h'; rfl
  | int i => rw [nkD] at h'; cases h'; rfl
  | str i => rw [nkD] at h'; cases h'; rfl
  | bl _ => rw [nkD] at h'; cases h'
  | ty _ => rw [nkD] at h'; cases h'
  | lst _ => rw [nkD] at h'; cases h'
  | ins _ _ => rw [nkD] at h'; cases h'
  | dct _ _ => rw [nkD] at h'; cases h'
  | dcq _ _ => rw [nkD] at h'; cases h'
  | xo _ _ => rw [nkD] at h'; cases h'
  | exc => rw [nkD] at h'; cases h'
  | rng _ _ => rw [nkD] at h'; cases h'
  | fu => rw [nkD] at h'; cases h'
  | scr _ => rw [nkD] at h'; cases h'
  | fn _ => rw [nkD] at h'; cases h'
section
variable {X : Cx} {pins : List (Addr × Obj)} {σ : L2.St} {H : Hp} {s : Shared} {c : Cfg} {G : Hp}
mutual
theorem rp_nested (I : Inv X pins σ H s) (hK : X.K = c.K) (sub : ∀ a o, G a = some o → H a = some o) : ∀ {v : V} {d : D} {k : NestedKey} {u : Value}, Rp c G v d → nkD d = some k → RelV v u → NestedIs s.heap k u
  | _, _, k, u, .non, e, r => by rw [nkD] at e; cases e; cases r; exact .none
  | _, _, k, u, .bl b, e, r => by rw [nkD] at e; cases e
  | _, _, k, u, .int i, e, r => by
    rw [nkD] at e
    cases e
    obtain ⟨t, rfl⟩ := r
    exact .int _ _
  | _, _, k, u, .str x, e, r => by
    rw [nkD] at e
    cases e
    obtain ⟨t, rfl⟩ := r
    exact .text _ _
  | _, _, k, u, .ty n, e, r => by rw [nkD] at e; cases e
  | _, _, k, u, .tup (ds := ds) h ka n, e, r => by
    rw [nkD] at e
    cases er : nkDs ds with
    | none => rw [er] at e; cases e
    | some ks =>
      rw [er] at e
      cases e
      cases r
      obtain ⟨its, rv, ⟨o, ho, hc, m, hd⟩, _⟩ := I.tuple (hK ▸ SqT.up sub h)
      exact .tup ho hc hd (by simpa using rps_nested I hK sub ka er rv)
  | _, _, k, u, .lst h ka, e, r => by rw [nkD] at e; cases e
  | _, _, k, u, .scr h, e, r => by rw [nkD] at e; cases e
  | _, _, k, u, .ins h n ka, e, r => by rw [nkD] at e; cases e
  | _, _, k, u, .dct h ka, e, r => by rw [nkD] at e; cases e
  | _, _, k, u, .dcx h o k1 k2, e, r => by rw [nkD] at e; cases e
  | _, _, k, u, .xo h, e, r => by rw [nkD] at e; cases e
  | _, _, k, u, .exc h h2, e, r => by rw [nkD] at e; cases e
  | _, _, k, u, .rng h, e, r => by rw [nkD] at e; cases e
  | _, _, k, u, .fu h, e, r => by rw [nkD] at e; cases e
  | _, _, k, u, .fn h ka, e, r => by rw [nkD] at e; cases e
termination_by structural _ _ _ _ h => h
theorem rps_nested (I : Inv X pins σ H s) (hK : X.K = c.K) (sub : ∀ a o, G a = some o → H a = some o) : ∀ {vs : List V} {ds : List D} {ks : List NestedKey} {us : List Value}, RpAll c G vs ds → nkDs ds = some ks → Vals vs us → NestedAll s.heap ks us
  | _, _, ks, us, .nil, e, r => by rw [nkDs] at e; cases e; cases r; exact .nil
  | _, _, ks, us, .cons (d := d) (ds := ds) h ka, e, r => by
    rw [nkDs] at e
    cases e1 : nkD d with
    | none => rw [e1] at e; cases e
    | some k =>
      cases e2 : nkDs ds with
      | none => rw [e1, e2] at e; cases e
      | some ks' =>
        rw [e1, e2] at e
        cases e
        cases r with
        | cons r1 r2 => exact .cons (rp_nested I hK sub h e1 r1) (rps_nested I hK sub ka e2 r2)
termination_by structural _ _ _ _ h => h
end
/-! ### what the object tells -/
theorem DcO.sys {w : World} {a : Addr} {o : Obj} {ks : List D} {kv us : List V} (d : DcO w a o ks kv us) : (a == sysModules) = false := by cases d <;> assumption
theorem DcO.exact {w : World} {a : Addr} {o : Obj} {ks : List D} {kv us : List V} (d : DcO w a o ks kv us) : o.ExactDict := by cases d <;> assumption
theorem DcO.dat {w : World} {a : Addr} {o : Obj} {ks : List D} {kv us : List V} (d : DcO w a o ks kv us) : ∃ es ep, o.data = .dict es ep := by cases d <;> assumption
theorem DcO.len {w : World} {a : Addr} {o : Obj} {ks : List D} {kv us : List V} (d : DcO w a o ks kv us) : ks.length ≤ sizeLine := by
  cases d with
  | mix _ _ _ _ h _ => rw [List.length_map]; exact h
  | nk _ _ _ _ h _ e _ =>
    have := congrArg List.length e
    rw [List.length_map, List.length_map] at this
    omega
theorem xd_get {a : Addr} {o : Obj} (I : Inv X pins σ H s) (h : H a = some (xdO a o)) : s.heap.get? a = some o := (I.hok a _ h).1
theorem xd_ok {P : Program} {w : World} {H' : Hp} {h : Heap} {a : Addr} {o : Obj} (e : h.get? a = some o) : ObjOk P w H' h a (xdO a o) := ⟨e, ⟨o, e⟩, fun _ _ q k => k o q⟩
/-- the two forms of what is known, over the heap that stands -/
theorem DcO.real {a : Addr} {o : Obj} {ks : List D} {kv us : List V} (I : Inv X pins σ H s) (hK : X.K = c.K) (hw : X.w = c.w) (sub : ∀ a o, G a = some o → H a = some o) (hD : H a = some (xdO a o)) (d : DcO c.w a o ks kv us) (ka : RpAll c G kv ks) :
    (∃ kvs : List (Key × Value), s.heap.DictOf (mixKind X.prog X.w) a kvs ∧ ks = kvs.map (fun p => keyD p.1) ∧ kv = kvs.map (fun p => kV p.1) ∧ Vals us (kvs.map (·.2)) ∧ kvs.length ≤ sizeLine) ∨
    ∃ xs : List (NestedKey × Addr × Value), s.heap.DictOfH (nestedKind X.prog X.w) a xs ∧ ks.map nkD = xs.map (fun x => some x.1) ∧ kv = xs.map (fun x => V.ref x.2.1) ∧ Vals us (xs.map (·.2.2)) ∧ xs.length ≤ sizeLine ∧ (∀ x ∈ xs, (nestedKind X.prog X.w).is s.heap x.1 x.2.1) ∧ ∀ x ∈ xs, x.1.depth ≤ 8 := by
  have got := xd_get I hD
  cases d with
  | @mix kvs us h1 h2 h3 h4 h5 h6 => exact .inl ⟨kvs, hw ▸ h4 X.prog s.heap a got, rfl, rfl, h6, h5⟩
  | @nk xs us ks h1 h2 h3 h4 h5 h6 h7 h8 =>
    have his : ∀ x ∈ xs, (nestedKind X.prog X.w).is s.heap x.1 x.2.1 := by
      intro x hx
      obtain ⟨i, hi⟩ := List.mem_iff_getElem?.mp hx
      have e1 : (xs.map fun x => V.ref x.2.1)[i]? = some (.ref x.2.1) := by rw [List.getElem?_map, hi]; rfl
      obtain ⟨k, e2, hr⟩ := ka.getV e1
      have e3 : (ks.map nkD)[i]? = some (some x.1) := by rw [h7, List.getElem?_map, hi]; rfl
      rw [List.getElem?_map, e2] at e3
      exact ⟨rp_nested I hK sub hr (Option.some.inj e3) rfl, h8 x hx⟩
    exact .inr ⟨xs, hw ▸ h4 X.prog s.heap a got (by rw [← hw]; exact his), h7, rfl, h6, h5, his, h8⟩
/-- an empty dict is of both kinds -/
theorem DictOf.flip {P : Program} {w : World} {h : Heap} {a : Addr} (d : h.DictOf (mixKind P w) a []) : h.DictOfH (nestedKind P w) a [] := by
  obtain ⟨o, es, ep, ho, hc, hd, _, hp, _⟩ := d
  have := hp.length
  have e : es = #[] := by
    have : es.size = 0 := by simpa using this
    exact Array.eq_empty_of_size_eq_zero this
  subst e
  exact ⟨o, #[], ep, ho, hc, hd, rfl, (fun _ hx => nomatch hx), List.nodup_nil⟩
theorem DictOfH.flip {P : Program} {w : World} {h : Heap} {a : Addr} (d : h.DictOfH (nestedKind P w) a []) : h.DictOf (mixKind P w) a [] := by
  obtain ⟨o, es, ep, ho, hc, hd, he, _, _⟩ := d
  have e : es = #[] := by
    have : es.toList = [] := he
    cases es
    simp at this
    rw [this]
  subst e
  exact ⟨o, #[], ep, ho, hc, hd, (fun e he => by simp at he), .nil, List.nodup_nil⟩
end
theorem pairs_mix {P0 P : Program} {w : World} {es : List DictEntry} {kvs : List (Key × Value)} (h : Pairs (mixKind P0 w) es kvs) : Pairs (mixKind P w) es kvs := by
  induction h with
  | nil => exact .nil
  | cons h1 h2 _ ih => exact .cons h1 h2 ih
theorem dictOf_mix {P0 P : Program} {w : World} {h h' : Heap} {a b : Addr} {o : Obj} {kvs : List (Key × Value)} (d : h.DictOf (mixKind P0 w) a kvs) (e : h.get? a = some o) (e' : h'.get? b = some o) : h'.DictOf (mixKind P w) b kvs := by
  obtain ⟨o', es, ep, ho, hc, hd, hk, hp, hn⟩ := d
  rw [e] at ho
  cases ho
  exact ⟨o, es, ep, e', hc, hd, hk, pairs_mix hp, hn⟩
theorem mixObj_of {P0 : Program} {w : World} {h : Heap} {a : Addr} {o : Obj} {kvs : List (Key × Value)} (d : h.DictOf (mixKind P0 w) a kvs) (e : h.get? a = some o) : MixObj w o kvs := fun P h' b e' => dictOf_mix d e e'
theorem nkObj_of {P0 : Program} {w : World} {h : Heap} {a : Addr} {o : Obj} {xs : List (NestedKey × Addr × Value)} (d : h.DictOfH (nestedKind P0 w) a xs) (e : h.get? a = some o) : NkObj w o xs := fun P h' b e' his => by
  obtain ⟨o', es, ep, ho, hc, hd, he, _, hn⟩ := d
  rw [e] at ho
  cases ho
  exact ⟨o, es, ep, e', hc, hd, he, his, hn⟩
theorem vals_at {us : List V} {ws : List Value} (h : Vals us ws) : ∀ i : Nat, RelO us[i]? ws[i]? := by
  unfold Vals at h
  induction h with
  | nil => intro i; simp [RelO]
  | cons r _ ih =>
    intro i
    cases i with
    | zero => exact r
    | succ i => simpa using ih i
theorem relO_bind {us : List V} {ws : List Value} (h : Vals us ws) (o : Option Nat) : RelO (o.bind fun i => us[i]?) (o.bind fun i => ws[i]?) := by
  cases o with
  | none => exact True.intro
  | some i => exact vals_at h i
/-- what is found at a key -/
def look {α : Type} (ks : List D) (k : D) (l : List α) : Option α := (keyAt ks k).bind fun i => l[i]?
def XLook (X : Cx) (s : Shared) (a : Addr) (u : Value) (vo : Option V) : Prop :=
  (∃ kvs k0, s.heap.DictOf (mixKind X.prog X.w) a kvs ∧ RelV (kV k0) u ∧ RelO vo (valueAt kvs k0)) ∨
  ∃ xs n b, u = .ref b ∧ s.heap.DictOfH (nestedKind X.prog X.w) a xs ∧ (nestedKind X.prog X.w).is s.heap n b ∧ RelO vo ((atKey xs n).map (·.2))
theorem mix_keys {kvs : List (Key × Value)} (k0 : Key) : (kvs.map fun p => keyD p.1).map (keyEq (keyD k0)) = kvs.map fun kv => decide (kv.1 = k0) := by
  rw [List.map_map]
  apply List.map_congr_left
  intro p _
  show keyEq (keyD k0) (keyD p.1) = _
  rw [keyEq_keyD]
  by_cases e : p.1 = k0
  · rw [decide_eq_true e, decide_eq_true e.symm]
  · rw [decide_eq_false e, decide_eq_false fun z => e z.symm]
theorem nk_keys {ds : List D} {n : List NestedKey} (h : nkDs ds = some n) : ∀ {ks : List D} {xs : List (NestedKey × Addr × Value)}, ks.map nkD = xs.map (fun x => some x.1) → ks.map (keyEq (.tup ds)) = xs.map fun x => decide (x.1 = .tup n)
  | [], [], _ => rfl
  | [], _ :: _, e => by cases e
  | _ :: _, [], e => by cases e
  | k :: ks, x :: xs, e => by
    rw [List.map_cons, List.map_cons] at e
    injection e with e1 e2
    rw [List.map_cons, List.map_cons, nk_keys h e2, keyEqT h e1]
theorem valueAt_at (kvs : List (Key × Value)) (k0 : Key) : valueAt kvs k0 = (kvs.findIdx? fun kv => decide (kv.1 = k0)).bind fun i => (kvs.map (·.2))[i]? := by
  unfold valueAt
  rw [find_at]
  cases kvs.findIdx? fun kv => decide (kv.1 = k0) with
  | none => rfl
  | some i => show ((kvs[i]?).map (·.2)) = (kvs.map (·.2))[i]?; rw [List.getElem?_map]
theorem atKey_at (xs : List (NestedKey × Addr × Value)) (n : NestedKey) : (atKey xs n).map (·.2) = (xs.findIdx? fun x => decide (x.1 = n)).bind fun i => (xs.map (·.2.2))[i]? := by
  unfold atKey
  rw [find_at]
  cases xs.findIdx? fun x => decide (x.1 = n) with
  | none => rfl
  | some i => show ((xs[i]?.map (·.2)).map (·.2)) = (xs.map (·.2.2))[i]?; rw [List.getElem?_map, Option.map_map]; rfl
theorem key_notT {k : Key} : isKeyT (keyD k) = false := by cases k <;> rfl
section
variable {X : Cx} {pins : List (Addr × Obj)} {σ : L2.St} {H : Hp} {s : Shared} {c : Cfg} {G : Hp}
/-- which of the two kinds a question is of -/
theorem DcO.ask {a : Addr} {o : Obj} {ks : List D} {kv us : List V} {y : V} {k : D} (I : Inv X pins σ H s) (hK : X.K = c.K) (hw : X.w = c.w) (sub : ∀ a o, G a = some o → H a = some o) (hD : H a = some (xdO a o)) (d : DcO c.w a o ks kv us) (ka : RpAll c G kv ks) (hk : Rp c G y k) (hm : homog ks k = true) :
    (∃ (kvs : List (Key × Value)) (k0 : Key), s.heap.DictOf (mixKind X.prog X.w) a kvs ∧ ks = kvs.map (fun p => keyD p.1) ∧ kv = kvs.map (fun p => kV p.1) ∧ Vals us (kvs.map (·.2)) ∧ kvs.length ≤ sizeLine ∧ k = keyD k0 ∧ y = kV k0) ∨
    ∃ (xs : List (NestedKey × Addr × Value)) (ds : List D) (n : List NestedKey) (b : Addr), s.heap.DictOfH (nestedKind X.prog X.w) a xs ∧ ks.map nkD = xs.map (fun x => some x.1) ∧ kv = xs.map (fun x => V.ref x.2.1) ∧ Vals us (xs.map (·.2.2)) ∧ xs.length ≤ sizeLine ∧ (∀ x ∈ xs, (nestedKind X.prog X.w).is s.heap x.1 x.2.1) ∧ (∀ x ∈ xs, x.1.depth ≤ 8) ∧
      k = .tup ds ∧ y = .ref b ∧ nkDs ds = some n ∧ (NestedKey.tup n).depth ≤ 8 ∧ (nestedKind X.prog X.w).is s.heap (.tup n) b := by
  have tkey : isKeyT k = true → ∃ (ds : List D) (n : List NestedKey) (b : Addr), k = .tup ds ∧ y = .ref b ∧ nkDs ds = some n ∧ (NestedKey.tup n).depth ≤ 8 ∧ (nestedKind X.prog X.w).is s.heap (.tup n) b := by
    intro e
    obtain ⟨ds, n, rfl, e1, e2, e3⟩ := keyT_of e
    obtain ⟨b, vs, rfl, _⟩ := hk.tupE
    exact ⟨ds, n, b, rfl, rfl, e1, e3, rp_nested I hK sub hk e2 rfl, e3⟩
  unfold homog at hm
  rw [Bool.or_eq_true, Bool.and_eq_true, Bool.and_eq_true] at hm
  rcases d.real I hK hw sub hD ka with ⟨kvs, d1, e1, e2, e3, e4⟩ | ⟨xs, d1, e1, e2, e3, e4, e5, e6⟩
  · rcases hm with ⟨m1, _⟩ | ⟨m1, m2⟩
    · obtain ⟨k0, rfl, rfl⟩ := key_of hk m1
      exact .inl ⟨kvs, k0, d1, e1, e2, e3, e4, rfl, rfl⟩
    · obtain ⟨ds, n, b, rfl, rfl, q1, q2, q3⟩ := tkey m1
      cases kvs with
      | nil =>
        subst e1 e2
        exact .inr ⟨[], ds, n, b, DictOf.flip d1, rfl, rfl, e3, Nat.zero_le _, (fun _ h => nomatch h), (fun _ h => nomatch h), rfl, rfl, q1, q2, q3⟩
      | cons p r =>
        subst e1
        rw [List.map_cons, List.all_cons, key_notT] at m2
        cases m2
  · rcases hm with ⟨m1, m2⟩ | ⟨m1, _⟩
    · obtain ⟨k0, rfl, rfl⟩ := key_of hk m1
      cases xs with
      | nil =>
        have : ks = [] := by cases ks with
          | nil => rfl
          | cons _ _ => cases e1
        subst this e2
        exact .inl ⟨[], k0, DictOfH.flip d1, rfl, rfl, e3, Nat.zero_le _, rfl, rfl⟩
      | cons x r =>
        subst e2
        rw [List.map_cons] at ka
        cases ka with
        | cons h _ =>
          rw [List.all_cons, Bool.and_eq_true] at m2
          obtain ⟨k1, _, e⟩ := key_of h m2.1
          cases k1 <;> cases e
    · obtain ⟨ds, n, b, rfl, rfl, q1, q2, q3⟩ := tkey m1
      exact .inr ⟨xs, ds, n, b, d1, e1, e2, e3, e4, e5, e6, rfl, rfl, q1, q2, q3⟩
theorem xd_look {a : Addr} {o : Obj} {ks : List D} {kv us : List V} {y : V} {k : D} {u : Value} (I : Inv X pins σ H s) (hK : X.K = c.K) (hw : X.w = c.w) (sub : ∀ a o, G a = some o → H a = some o) (hD : H a = some (xdO a o)) (d : DcO c.w a o ks kv us) (ka : RpAll c G kv ks) (hk : Rp c G y k) (hm : homog ks k = true) (ry : RelV y u) :
    XLook X s a u (look ks k us) := by
  rcases d.ask I hK hw sub hD ka hk hm with ⟨kvs, k0, d1, rfl, rfl, e3, e4, rfl, rfl⟩ | ⟨xs, ds, n, b, d1, e1, rfl, e3, e4, e5, e6, rfl, rfl, q1, q2, q3⟩
  · refine .inl ⟨kvs, k0, d1, ry, ?_⟩
    rw [valueAt_at]
    unfold look keyAt
    rw [idx_map (mix_keys k0)]
    exact relO_bind e3 _
  · cases ry
    refine .inr ⟨xs, .tup n, b, rfl, d1, q3, ?_⟩
    rw [atKey_at]
    unfold look keyAt
    rw [idx_map (nk_keys q1 e1)]
    exact relO_bind e3 _
theorem hasKey_look {ks : List D} {k : D} {kv us : List V} {w : World} {a : Addr} {o : Obj} (d : DcO w a o ks kv us) : (look ks k us).isSome = hasKey ks k := by
  have hl : us.length = ks.length := by
    cases d with
    | mix _ _ _ _ _ h => rw [h.length, List.length_map, List.length_map]
    | nk _ _ _ _ _ h e _ =>
      have := congrArg List.length e
      rw [List.length_map, List.length_map] at this
      rw [h.length, List.length_map, this]
  unfold look hasKey keyAt
  rw [any_idx]
  cases e : ks.findIdx? (keyEq k) with
  | none => rfl
  | some i =>
    have hi : i < ks.length := by
      have := List.findIdx?_eq_some_iff_findIdx_eq.mp e
      exact this.1
    show (us[i]?).isSome = true
    rw [List.getElem?_eq_getElem (by omega)]
    rfl
end
section
variable {X : Cx} {pins : List (Addr × Obj)} {σ : L2.St} {H : Hp} {s : Shared} {a : Addr} {y v d : V} {u r : Value} {o : Option V} {A : Around} {E : Value → Shared → Prop}
theorem nk_room {A : Around} {P : Program} {w : World} (hu : A.units + 10 < cLine) : (nestedKind P w).room A.in1 := by
  show A.units + 1 + 8 < cLine
  omega
theorem x_getItem {Q : Value → Shared → Prop} (hu : A.units + 10 < cLine) (I : Inv X pins σ H s) (g : XLook X s a u (some v)) (h : ∀ w' s', Inv X pins σ H s' → RelV v w' → Q w' s') : wpAny (model X.prog X.w) A (getItem (.ref a) u) Q E s := by
  rcases g with ⟨kvs, k0, d1, ry, rel⟩ | ⟨xs, n, b, rfl, d1, hk, rel⟩
  · obtain ⟨w', hw, rw'⟩ := RelO.some_of (v := v) (o := valueAt kvs k0) rel
    exact wpAny_getItem_of (kV_is ry) d1.mapOf hw (h w' _ (I.tok _) rw')
  · obtain ⟨w', hw, rw'⟩ := RelO.some_of (v := v) (o := (atKey xs n).map (·.2)) rel
    obtain ⟨p, hp, hp2⟩ := Option.map_eq_some_iff.mp hw
    refine wpAny_getItem_heap (nk_room hu) hk d1 hp ?_
    rw [hp2]
    exact h w' _ (I.tok _) rw'
theorem x_in {Q : Value → Shared → Prop} (hu : A.units + 10 < cLine) (I : Inv X pins σ H s) (hd : (a == sysModules) = false) (g : XLook X s a u o) (h : ∀ s', Inv X pins σ H s' → Q (.bool o.isSome) s') : wpAny (model X.prog X.w) A (compareOp .In u (.ref a)) Q E s := by
  rcases g with ⟨kvs, k0, d1, ry, rel⟩ | ⟨xs, n, b, rfl, d1, hk, rel⟩
  · refine wpAny_in_of (kV_is ry) hd d1.mapOf ?_
    rw [← rel.isSome_eq]
    exact h _ (I.tok _)
  · refine wpAny_in_heap (nk_room hu) hk hd d1 ?_
    have q := rel.isSome_eq
    rw [Option.isSome_map] at q
    rw [← q]
    exact h _ (I.tok _)
theorem x_notIn {Q : Value → Shared → Prop} (hu : A.units + 10 < cLine) (I : Inv X pins σ H s) (hd : (a == sysModules) = false) (g : XLook X s a u o) (h : ∀ s', Inv X pins σ H s' → Q (.bool (!o.isSome)) s') : wpAny (model X.prog X.w) A (compareOp .NotIn u (.ref a)) Q E s := by
  rcases g with ⟨kvs, k0, d1, ry, rel⟩ | ⟨xs, n, b, rfl, d1, hk, rel⟩
  · refine wpAny_notIn_of (kV_is ry) hd d1.mapOf ?_
    rw [← rel.isSome_eq]
    exact h _ (I.tok _)
  · refine wpAny_notIn_heap (nk_room hu) hk hd d1 ?_
    have q := rel.isSome_eq
    rw [Option.isSome_map] at q
    rw [← q]
    exact h _ (I.tok _)
theorem x_get2 {Q : Value → Shared → Prop} (hu : A.units + 10 < cLine) (I : Inv X pins σ H s) (hd : (a == sysModules) = false) (g : XLook X s a u o) (rd : RelV d r) (h : ∀ w' s', Inv X pins σ H s' → RelV (o.getD d) w' → Q w' s') : wpAny (model X.prog X.w) A (call (.builtin "dict.get") [.ref a, u, r]) Q E s := by
  rcases g with ⟨kvs, k0, d1, ry, rel⟩ | ⟨xs, n, b, rfl, d1, hk, rel⟩
  · exact call_meetsIn PySem.F.slot_dict_get d1.typeIs PySem.F.entry_dict_get (PySem.F.args_dict_get_3 _ _ _) (meets_dict_get_default (mixKind X.prog X.w) a (kV_is ry) hd r) ⟨_, d1.mapOf, h _ _ (I.tok _) (rel.getD rd)⟩
  · exact call_meetsIn PySem.F.slot_dict_get d1.typeIs PySem.F.entry_dict_get (PySem.F.args_dict_get_3 _ _ _) (meetsH_dict_get_default (nestedKind X.prog X.w) a b hd r) ⟨nk_room hu, n, xs, hk, d1, h _ _ (I.tok _) (rel.getD rd)⟩
end
/-! ### the store -/
theorem vals_zip {kvs : List (Key × Value)} {k0 : Key} {v : V} {r : Value} (rv : RelV v r) : ∀ {us : List V}, Vals us (kvs.map (·.2)) → Vals (List.zipWith (fun k' d => if keyEq (keyD k0) k' then v else d) (kvs.map fun p => keyD p.1) us) ((kvs.map fun kv => if kv.1 = k0 then (kv.1, r) else kv).map (·.2)) := by
  induction kvs with
  | nil => intro us h; cases h; exact .nil
  | cons p kvs ih =>
    intro us h
    rw [List.map_cons] at h
    cases h with
    | cons h1 h2 =>
      simp only [List.map_cons, List.zipWith_cons_cons, keyEq_keyD]
      refine .cons ?_ (ih h2)
      by_cases e : p.1 = k0
      · rw [if_pos (by rw [e]; simp), if_pos e]
        exact rv
      · rw [if_neg (by simp; exact fun z => e z.symm), if_neg e]
        exact h1
theorem vals_zipH {ds : List D} {n : List NestedKey} (hn : nkDs ds = some n) {v : V} {r : Value} (rv : RelV v r) : ∀ {xs : List (NestedKey × Addr × Value)} {ks : List D} {us : List V}, ks.map nkD = xs.map (fun x => some x.1) → Vals us (xs.map (·.2.2)) →
    Vals (List.zipWith (fun k' d => if keyEq (.tup ds) k' then v else d) ks us) ((xs.map (putAt (.tup n) r)).map (·.2.2))
  | [], [], us, _, h => by cases h; exact .nil
  | [], _ :: _, us, e, h => by cases e
  | _ :: _, [], us, e, h => by cases e
  | x :: xs, k :: ks, us, e, h => by
    rw [List.map_cons, List.map_cons] at e
    injection e with e1 e2
    rw [List.map_cons] at h
    cases h with
    | cons h1 h2 =>
      simp only [List.map_cons, List.zipWith_cons_cons, keyEqT hn e1]
      refine .cons ?_ (vals_zipH hn rv e2 h2)
      unfold putAt
      by_cases q : x.1 = .tup n
      · rw [if_pos (decide_eq_true q), if_pos q]
        exact rv
      · rw [if_neg (by simp [q]), if_neg q]
        exact h1
theorem hasKey_mix {kvs : List (Key × Value)} {k0 : Key} : hasKey (kvs.map fun p => keyD p.1) (keyD k0) = kvs.any fun kv => decide (kv.1 = k0) := any_map2 (mix_keys k0)
theorem mix_stored {kvs : List (Key × Value)} {k0 : Key} {v : V} {r : Value} {us : List V} (rv : RelV v r) (e3 : Vals us (kvs.map (·.2))) :
    (stored kvs k0 r).map (fun p => keyD p.1) = putKs (kvs.map fun p => keyD p.1) (keyD k0) (kvs.map fun p => keyD p.1) (keyD k0) ∧
    (stored kvs k0 r).map (fun p => kV p.1) = putKs (kvs.map fun p => keyD p.1) (keyD k0) (kvs.map fun p => kV p.1) (kV k0) ∧
    Vals (putVs (kvs.map fun p => keyD p.1) (keyD k0) us v) ((stored kvs k0 r).map (·.2)) := by
  unfold stored putKs putVs
  rw [hasKey_mix]
  by_cases e : (kvs.any fun kv => decide (kv.1 = k0)) = true
  · rw [if_pos e, if_pos e, if_pos e, if_pos e]
    refine ⟨?_, ?_, vals_zip rv e3⟩
    · rw [List.map_map]
      apply List.map_congr_left
      intro p _
      show keyD (if p.1 = k0 then (p.1, r) else p).1 = _
      split <;> rfl
    · rw [List.map_map]
      apply List.map_congr_left
      intro p _
      show kV (if p.1 = k0 then (p.1, r) else p).1 = _
      split <;> rfl
  · rw [if_neg e, if_neg e, if_neg e, if_neg e]
    refine ⟨?_, ?_, ?_⟩
    · rw [List.map_append]; rfl
    · rw [List.map_append]; rfl
    · rw [List.map_append]
      exact e3.append (.cons rv .nil)
theorem hasKey_nk {ds : List D} {n : List NestedKey} {ks : List D} {xs : List (NestedKey × Addr × Value)} (hn : nkDs ds = some n) (e1 : ks.map nkD = xs.map (fun x => some x.1)) : hasKey ks (.tup ds) = (atKey xs (.tup n)).isSome := by
  have h1 : hasKey ks (.tup ds) = xs.any fun x => decide (x.1 = .tup n) := any_map2 (nk_keys hn e1)
  rw [h1, any_idx]
  unfold atKey
  rw [find_at, Option.isSome_map]
  cases e : xs.findIdx? fun x => decide (x.1 = .tup n) with
  | none => rfl
  | some i =>
    have hi := (List.findIdx?_eq_some_iff_findIdx_eq.mp e).1
    show true = (xs[i]?).isSome
    rw [List.getElem?_eq_getElem hi]
    rfl
theorem nk_stored {ds : List D} {n : List NestedKey} {ks : List D} {xs : List (NestedKey × Addr × Value)} {b : Addr} {v : V} {r : Value} {us : List V} (hn : nkDs ds = some n) (hk : nkD (.tup ds) = some (.tup n)) (hd : (NestedKey.tup n).depth ≤ 8) (e1 : ks.map nkD = xs.map (fun x => some x.1)) (rv : RelV v r) (e3 : Vals us (xs.map (·.2.2))) (e6 : ∀ x ∈ xs, x.1.depth ≤ 8) :
    (putKs ks (.tup ds) ks (.tup ds)).map nkD = (storedH xs (.tup n) b r).map (fun x => some x.1) ∧
    (storedH xs (.tup n) b r).map (fun x => V.ref x.2.1) = putKs ks (.tup ds) (xs.map fun x => V.ref x.2.1) (.ref b) ∧
    Vals (putVs ks (.tup ds) us v) ((storedH xs (.tup n) b r).map (·.2.2)) ∧ ∀ x ∈ storedH xs (.tup n) b r, x.1.depth ≤ 8 := by
  unfold storedH putKs putVs
  rw [hasKey_nk hn e1]
  by_cases e : (atKey xs (.tup n)).isSome = true
  · rw [if_pos e, if_pos e, if_pos e, if_pos e]
    refine ⟨?_, ?_, vals_zipH hn rv e1 e3, ?_⟩
    · rw [e1, List.map_map]
      apply List.map_congr_left
      intro p _
      show _ = some (putAt (.tup n) r p).1
      unfold putAt
      split <;> rfl
    · rw [List.map_map]
      apply List.map_congr_left
      intro p _
      show V.ref (putAt (.tup n) r p).2.1 = _
      unfold putAt
      split <;> rfl
    · intro x hx
      obtain ⟨p, hp, rfl⟩ := List.mem_map.mp hx
      have := e6 p hp
      unfold putAt
      split <;> exact this
  · rw [if_neg e, if_neg e, if_neg e, if_neg e]
    refine ⟨?_, ?_, ?_, ?_⟩
    · rw [List.map_append, List.map_append, e1, List.map_cons, hk]; rfl
    · rw [List.map_append]; rfl
    · rw [List.map_append]
      exact e3.append (.cons rv .nil)
    · intro x hx
      rcases List.mem_append.mp hx with hx | hx
      · exact e6 x hx
      · rw [List.mem_singleton] at hx
        subst hx
        exact hd
theorem stored_len (kvs : List (Key × Value)) (k : Key) (r : Value) : (stored kvs k r).length ≤ kvs.length + 1 := by
  unfold stored
  split
  · rw [List.length_map]; omega
  · rw [List.length_append]; exact Nat.le_refl _
theorem storedH_len (xs : List (NestedKey × Addr × Value)) (k : NestedKey) (b : Addr) (r : Value) : (storedH xs k b r).length ≤ xs.length + 1 := by
  unfold storedH
  split
  · rw [List.length_map]; omega
  · rw [List.length_append]; exact Nat.le_refl _
theorem RpAll.put {c : Cfg} {G : Hp} {ks kd : List D} {kv : List V} {k x : D} {y : V} (ka : RpAll c G kv kd) (hk : Rp c G y x) : RpAll c G (putKs ks k kv y) (putKs ks k kd x) := by
  unfold putKs
  split
  · exact ka
  · exact ka.snoc hk
section
variable {X : Cx} {pins : List (Addr × Obj)} {σ : L2.St} {H : Hp} {s : Shared} {c : Cfg} {G : Hp} {A : Around} {E : Value → Shared → Prop}
/-- what a store leaves -/
theorem xd_store {a : Addr} {o : Obj} {ks : List D} {kv us : List V} {y v : V} {k : D} {u r : Value} {m : Sem Unit} {Q : Unit → Shared → Prop} (I : Inv X pins σ H s) (hK : X.K = c.K) (hw : X.w = c.w) (sub : ∀ a o, G a = some o → H a = some o) (hD : H a = some (xdO a o)) (d : DcO c.w a o ks kv us) (ka : RpAll c G kv ks) (hk : Rp c G y k) (hm : homog ks k = true)
    (hz : ks.length < sizeLine) (ry : RelV y u) (rv : RelV v r)
    (step1 : ∀ kvs k0, RelV (kV k0) u → s.heap.DictOf (mixKind X.prog X.w) a kvs → kvs.length ≤ sizeLine → (∀ h', h'.DictOf (mixKind X.prog X.w) a (stored kvs k0 r) → Heap.SameBut a s.heap h' → ∀ t, Q () { s with heap := h', toks := t }) → wpAny (model X.prog X.w) A m Q E s)
    (step2 : ∀ xs n b, u = .ref b → (nestedKind X.prog X.w).is s.heap n b → s.heap.DictOfH (nestedKind X.prog X.w) a xs → xs.length ≤ sizeLine → (∀ h', h'.DictOfH (nestedKind X.prog X.w) a (storedH xs n b r) → Heap.SameBut a s.heap h' → ∀ t, Q () { s with heap := h', toks := t }) → wpAny (model X.prog X.w) A m Q E s)
    (q : ∀ s' o', Inv X pins σ (upd H a (xdO a o')) s' → DcO c.w a o' (putKs ks k ks k) (putKs ks k kv y) (putVs ks k us v) → Q () s') : wpAny (model X.prog X.w) A m Q E s := by
  have sys := d.sys
  rcases d.ask I hK hw sub hD ka hk hm with ⟨kvs, k0, d1, rfl, rfl, e3, e4, rfl, rfl⟩ | ⟨xs, ds, n, b, d1, e1, rfl, e3, e4, e5, e6, rfl, rfl, q1, q2, q3⟩
  · refine step1 kvs k0 ry d1 e4 fun h' dd same t => ?_
    obtain ⟨o', es, ep, ho, hc, hd, _⟩ := id dd
    have I' : Inv X pins σ (upd H a (xdO a o')) { s with heap := h', toks := t } := d_write I (by rw [hD]; exact True.intro) same ⟨o', ho⟩ (xd_ok ho)
    have mo : MixObj c.w o' (stored kvs k0 r) := hw ▸ mixObj_of dd ho
    rw [List.length_map] at hz
    have lk : (stored kvs k0 r).length ≤ sizeLine := Nat.le_trans (stored_len _ _ _) hz
    obtain ⟨f1, f2, f3⟩ := mix_stored (k0 := k0) rv e3
    have dc := DcO.mix (w := c.w) (a := a) sys hc ⟨es, ep, hd⟩ mo lk f3
    rw [f1, f2] at dc
    exact q _ o' I' dc
  · cases ry
    refine step2 xs (.tup n) b rfl q3 d1 e4 fun h' dd same t => ?_
    obtain ⟨o', es, ep, ho, hc, hd, _⟩ := id dd
    have I' : Inv X pins σ (upd H a (xdO a o')) { s with heap := h', toks := t } := d_write I (by rw [hD]; exact True.intro) same ⟨o', ho⟩ (xd_ok ho)
    have mo : NkObj c.w o' (storedH xs (.tup n) b r) := hw ▸ nkObj_of dd ho
    have hl : ks.length = xs.length := by
      have := congrArg List.length e1
      rw [List.length_map, List.length_map] at this
      exact this
    have lk : (storedH xs (.tup n) b r).length ≤ sizeLine := Nat.le_trans (storedH_len _ _ _ _) (by omega)
    have hk2 : nkD (.tup ds) = some (.tup n) := by rw [nkD, q1]
    obtain ⟨f1, f2, f3, f4⟩ := nk_stored (b := b) q1 hk2 q2 e1 rv e3 e6
    have dc := DcO.nk (w := c.w) (a := a) sys hc ⟨es, ep, hd⟩ mo lk f3 f1 f4
    rw [f2] at dc
    exact q _ o' I' dc
theorem x_setItem {a : Addr} {o : Obj} {ks : List D} {kv us : List V} {y v : V} {k : D} {u r : Value} {Q : Unit → Shared → Prop} (hu : A.units + 10 < cLine) (I : Inv X pins σ H s) (hK : X.K = c.K) (hw : X.w = c.w) (sub : ∀ a o, G a = some o → H a = some o) (hD : H a = some (xdO a o)) (d : DcO c.w a o ks kv us) (ka : RpAll c G kv ks) (hk : Rp c G y k) (hm : homog ks k = true)
    (hz : ks.length < sizeLine) (ry : RelV y u) (rv : RelV v r) (q : ∀ s' o', Inv X pins σ (upd H a (xdO a o')) s' → DcO c.w a o' (putKs ks k ks k) (putKs ks k kv y) (putVs ks k us v) → Q () s') :
    wpAny (model X.prog X.w) A (setItem (.ref a) u r) Q E s :=
  xd_store I hK hw sub hD d ka hk hm hz ry rv (fun kvs k0 r0 dd hl f => wpAny_setItem_pairs (hsz := hl) (kV_is r0) dd fun h' d' sm => f h' d' sm _)
    (fun xs n b e hk dd hl f => by subst e; exact wpAny_setItem_heap (hsz := hl) (nk_room hu) hk dd fun h' d' sm => f h' d' sm _) q
theorem nk_room0 {A : Around} {P : Program} {w : World} (hu : A.units + 10 < cLine) : (nestedKind P w).room A := by
  show A.units + 8 < cLine
  omega
theorem x_dictSet {a : Addr} {o : Obj} {ks : List D} {kv us : List V} {y v : V} {k : D} {u r : Value} {Q : Unit → Shared → Prop} (hu : A.units + 10 < cLine) (I : Inv X pins σ H s) (hK : X.K = c.K) (hw : X.w = c.w) (sub : ∀ a o, G a = some o → H a = some o) (hD : H a = some (xdO a o)) (d : DcO c.w a o ks kv us) (ka : RpAll c G kv ks) (hk : Rp c G y k) (hm : homog ks k = true)
    (hz : ks.length < sizeLine) (ry : RelV y u) (rv : RelV v r) (q : ∀ s' o', Inv X pins σ (upd H a (xdO a o')) s' → DcO c.w a o' (putKs ks k ks k) (putKs ks k kv y) (putVs ks k us v) → Q () s') :
    wpAny (model X.prog X.w) A (dictSet a u r) Q E s :=
  xd_store I hK hw sub hD d ka hk hm hz ry rv (fun kvs k0 r0 dd hl f => wpAny_dictSet_pairs (hsz := hl) (kV_is r0) dd fun h' d' sm => f h' d' sm _)
    (fun xs n b e hk dd hl f => by subst e; exact wpAny_dictSet_heap (hsz := hl) (nk_room0 hu) hk dd fun h' d' sm => f h' d' sm _) q
/-- a new dict -/
theorem DcO.new {w : World} {h : Heap} (hb : sysModules < h.objs.size) : DcO w h.objs.size { cls := .type "dict", data := .dict #[] } [] [] [] :=
  .mix (kvs := []) (beq_eq_false_iff_ne.mpr (Ne.symm (Nat.ne_of_lt hb))) ⟨rfl, rfl, rfl⟩ ⟨#[], 0, rfl⟩ (fun P h' b e => ⟨_, #[], 0, e, ⟨rfl, rfl, rfl⟩, rfl, (fun e he => by simp at he), .nil, List.nodup_nil⟩) (Nat.zero_le _) .nil
theorem pairs_keys {P : Program} {w : World} {l : List DictEntry} {kvs : List (Key × Value)} (hp : Pairs (mixKind P w) l kvs) : Vals (kvs.map fun p => kV p.1) (l.map (·.key)) := by
  induction hp with
  | nil => exact .nil
  | cons h1 h2 _ ih =>
    rw [List.map_cons, List.map_cons]
    exact .cons (relV_key (show keyIs _ _ = true from h1)) ih
theorem pairs_vals {P : Program} {w : World} {l : List DictEntry} {kvs : List (Key × Value)} (hp : Pairs (mixKind P w) l kvs) : l.map (·.val) = kvs.map (·.2) := by
  induction hp with
  | nil => rfl
  | cons h1 h2 _ ih => rw [List.map_cons, List.map_cons, h2, ih]
theorem vals_refs : ∀ xs : List (NestedKey × Addr × Value), Vals (xs.map fun x => V.ref x.2.1) (xs.map fun x => Value.ref x.2.1)
  | [] => .nil
  | x :: xs => by
    rw [List.map_cons, List.map_cons]
    exact .cons rfl (vals_refs xs)
/-- its entries -/
theorem DcO.raw {a : Addr} {o : Obj} {ks : List D} {kv us : List V} (I : Inv X pins σ H s) (hK : X.K = c.K) (hw : X.w = c.w) (sub : ∀ a o, G a = some o → H a = some o) (hD : H a = some (xdO a o)) (d : DcO c.w a o ks kv us) (ka : RpAll c G kv ks) :
    ∃ es ep, o.data = .dict es ep ∧ s.heap.DictRaw a es ep ∧ Vals kv (es.toList.map (·.key)) ∧ Vals us (es.toList.map (·.val)) ∧ es.size = ks.length := by
  have got := xd_get I hD
  rcases d.real I hK hw sub hD ka with ⟨kvs, ⟨o', es, ep, ho, hc, hd, hk, hp, hn⟩, rfl, rfl, e3, e4⟩ | ⟨xs, ⟨o', es, ep, ho, hc, hd, he, his, hn⟩, e1, rfl, e3, e4, e5, e6⟩
  · rw [got] at ho
    cases ho
    refine ⟨es, ep, hd, ⟨o, got, hc, hd⟩, pairs_keys hp, by rw [pairs_vals hp]; exact e3, ?_⟩
    · have := hp.length
      rw [Array.length_toList] at this
      rw [List.length_map]
      exact this
  · rw [got] at ho
    cases ho
    refine ⟨es, ep, hd, ⟨o, got, hc, hd⟩, by rw [he, List.map_map]; exact vals_refs xs, by rw [he, List.map_map]; exact e3, ?_⟩
    · have h1 := congrArg List.length e1
      have h2 := congrArg List.length he
      rw [List.length_map, List.length_map] at h1
      rw [List.length_map, Array.length_toList] at h2
      omega
end
end Fx
/-! dicts as data: comprehensions, reads, stores -/
namespace Fx
open PySem PySem.Spec PyProof.Rows L2
open C8 (Cal Mak pe_c pe_mk)
theorem valV_no : ∀ {kvs : List (Key × V)} {k : Key}, (kvs.map fun p => keyD p.1).any (keyEq (keyD k)) = false → valV kvs k = none
  | [], _, _ => rfl
  | p :: r, k, e => by
    rw [List.map_cons, List.any_cons, Bool.or_eq_false_iff, keyEq_keyD] at e
    have h : p.1 ≠ k := fun z => by simp [z] at e
    have := valV_no e.2
    unfold valV at this ⊢
    rw [List.find?_cons]
    simp [h, this]
theorem valV_at {c : Cfg} {G : Hp} : ∀ {kvs : List (Key × V)} {ds : List D} {k : Key} {i : Nat} {x : D}, RpAll c G (kvs.map (·.2)) ds → keyAt (kvs.map fun p => keyD p.1) (keyD k) = some i → ds[i]? = some x → ∃ v, valV kvs k = some v ∧ Rp c G v x
  | [], _, _, _, _, _, e, _ => by simp [keyAt] at e
  | p :: r, ds, k, i, x, ka, e, ex => by
    cases ka with
    | cons h ka =>
      rename_i d ds
      unfold keyAt at e
      rw [List.map_cons, List.findIdx?_cons] at e
      by_cases hk : keyEq (keyD k) (keyD p.1) = true
      · rw [hk] at e
        simp at e
        subst e
        rw [keyEq_keyD, decide_eq_true_eq] at hk
        simp at ex
        subst ex
        refine ⟨p.2, ?_, h⟩
        unfold valV
        rw [List.find?_cons]
        simp [hk]
      · have hk' : keyEq (keyD k) (keyD p.1) = false := by simpa using hk
        rw [hk'] at e
        simp at e
        obtain ⟨j, ej, rfl⟩ := e
        have hne : p.1 ≠ k := fun z => by
          rw [z, keyEq_keyD] at hk
          simp at hk
        obtain ⟨v, e1, e2⟩ := valV_at (k := k) (i := j) ka (by unfold keyAt; rw [List.findIdx?_map]; exact ej) (by simpa using ex)
        refine ⟨v, ?_, e2⟩
        unfold valV at e1 ⊢
        rw [List.find?_cons]
        simp only [hne, decide_false]
        exact e1
theorem RpAll.zip {c : Cfg} {G : Hp} {k x : D} {v : V} (hv : Rp c G v x) : ∀ {ks : List D} {us : List V} {ds : List D}, RpAll c G us ds → RpAll c G (List.zipWith (fun k' d => if keyEq k k' then v else d) ks us) (List.zipWith (fun k' d => if keyEq k k' then x else d) ks ds)
  | [], _, _, _ => by rw [List.zipWith_nil_left, List.zipWith_nil_left]; exact .nil
  | _ :: _, _, _, .nil => by rw [List.zipWith_nil_right, List.zipWith_nil_right]; exact .nil
  | k' :: ks, _, _, .cons h r => by
    rw [List.zipWith_cons_cons, List.zipWith_cons_cons]
    refine .cons ?_ (RpAll.zip hv r)
    split
    · exact hv
    · exact h
theorem RpAll.putV {c : Cfg} {G : Hp} {ks ds : List D} {us : List V} {k x : D} {v : V} (ka : RpAll c G us ds) (hv : Rp c G v x) : RpAll c G (putVs ks k us v) (putVs ks k ds x) := by
  unfold putVs
  split
  · exact ka.zip hv
  · exact ka.snoc hv
/-! ### readings -/
def LookX (c : Cfg) (H : Hp) (a : Addr) (y : V) (vo : Option V) : Prop := ∃ (o : Obj) (ks : List D) (kv us : List V) (k : D) (G : Hp), H a = some (xdO a o) ∧ DcO c.w a o ks kv us ∧ (∀ a o, G a = some o → H a = some o) ∧ RpAll c G kv ks ∧ Rp c G y k ∧ homog ks k = true ∧ vo = look ks k us
def PutX (c : Cfg) (H : Hp) (a : Addr) (y v : V) (Nx : Hp → Prop) : Prop := ∃ (o : Obj) (ks : List D) (kv us : List V) (k : D) (G : Hp), H a = some (xdO a o) ∧ DcO c.w a o ks kv us ∧ (∀ a o, G a = some o → H a = some o) ∧ RpAll c G kv ks ∧ Rp c G y k ∧ homog ks k = true ∧ ks.length < sizeLine ∧
  ∀ o', DcO c.w a o' (putKs ks k ks k) (putKs ks k kv y) (putVs ks k us v) → Nx (upd H a (xdO a o'))
def IsX (c : Cfg) (H : Hp) (a : Addr) : Prop := ∃ (o : Obj) (ks : List D) (kv us : List V), H a = some (xdO a o) ∧ DcO c.w a o ks kv us
section
variable {X : Cx} {pins : List (Addr × Obj)} {σ : L2.St} {H : Hp} {s : Shared} {c : Cfg} {a : Addr} {y : V} {u : Value} {vo : Option V}
theorem LookX.isX (h : LookX c H a y vo) : IsX c H a := let ⟨o, ks, kv, us, _, _, h1, h2, _⟩ := h; ⟨o, ks, kv, us, h1, h2⟩
theorem LookX.x (I : Inv X pins σ H s) (hK : X.K = c.K) (hw : X.w = c.w) (ry : RelV y u) (h : LookX c H a y vo) : XLook X s a u vo := by
  obtain ⟨o, ks, kv, us, k, G, h1, h2, h3, h4, h5, h6, rfl⟩ := h
  exact xd_look I hK hw h3 h1 h2 h4 h5 h6 ry
theorem IsX.at_ (I : Inv X pins σ H s) (h : IsX c H a) : s.TypeIs (.ref a) "dict" ∧ (∀ b, Value.ref a = .ref b → ∃ ob, s.heap.get? b = some ob ∧ ob.dict = none) ∧ (a == sysModules) = false := by
  obtain ⟨o, ks, kv, us, h1, h2⟩ := h
  have got := xd_get I h1
  refine ⟨⟨o, got, h2.exact.1⟩, fun b e => ?_, h2.sys⟩
  cases e
  exact ⟨o, got, h2.exact.2.1⟩
end
/-- .. of a dict told by its keys and values alone -/
def LookK (H : Hp) (a : Addr) (y : V) (vo : Option V) : Prop := ∃ kvs k, H a = some (.dK kvs) ∧ y = kV k ∧ vo = valV kvs k
def LookE (c : Cfg) (H : Hp) (a : Addr) (y : V) (vo : Option V) : Prop := H a = some (.dK []) ∧ (∃ (G : Hp) (k : D), (∀ a o, G a = some o → H a = some o) ∧ Rp c G y k ∧ isKeyT k = true) ∧ vo = none
def LookA (c : Cfg) (H : Hp) (a : Addr) (y : V) (vo : Option V) : Prop := LookX c H a y vo ∨ LookK H a y vo ∨ LookE c H a y vo
def IsA (c : Cfg) (H : Hp) (a : Addr) : Prop := IsX c H a ∨ ∃ kvs, H a = some (.dK kvs)
section
variable {X : Cx} {pins : List (Addr × Obj)} {σ : L2.St} {H : Hp} {s : Shared} {c : Cfg} {a : Addr} {y : V} {u : Value} {vo : Option V}
theorem LookA.isA (h : LookA c H a y vo) : IsA c H a := by
  rcases h with h | ⟨kvs, k, h, _⟩ | ⟨h, _⟩
  · exact .inl h.isX
  · exact .inr ⟨_, h⟩
  · exact .inr ⟨_, h⟩
theorem IsA.at_ (I : Inv X pins σ H s) (h : IsA c H a) : s.TypeIs (.ref a) "dict" ∧ (∀ b, Value.ref a = .ref b → ∃ ob, s.heap.get? b = some ob ∧ ob.dict = none) ∧ (a == sysModules) = false := by
  rcases h with h | ⟨kvs, h⟩
  · exact h.at_ I
  · exact isD_at I (.inl ⟨kvs, .inl h⟩)
theorem LookA.x (I : Inv X pins σ H s) (hK : X.K = c.K) (hw : X.w = c.w) (ry : RelV y u) (h : LookA c H a y vo) : XLook X s a u vo := by
  rcases h with h | ⟨kvs, k, h, rfl, rfl⟩ | ⟨h, ⟨G, k, sub, hk, ht⟩, rfl⟩
  · exact h.x I hK hw ry
  · obtain ⟨z, hd, vs, rel, dd⟩ := dk_of I.hok h
    exact .inl ⟨vs, k, dd, ry, rel.val k⟩
  · obtain ⟨z, hd, vs, rel, dd⟩ := dk_of I.hok h
    cases rel
    obtain ⟨ds, n, rfl, e1, e2, e3⟩ := keyT_of ht
    obtain ⟨b, vs, rfl, _⟩ := hk.tupE
    cases ry
    exact .inr ⟨[], .tup n, b, rfl, DictOf.flip dd, ⟨rp_nested I hK sub hk e2 rfl, e3⟩, True.intro⟩
end
def rInX (c : Cfg) (neg : Bool) : R2 := fun y x H Q => ∃ a o, x = .ref a ∧ LookA c H a y o ∧ Q (.bl (if neg then !o.isSome else o.isSome)) H
def tGet2X (c : Cfg) (td ty tx : TE) : TE := fun σ H Q => td σ H fun x H1 => ∃ a, x = .ref a ∧ IsA c H1 a ∧ ty σ H1 fun y H2 => tx σ H2 fun z H3 => ∃ o, LookA c H3 a y o ∧ Q (o.getD z) H3
def rSetX (c : Cfg) : TSet := fun o i v H Q => ∃ p, o = .ref p ∧ PutX c H p i v Q
def tDNewX (c : Cfg) : TE := fun _ H Q => ∀ p o, H p = none → DcO c.w p o [] [] [] → Q (.ref p) (upd H p (xdO p o))
section
variable {X : Cx} {c : Cfg} {o i e f value : Expr} {pos pos' apos cpos : Pos} {td ty tv tx : TE}
/-- d[y] by values -/
def rGetX (c : Cfg) : R2 := fun x y H Q => ∃ a v, x = .ref a ∧ LookA c H a y (some v) ∧ Q v H
theorem ix_X (hK : X.K = c.K) (hw : X.w = c.w) (hu : X.A.units + 10 < cLine) : IxR X (rGetX c) := by
  intro ve se pins st σ H x y xv yv Q I rx ry ⟨a, v, ex, look, fin⟩ plain
  subst ex
  cases rx
  have ty := (look.isA.at_ I).1
  unfold subscriptTail
  refine wpAny_bind ?_
  rw [getitemInPython_of_ne ty.not_modules]
  refine wpAny_bind (wpAny_specialOf ty PySem.F.slot_dict_getitem.lookup ?_)
  have got := x_getItem (E := X.xe) (Q := EP X pins σ Q) hu I (look.x I hK hw ry) fun w' s' I' rw' => ⟨v, H, I', rw', fin⟩
  first
    | exact wpAny_pure (wpAny_bind (by rw [plain]; exact wpAny_operating (wpAny_mono got (fun _ _ h => wpAny_bind (wpAny_letTemporaryGo (wpAny_pure h))) fun _ _ h => h)))
    | exact wpAny_bind (wpAny_pure (wpAny_bind (by rw [plain]; exact wpAny_operating (wpAny_mono got (fun _ _ h => wpAny_bind (wpAny_letTemporaryGo (wpAny_pure h))) fun _ _ h => h))))
    | exact wpAny_bind (by rw [plain]; exact wpAny_operating (wpAny_mono got (fun _ _ h => wpAny_bind (wpAny_letTemporaryGo (wpAny_pure h))) fun _ _ h => h))
theorem op_inX (hK : X.K = c.K) (hw : X.w = c.w) (hu : X.A.units + 10 < cLine) : OpR X (compareOp .In) (rInX c false) := by
  rintro pins st σ H y x yv xv Q I ry rx ⟨a, vo, ex, look, fin⟩
  subst ex
  cases rx
  exact x_in hu I (look.isA.at_ I).2.2 (look.x I hK hw ry) fun s' I' => ⟨.bl vo.isSome, H, I', rfl, fin⟩
theorem op_ninX (hK : X.K = c.K) (hw : X.w = c.w) (hu : X.A.units + 10 < cLine) : OpR X (compareOp .NotIn) (rInX c true) := by
  rintro pins st σ H y x yv xv Q I ry rx ⟨a, vo, ex, look, fin⟩
  subst ex
  cases rx
  exact x_notIn hu I (look.isA.at_ I).2.2 (look.x I hK hw ry) fun s' I' => ⟨.bl (!vo.isSome), H, I', rfl, fin⟩
/-- a method of a dict: the receiver first, then the arguments -/
theorem call_ofX {pins : List (Addr × Obj)} {σ : L2.St} {H : Hp} {s : Shared} {name : Str} {id : String} {args : List Expr} {Q : VK} {R : Addr → Hp → Prop} (base : attributeBase o name X.env (eval o X.env) = eval o X.env)
    (few : ((backTo cpos (starEach args X.env)).all (fun x => !x.1) && (backToKw cpos (keywordEach [] X.env)).all (fun x => x.1.isSome) && decide (args.length + ([] : List Keyword).length + (if ([] : List Keyword).isEmpty then 0 else 1) < 30)) = true) (line : (apos.endLine == cpos.line) = true)
    (slot : Slot "dict" name id) (hty : typeOf (.builtin id) = pure (.type "method_descriptor")) (ho : PE X o td) (I : Inv X pins σ H s) (h : td σ H fun x H1 => ∃ a, x = .ref a ∧ IsA c H1 a ∧ R a H1)
    (q : ∀ a H1 s1, Inv X pins σ H1 s1 → R a H1 → (a == sysModules) = false → wpAny (model X.prog X.w) X.A (callWith cpos (.builtin id) [.ref a] (backTo cpos (starEach args X.env)) []) (EP X pins σ Q) X.xe s1) :
    wpAny (model X.prog X.w) X.A (eval (.Call (.Attribute o name apos) args [] cpos) X.env) (EP X pins σ Q) X.xe s :=
  wpAny_Call_method base few line PySem.F.plainAttrs_dict slot hty (thn (ho.run pins s σ H _ I h) fun w s1 ⟨x, H1, I1, rx, a, ex, ia, rest⟩ => by
    subst ex
    cases rx
    have at_ := ia.at_ I1
    exact ⟨at_.1, at_.2.1, q a H1 s1 I1 rest at_.2.2⟩)
theorem pe_get2X (hK : X.K = c.K) (hw : X.w = c.w) (hu : X.A.units + 10 < cLine) (ho : PE X o td) (he : PE X e ty) (hf : PE X f tx) (m : M2 X o "get" apos e f cpos) : PE X (.Call (.Attribute o "get" apos) [e, f] [] cpos) (tGet2X c td ty tx) :=
  ⟨fun pins s σ H Q I h => call_ofX (c := c) m.base m.few m.line PySem.F.slot_dict_get PySem.F.type_dict_get ho I h fun a H1 s1 I1 key low => by
    rw [m.trees]
    refine Calls.callWith_builtin rfl (Calls.evalArgs_plain (Calls.spliced_cons (thn (he.run pins s1 σ H1 _ I1 key) fun yv s2 ⟨y, H2, I2, ry, more⟩ => Calls.spliced_cons (thn (hf.run pins s2 σ H2 _ I2 more) fun zv s3 ⟨z, H3, I3, rz, vo, look, fin⟩ => Calls.spliced_nil ?_))))
    exact x_get2 hu I3 low (look.x I3 hK hw ry) rz fun w' s' I' rw' => ⟨_, H3, I', rw', fin⟩⟩
theorem set_X (hK : X.K = c.K) (hw : X.w = c.w) (hu : X.A.units + 10 < cLine) : PSet X (rSetX c) := by
  rintro pins st σ H x y v xv yv zv Q I rx ry rz ⟨p, ex, ob, ks, kv, us, k, G, p1, p2, p3, p4, p5, p6, p7, fin⟩
  subst ex
  cases rx
  exact x_setItem hu I hK hw p3 p1 p2 p4 p5 p6 p7 ry rz fun s' o' I' d => ⟨_, I', fin o' d⟩
theorem pe_dnewX (hw : X.w = c.w) : PE X (.Dict [] [] pos) (tDNewX c) := ⟨fun pins s σ H Q I h => by
  have made := I.laid (a := s.heap.objs.size) (o := xdO s.heap.objs.size { cls := .type "dict", data := .dict #[] }) (t' := s.toks) (fun _ _ e => Heap.get?_push_of_some _ e) (Nat.le_refl _) (xd_ok (Heap.get?_push_size _ rfl))
  exact wpAny_Dict_empty ⟨.ref s.heap.objs.size, _, made, rfl, h _ _ (I.hok.fresh (Nat.le_refl _)) (DcO.new I.big)⟩⟩
end
section
variable {X : Cx} {c : Cfg}
/-- {k: v for target in iter if ..}: dd the new dict -/
def tDcX (c : Cfg) (wi : TI) (g : TG) (tt : TT) (tk tv : TE) (vs : List Nat) : TE := fun σ H Q => wi σ H fun J H1 => ∀ dd o0, H1 dd = none → DcO c.w dd o0 [] [] [] → ∃ W : Nat → Nat → Hp → Prop, (∃ m, W 0 m (upd H1 dd (xdO dd o0))) ∧ ∀ i m H, W i m H →
  (J.stop i H ∧ Q (.ref dd) H) ∨ (J.go i H ∧ ∃ Nx : Hp → Prop, (∀ H', Nx H' → ∃ m', m' < m ∧ W (i + 1) m' H') ∧ ∀ x H', J.yld i H x H' → g x (L2.wipe σ vs) H' fun σ2 H2 => L2.wipe σ2 vs = L2.wipe σ vs ∧ tt σ2 H2 fun b H3 =>
    if b = true then tk σ2 H3 fun y H4 => tv σ2 H4 fun z H5 => PutX c H5 dd y z Nx else Nx H3)
/-- what holds ahead of each turn -/
def AtTurn (Y : Cx) (σ0 : L2.St) (fp : List Addr) (tn : Nat → Heap → Prop) (W : Nat → Nat → Hp → Prop) (n : Nat) (s : Shared) : Prop := ∃ i H, Inv Y [] σ0 H s ∧ tn i s.heap ∧ (∀ b ∈ fp, H b = none) ∧ W i n H
/-- the loop of a dict's comprehension, in its own block Y -/
theorem loopX {Y : Cx} (hK : Y.K = c.K) (hw : Y.w = c.w) (hu : Y.A.units + 10 < cLine) (calm : Y.calm = true) (hE : Y.xe = fun _ _ => False) {σ0 : L2.St} {vs : List Nat} {fp : List Addr} {it dd : Addr} {tn : Nat → Heap → Prop} {J : It} {W : Nat → Nat → Hp → Prop} {Qd : Hp → Prop} {R : Result → Shared → Prop}
    {kx vx tg iter : Expr} {ifs : List Expr} {scope : Scope} {pos : Pos} {g : TG} {tt : TT} {tk tv : TE} (T : Turn Y.prog Y.w Y.K tg J fp it tn) (mine : ∀ {σ H s}, Inv Y [] σ H s → (∀ b ∈ fp, H b = none) → ∀ b ∈ fp, FpOk Y [] H b)
    (pg : PG Y tg g) (pt : PTs Y ifs tt) (pk : PE Y kx tk) (pv : PE Y vx tv)
    (turn : ∀ i m H, W i m H → (J.stop i H ∧ Qd H) ∨ (J.go i H ∧ ∃ Nx : Hp → Prop, (∀ H', Nx H' → ∃ m', m' < m ∧ W (i + 1) m' H') ∧ ∀ x H', J.yld i H x H' → g x σ0 H' fun σ2 H2 => L2.wipe σ2 vs = σ0 ∧ tt σ2 H2 fun b H3 =>
      if b = true then tk σ2 H3 fun y H4 => tv σ2 H4 fun z H5 => PutX c H5 dd y z Nx else Nx H3))
    (ends : ∀ H s, Inv Y [] σ0 H s → Qd H → R (.ok .next) s) {n : Nat} {s : Shared} (start : AtTurn Y σ0 fp tn W n s) : codeAny (model Y.prog Y.w) Y.A (.compLoop (.DictComp kx vx [⟨tg, iter, ifs, 0⟩] scope pos) 0 (.ref it) (.ref dd) Y.env) R s := by
  refine compLoop_anyD (AtTurn Y σ0 fp tn W) (fun n s ⟨i, H, inv, at_, free, w⟩ => ?_) n start
  have ok := mine inv free
  have back : ∀ {P : Shared → Prop} {α : Type} {m : Sem α} {Q' : α → Shared → Prop} {E' : Value → Shared → Prop} {s' : Shared}, wpAny (model Y.prog Y.w) Y.A m Q' Y.xe s' → wpAny (model Y.prog Y.w) Y.A m Q' E' s' := fun {P α m Q' E' s'} h =>
    wpAny_mono h (fun _ _ z => z) fun _ _ z => by rw [hE] at z; exact z.elim
  rcases turn i n H w with ⟨stop, fin⟩ | ⟨go, Nx, less, step⟩
  · exact wpAny_mono (T.done Y rfl rfl rfl calm i [] s σ0 H (fun _ _ => False) inv ok at_ stop) (fun r s1 ⟨er, inv1⟩ => by subst er; exact ends H s1 inv1 fin) fun _ _ z => z.elim
  · refine wpAny_mono (T.item Y rfl rfl rfl calm i [] s σ0 H (fun _ _ => False) inv ok at_ go) (fun r s1 ⟨u, er, h1⟩ => ?_) fun _ _ z => z.elim
    subst er
    refine wpAny_mono h1 (fun _ s2 ⟨x, H2, inv2, rx, came, at2, free2⟩ => ?_) fun _ _ z => z.elim
    have locked := inv2.pinned (mine inv2 free2) (T.obj _ _ at2)
    have again : ∀ {σ3 : L2.St} {H3 : Hp} {s3 : Shared}, L2.wipe σ3 vs = σ0 → Inv Y ([] ++ pinsAt fp s2.heap) σ3 H3 s3 → Nx H3 → ∃ m, m < n ∧ AtTurn Y σ0 fp tn W m s3 := fun {σ3 H3 s3} eσ inv3 nx => by
      obtain ⟨m, lt, w3⟩ := less H3 nx
      have stays : ∀ b ∈ fp, ∀ ob, s2.heap.get? b = some ob → s3.heap.get? b = some ob ∧ H3 b = none := fun b hb ob e => by
        have pin := inv3.pin (b, ob) (List.mem_append_right _ (List.mem_append_right _ (mem_pinsAt hb e)))
        exact ⟨pin.1, pin.2.1⟩
      have short := (inv3.unpinned (pins := [])).weak (σ' := σ0) (by rw [← eσ, wipe_length]) fun j v e => (wipe_some (eσ.symm ▸ e)).1
      refine ⟨m, lt, i + 1, H3, short, T.keep _ _ _ at2 fun b hb ob e => (stays b hb ob e).1, fun b hb => ?_, w3⟩
      obtain ⟨ob, e, _⟩ := T.obj _ _ at2 b hb
      exact (stays b hb ob e).2
    refine back (P := fun _ => True) (wpAny_mono (pg.run _ s2 _ H2 x u _ locked rx (step x H2 came)) (fun _ s3 ⟨σ3, H3, inv3, eσ, q3⟩ => ?_) fun _ _ z => z)
    refine back (P := fun _ => True) (wpAny_mono (pt.run _ s3 σ3 H3 _ inv3 q3) (fun b s4 ⟨H4, inv4, q4⟩ => ?_) fun _ _ z => z)
    cases b with
    | false => exact again eσ inv4 q4
    | true =>
      refine back (P := fun _ => True) (wpAny_mono (pk.run _ s4 σ3 H4 _ inv4 q4) (fun yv s5 ⟨y, H5, inv5, ry, q5⟩ => ?_) fun _ _ z => z)
      refine back (P := fun _ => True) (wpAny_mono (pv.run _ s5 σ3 H5 _ inv5 q5) (fun zv s6 ⟨z, H6, inv6, rz, ob, ks, kv, us, k, G, p1, p2, p3, p4, p5, p6, p7, nx⟩ => ?_) fun _ _ z => z)
      exact x_dictSet (X := Y) hu inv6 hK hw p3 p1 p2 p4 p5 p6 p7 ry rz fun s7 o' inv7 d => again eσ inv7 (nx o' d)
/-- an address that is free in the def's context -/
theorem fpOk_free {X : Cx} {pins : List (Addr × Obj)} {H : Hp} {b : Addr} (h : FpOk X pins H b) : (b ∈ X.ex ∨ X.s_0.heap.objs.size ≤ b) ∧ b ≠ X.env.locals ∧ (∀ x c, X.env.cells.lookup x = some c → c ≠ b) ∧ ∀ p ∈ X.pn ++ pins, p.1 ≠ b := by
  obtain ⟨_, a, _, b', c', d⟩ := h
  exact ⟨b', a, c', d⟩
theorem dcx_core (hK : X.K = c.K) (hw : X.w = c.w) (hu : X.A.units + 10 < cLine) {pins : List (Addr × Obj)} {s : Shared} {σ : L2.St} {H : Hp} {Q : VK} {kx vx tg iter : Expr} {ifs : List Expr} {scope : Scope} {own : List (Str × Nat)} {pos pos' : Pos} {wi : TI} {g : TG} {tt : TT} {tk tv : TE} {use : Option (Value → Sem Unit)} {Qf : Value → Shared → Prop}
    (calm : X.calm = true) (nd : X.N.Nodup) (I : Inv X pins σ H s) (hi : PI X tg iter wi) (blk : BlkOk X.N X.env.scope scope own)
    (pg : ∀ (s : Shared) (H : Hp) (C : Addr) (cl : List (Str × Addr)) (fp : List Addr), PG (X.blk s H scope (compEnvC scope cl C X.env) fp) tg g) (pt : ∀ (s : Shared) (H : Hp) (C : Addr) (cl : List (Str × Addr)) (fp : List Addr), PTs (X.blk s H scope (compEnvC scope cl C X.env) fp) ifs tt)
    (pk : ∀ (s : Shared) (H : Hp) (C : Addr) (cl : List (Str × Addr)) (fp : List Addr), PE (X.blk s H scope (compEnvC scope cl C X.env) fp) kx tk) (pv : ∀ (s : Shared) (H : Hp) (C : Addr) (cl : List (Str × Addr)) (fp : List Addr), PE (X.blk s H scope (compEnvC scope cl C X.env) fp) vx tv)
    (plain : ∀ x, foldedSetIterable iter X.env x = pure x) (h : tDcX c wi g tt tk tv (own.map (·.2)) σ H Q)
    (leave : ∀ D C s' m H', Inv X pins σ H' s' → Q (.ref D) H' → s'.heap.Ns C m → FpOk X pins H' C → compPost (model X.prog X.w) X.A X.xe use Qf (.ref D) C (.ok .next) s') :
    wpAny (model X.prog X.w) X.A (comprehension (.DictComp kx vx [⟨tg, iter, ifs, 0⟩] scope pos) scope X.env pos' newDict false (eval iter X.env) use) Qf X.xe s := by
  have free : ∀ y ∈ scope.names, y.2 = .free → ∃ c, X.env.cells.lookup y.1 = some c := fun y hy e => (blk.free y hy e).elim (fun k => I.ok.has _ (.inl k)) fun k => I.ok.has _ (.inr k)
  refine wpAny_comprehension_free (use := use) rfl plain (closure_ok free) blk.kind (fun y hy e => e ▸ blk.uniq y hy) (thn (hi.run pins s σ H _ I h) fun xv s1 come => thn come fun iv s2 h2 => ?_)
  obtain ⟨it, fp, tn, J, H2, ev, I2, T, at2, mine2, rest⟩ := h2
  subst ev
  refine wpAny_newObj_type (newEnv_comp ?_)
  -- the new dict at D, tracked
  obtain ⟨D, eD⟩ : ∃ D, D = s2.heap.objs.size := ⟨_, rfl⟩
  rw [← eD]
  have dc : DcO c.w D { cls := .type "dict", data := .dict #[] } [] [] [] := eD ▸ DcO.new I2.big
  obtain ⟨o0, eo⟩ : ∃ o0 : Obj, o0 = { cls := .type "dict", data := .dict #[] } := ⟨_, rfl⟩
  rw [← eo] at dc
  have noD : H2 D = none := I2.hok.fresh (Nat.le_of_eq eD.symm)
  obtain ⟨W, ⟨n0, w0⟩, turn⟩ := rest D o0 noD dc
  obtain ⟨s3, e3⟩ : ∃ s3 : Shared, s3 = { s2 with heap := s2.heap.push { cls := .type "dict", data := .dict #[] } } := ⟨_, rfl⟩
  have I3 : Inv X pins σ (upd H2 D (xdO D o0)) s3 := by
    rw [e3]
    exact I2.laid (t' := s2.toks) (fun _ _ e => Heap.get?_push_of_some _ e) (Nat.le_of_eq eD.symm) (by rw [eo, eD]; exact xd_ok (Heap.get?_push_size _ rfl))
  have kept3 : ∀ b ob, s2.heap.get? b = some ob → s3.heap.get? b = some ob := fun b ob e => by rw [e3]; exact Heap.get?_push_of_some _ e
  have low : ∀ b ∈ fp, b < s2.heap.objs.size := fun b hb => let ⟨_, e, _⟩ := T.obj _ _ at2 b hb; Heap.lt_size e
  have mine3 : ∀ b ∈ fp, FpOk X pins (upd H2 D (xdO D o0)) b ∧ b < s3.heap.objs.size := fun b hb => by
    have lt := low b hb
    refine ⟨⟨?_, (mine2 b hb).2⟩, ?_⟩
    · rw [upd_ne (by rw [eD]; exact Nat.ne_of_lt lt)]
      exact (mine2 b hb).1
    · rw [e3, Heap.size_push]
      exact Nat.lt_succ_of_lt lt
  have at3 : tn 0 s3.heap := T.keep _ _ _ at2 fun b _ => kept3 b
  -- the block
  have I4 := block_start I3 blk nd mine3
  have pg := pg s3 (upd H2 D (xdO D o0)) s3.heap.objs.size (cellsFrom (s3.heap.objs.size + 1) scope.names (cloFrom X.env.cells scope.names [])) fp
  have pt := pt s3 (upd H2 D (xdO D o0)) s3.heap.objs.size (cellsFrom (s3.heap.objs.size + 1) scope.names (cloFrom X.env.cells scope.names [])) fp
  have pk := pk s3 (upd H2 D (xdO D o0)) s3.heap.objs.size (cellsFrom (s3.heap.objs.size + 1) scope.names (cloFrom X.env.cells scope.names [])) fp
  have pv := pv s3 (upd H2 D (xdO D o0)) s3.heap.objs.size (cellsFrom (s3.heap.objs.size + 1) scope.names (cloFrom X.env.cells scope.names [])) fp
  rw [← e3]
  obtain ⟨s4, e4⟩ : ∃ s4 : Shared, s4 = { s3 with heap := pushCells (s3.heap.push { cls := .type "dict", data := .dict #[] }) scope.names } := ⟨_, rfl⟩
  rw [← e4] at I4
  have at4 : tn 0 s4.heap := T.keep _ _ _ at3 fun b _ ob e => by rw [e4]; exact pushCells_keeps _ _ _ _ (Heap.get?_push_of_some _ e)
  obtain ⟨Y, eY⟩ : ∃ Y : Cx, Y = X.blk s3 (upd H2 D (xdO D o0)) scope (compEnvC scope (cellsFrom (s3.heap.objs.size + 1) scope.names (cloFrom X.env.cells scope.names [])) s3.heap.objs.size X.env) fp := ⟨_, rfl⟩
  rw [← eY] at I4 pg pt pk pv
  have loc : Y.env.locals = s3.heap.objs.size := by rw [eY]; rfl
  have run : codeAny (model X.prog X.w) X.A (.compLoop (.DictComp kx vx [⟨tg, iter, ifs, 0⟩] scope pos) 0 (.ref it) (.ref D) Y.env) (compPost (model X.prog X.w) X.A X.xe use Qf (.ref D) s3.heap.objs.size) s4 := by
    have key := loopX (Y := Y) (c := c) (σ0 := L2.wipe σ (own.map (·.2))) (vs := own.map (·.2)) (fp := fp) (it := it) (dd := D) (tn := tn) (J := J) (W := W) (Qd := Q (.ref D)) (R := compPost (model X.prog X.w) X.A X.xe use Qf (.ref D) s3.heap.objs.size) (kx := kx) (vx := vx) (iter := iter) (scope := scope) (pos := pos) (n := n0) (s := s4)
      (by rw [eY]; exact hK) (by rw [eY]; exact hw) (by rw [eY]; exact hu) (by rw [eY]; exact calm) (by rw [eY]) (by rw [eY]; exact T) ?_ pg pt pk pv turn ?_ ⟨0, _, I4, at4, fun b hb => (mine3 b hb).1.1, w0⟩
    · rw [eY] at key ⊢
      exact key
    · intro σ5 H5 s5 I5 no b hb
      rw [eY] at I5 ⊢
      exact ⟨no b hb, (I5.ok.exf b hb).1, I5.ok.exfs b hb, .inl hb, fun x c e => (I5.ok.exf b hb).2 x c e, fun p hp => absurd (show p ∈ ([] : List (Addr × Obj)) ++ [] from hp) (by simp)⟩
    · intro H5 s5 I5 fin
      obtain ⟨m, ns, _⟩ := id I5.loc
      have noC := I5.free
      rw [loc] at ns noC
      rw [eY] at I5
      exact leave D s3.heap.objs.size s5 m H5 (I3.call' (ch := fp) I5.os I5.base I5.hok I5.bare fun b hb => fpOk_free (mine3 b hb).1) fin ns (I3.fpOk (Nat.le_refl _) noC)
  have whole := codeAny_compStart_dict run (T.self X.A 0 _ _ _ at4 run)
  rw [eY, e4] at whole
  exact whole
theorem pe_dcx (hK : X.K = c.K) (hw : X.w = c.w) (hu : X.A.units + 10 < cLine) {kx vx tg iter : Expr} {ifs : List Expr} {scope : Scope} {own : List (Str × Nat)} {pos : Pos} {wi : TI} {g : TG} {tt : TT} {tk tv : TE} (calm : X.calm = true) (nd : X.N.Nodup) (hi : PI X tg iter wi) (blk : BlkOk X.N X.env.scope scope own)
    (pg : ∀ (s : Shared) (H : Hp) (C : Addr) (cl : List (Str × Addr)) (fp : List Addr), PG (X.blk s H scope (compEnvC scope cl C X.env) fp) tg g) (pt : ∀ (s : Shared) (H : Hp) (C : Addr) (cl : List (Str × Addr)) (fp : List Addr), PTs (X.blk s H scope (compEnvC scope cl C X.env) fp) ifs tt)
    (pk : ∀ (s : Shared) (H : Hp) (C : Addr) (cl : List (Str × Addr)) (fp : List Addr), PE (X.blk s H scope (compEnvC scope cl C X.env) fp) kx tk) (pv : ∀ (s : Shared) (H : Hp) (C : Addr) (cl : List (Str × Addr)) (fp : List Addr), PE (X.blk s H scope (compEnvC scope cl C X.env) fp) vx tv)
    (plain : ∀ x, foldedSetIterable iter X.env x = pure x := by intro _; rfl) : PE X (.DictComp kx vx [⟨tg, iter, ifs, 0⟩] scope pos) (tDcX c wi g tt tk tv (own.map (·.2))) :=
  ⟨fun pins s σ H Q I h => by
    rw [arm_eval_DictComp]
    exact dcx_core hK hw hu calm nd I hi blk pg pt pk pv plain h fun D C s' m H' I' fin ns ⟨f0, f1, _, f3, f4, f5⟩ => ⟨m, ns, fun h'' same => ⟨.ref D, H', I'.turned (t' := s'.toks) (fun b ob ne e => (same.2 b ne).trans e) f0 f1 f3 f4 f5, rfl, fin⟩⟩⟩
end
end Fx
/-! dicts on data -/
namespace Fx
open PySem PySem.Spec PyProof.Rows L2
open C8 (Cal Mak pe_c pe_mk)
theorem dcx_it {c : Cfg} {J : It} {n : Nat} {G : Hp → Prop} {Y : Nat → Hp → V → Hp → Prop} (w : Walk J n G Y) {g : TG} {tt : TT} {tk tv : TE} {vs : List Nat} {σ : L2.St} {H1 : Hp} {dd : Addr} {o0 : Obj} {Qd : Hp → Prop} (Pv : Nat → Hp → Prop) (h0 : Pv 0 (upd H1 dd (xdO dd o0))) (hG : ∀ i H, i ≤ n → Pv i H → G H)
    (hs : ∀ i x H H', i < n → Pv i H → Y i H x H' → g x (L2.wipe σ vs) H' fun σ2 H2 => L2.wipe σ2 vs = L2.wipe σ vs ∧ tt σ2 H2 fun b H3 =>
      if b = true then tk σ2 H3 fun y H4 => tv σ2 H4 fun z H5 => PutX c H5 dd y z (Pv (i + 1)) else Pv (i + 1) H3) (hd : ∀ H, Pv n H → Qd H) :
    ∃ W : Nat → Nat → Hp → Prop, (∃ m, W 0 m (upd H1 dd (xdO dd o0))) ∧ ∀ i m H, W i m H →
      (J.stop i H ∧ Qd H) ∨ (J.go i H ∧ ∃ Nx : Hp → Prop, (∀ H', Nx H' → ∃ m', m' < m ∧ W (i + 1) m' H') ∧ ∀ x H', J.yld i H x H' → g x (L2.wipe σ vs) H' fun σ2 H2 => L2.wipe σ2 vs = L2.wipe σ vs ∧ tt σ2 H2 fun b H3 =>
        if b = true then tk σ2 H3 fun y H4 => tv σ2 H4 fun z H5 => PutX c H5 dd y z Nx else Nx H3) := by
  refine ⟨fun i m H => m = n - i ∧ i ≤ n ∧ Pv i H, ⟨n, by simp, Nat.zero_le _, h0⟩, ?_⟩
  rintro i m H ⟨rfl, hi, p⟩
  have q := hG i H hi p
  by_cases hlt : i < n
  · refine .inr ⟨w.goes i H hlt q, Pv (i + 1), fun H' p' => ⟨n - (i + 1), by omega, rfl, hlt, p'⟩, fun x H' y => hs i x H H' hlt p (w.yields i H x H' hlt q y)⟩
  · have e : i = n := by omega
    subst e
    exact .inl ⟨w.stops H q, hd H p⟩
/-! ### reads -/
def gDget : D → D → Option S
  | .dct ks ds, k => if homog ks k then (look ks k ds).bind ok1 else none
  | .dcq ks ds, k => if homog ks k then (look ks k ds).bind ok1 else none
  | _, _ => none
def gInD (neg : Bool) : D → D → Option S
  | k, .dct ks _ => if homog ks k then ok1 (.bl (if neg then !hasKey ks k else hasKey ks k)) else none
  | _, _ => none
/-- a name that holds a dict, whether it may still be changed or not -/
def isDc : D → Bool
  | .dct _ _ => true
  | .dcq _ _ => true
  | _ => false
def peekD (ρ : En) (i : Nat) : Bool := match peek ρ i with
  | some x => isDc x
  | none => false
section
variable {c : Cfg} {B : Base} {W : WX} {ts : En} {vs : List (Option V)} {ρ : En} {σ : L2.St} {H : Hp} {ta tb tx : TE} {fa fb fx : M S} {i : Nat}
theorem look_rp {G : Hp} {us : List V} {ds ks : List D} {k x : D} (ka : RpAll c G us ds) (e : look ks k ds = some x) : ∃ v, look ks k us = some v ∧ Rp c G v x := by
  unfold look at e ⊢
  cases h : keyAt ks k with
  | none => rw [h] at e; cases e
  | some j =>
    rw [h] at e
    exact ka.get e
theorem look_no {G : Hp} {us : List V} {ds ks : List D} {k : D} (ka : RpAll c G us ds) (e : look ks k ds = none) : look ks k us = none := by
  unfold look at e ⊢
  cases h : keyAt ks k with
  | none => rfl
  | some j =>
    rw [h] at e
    have e : ds[j]? = none := e
    show us[j]? = none
    rw [List.getElem?_eq_none_iff] at e ⊢
    rw [ka.length]
    exact e
/-- a dict at a, either of its two forms -/
def DcAt (c : Cfg) (G H : Hp) (a : Addr) (ks ds : List D) : Prop := (∃ kvs : List (Key × V), H a = some (.dK kvs) ∧ ks = kvs.map (fun p => keyD p.1) ∧ RpAll c G (kvs.map (·.2)) ds) ∨ ∃ o kv us, H a = some (xdO a o) ∧ DcO c.w a o ks kv us ∧ RpAll c G kv ks ∧ RpAll c G us ds
theorem Rp.dcE {G : Hp} {v : V} {ks ds : List D} (s : ∀ a o, G a = some o → H a = some o) (h : Rp c G v (.dct ks ds)) : ∃ a, v = .ref a ∧ DcAt c G H a ks ds := by
  cases h with
  | @dcx a o kv us _ _ ha hd k1 k2 => exact ⟨a, rfl, .inr ⟨o, kv, us, s _ _ ha, hd, k1, k2⟩⟩
theorem DcAt.isA {G : Hp} {a : Addr} {ks ds : List D} (h : DcAt c G H a ks ds) : IsA c H a := by
  rcases h with ⟨kvs, ha, _⟩ | ⟨o, kv, us, ha, hd, _⟩
  · exact .inr ⟨kvs, ha⟩
  · exact .inl ⟨o, ks, kv, us, ha, hd⟩
theorem Rp.dqE {G : Hp} {v : V} {ks ds : List D} (s : ∀ a o, G a = some o → H a = some o) (h : Rp c G v (.dcq ks ds)) : ∃ a, v = .ref a ∧ DcAt c G H a ks ds := by
  cases h with
  | @dct a kvs _ ha ka => exact ⟨a, rfl, .inl ⟨kvs, s _ _ ha, rfl, ka⟩⟩
/-- what is found -/
inductive OptRp (c : Cfg) (G : Hp) : Option V → Option D → Prop
  | none : OptRp c G none none
  | some {v : V} {x : D} : Rp c G v x → OptRp c G (some v) (some x)
theorem valV_none {kvs : List (Key × V)} {k : Key} (e : keyAt (kvs.map fun p => keyD p.1) (keyD k) = none) : valV kvs k = none := by
  refine valV_no ?_
  have := any_idx (p := keyEq (keyD k)) (l := kvs.map fun p => keyD p.1)
  unfold keyAt at e
  rw [e] at this
  exact this
theorem keyAt_lt {ks : List D} {k : D} {j : Nat} (e : keyAt ks k = some j) : j < ks.length := (List.findIdx?_eq_some_iff_findIdx_eq.mp e).1
theorem DcAt.find {G : Hp} {a : Addr} {ks ds : List D} {w : V} {k : D} (s : ∀ a o, G a = some o → H a = some o) (h : DcAt c G H a ks ds) (h2 : Rp c G w k) (hm : homog ks k = true) :
    ∃ vo, LookA c H a w vo ∧ OptRp c G vo (look ks k ds) ∧ vo.isSome = hasKey ks k := by
  have hs : ∀ (n : Nat) (l : List D), l.length = ks.length → (look ks k l).isSome = hasKey ks k := by
    intro n l hl
    unfold look hasKey
    rw [any_idx]
    show ((keyAt ks k).bind fun i => l[i]?).isSome = (keyAt ks k).isSome
    cases e : keyAt ks k with
    | none => rfl
    | some i =>
      have hi := keyAt_lt e
      show (l[i]?).isSome = true
      rw [List.getElem?_eq_getElem (by omega)]
      rfl
  rcases h with ⟨kvs, ha, rfl, ka⟩ | ⟨o, kv, us, ha, hd, k1, k2⟩
  · have hl : ds.length = (kvs.map fun p => keyD p.1).length := by rw [← ka.length, List.length_map, List.length_map]
    have hs' := hs 0 ds hl
    unfold homog at hm
    rw [Bool.or_eq_true, Bool.and_eq_true, Bool.and_eq_true] at hm
    have real : isKey k = true → ∃ vo, LookA c H a w vo ∧ OptRp c G vo (look (kvs.map fun p => keyD p.1) k ds) ∧ vo.isSome = hasKey (kvs.map fun p => keyD p.1) k := by
      intro hk
      obtain ⟨k0, rfl, rfl⟩ := key_of h2 hk
      refine ⟨valV kvs k0, .inr (.inl ⟨kvs, k0, ha, rfl, rfl⟩), ?_, ?_⟩
      · cases e : look (kvs.map fun p => keyD p.1) (keyD k0) ds with
        | none =>
          have : keyAt (kvs.map fun p => keyD p.1) (keyD k0) = none := by
            unfold Fx.look at e
            cases ei : keyAt (kvs.map fun p => keyD p.1) (keyD k0) with
            | none => rfl
            | some j =>
              rw [ei] at e
              have hj := keyAt_lt ei
              have e : ds[j]? = none := e
              rw [List.getElem?_eq_getElem (by omega)] at e
              cases e
          rw [valV_none this]
          exact .none
        | some x =>
          unfold Fx.look at e
          cases ei : keyAt (kvs.map fun p => keyD p.1) (keyD k0) with
          | none => rw [ei] at e; cases e
          | some j =>
            rw [ei] at e
            obtain ⟨u, e1, e2⟩ := valV_at ka ei e
            rw [e1]
            exact .some e2
      · rw [← valV_any, ← any_map2 (p := keyEq (keyD k0)) (l1 := kvs.map fun p => keyD p.1) (q := fun kv : Key × V => decide (kv.1 = k0)) (l2 := kvs)]
        · rfl
        · rw [List.map_map]
          apply List.map_congr_left
          intro p _
          show keyEq (keyD k0) (keyD p.1) = _
          rw [keyEq_keyD]
          by_cases e : p.1 = k0
          · rw [decide_eq_true e, decide_eq_true e.symm]
          · rw [decide_eq_false e, decide_eq_false fun z => e z.symm]
    rcases hm with hm | hm
    · exact real hm.1
    · cases kvs with
      | nil => exact ⟨none, .inr (.inr ⟨ha, ⟨G, k, s, h2, hm.1⟩, rfl⟩), .none, rfl⟩
      | cons p r =>
        have := hm.2
        rw [List.map_cons, List.all_cons, key_notT] at this
        cases this
  · refine ⟨Fx.look ks k us, .inl ⟨o, ks, kv, us, k, G, ha, hd, s, k1, h2, hm, rfl⟩, ?_, hasKey_look hd⟩
    cases e : Fx.look ks k ds with
    | none => rw [look_no k2 e]; exact .none
    | some x =>
      obtain ⟨u, e1, e2⟩ := look_rp k2 e
      rw [e1]
      exact .some e2
theorem den_dget (ha : Den c W ta fa) (hb : Den c W tb fb) : Den c W (tOp (rGetX c) ta tb) (mOp gDget fa fb) := fun B ts vs ρ σ H Q r q => by
  unfold mOp at q
  rw [post_then] at q
  refine ha.dv r (q.imp1 fun x ρ1 q v H1 r1 => ?_)
  rw [post_then] at q
  refine hb.dv r1 (q.imp (fun y ρ2 q w H2 r2 => ?_) fun _ _ h => h.drop)
  have q : Post (OkP c B ts vs σ Q) (ErrP c W B ts vs σ) (match gDget x y with
    | some s => .ok s ρ2
    | none => .stuck) := q
  cases x with
  | dct ks ds =>
    cases e : gDget (.dct ks ds) y with
    | none => rw [e] at q; exact q.elim
    | some s =>
      rw [e] at q
      have e : (if homog ks y then (look ks y ds).bind ok1 else none) = some s := e
      split at e
      · rename_i hm
        obtain ⟨G, O, h1, h2⟩ := r2.two
        obtain ⟨a, rfl, g⟩ := h1.dcE O.sub
        obtain ⟨vo, g1, g2, _⟩ := g.find O.sub h2 hm
        cases el : look ks y ds with
        | none => rw [el] at e; cases e
        | some z =>
          rw [el] at e g2
          cases e
          cases g2 with
          | some hu => exact ⟨a, _, rfl, g1, q _ _ (O.val hu)⟩
      · cases e
  | dcq ks ds =>
    cases e : gDget (.dcq ks ds) y with
    | none => rw [e] at q; exact q.elim
    | some s =>
      rw [e] at q
      have e : (if homog ks y then (look ks y ds).bind ok1 else none) = some s := e
      split at e
      · rename_i hm
        obtain ⟨G, O, h1, h2⟩ := r2.two
        obtain ⟨a, rfl, g⟩ := h1.dqE O.sub
        obtain ⟨vo, g1, g2, _⟩ := g.find O.sub h2 hm
        cases el : look ks y ds with
        | none => rw [el] at e; cases e
        | some z =>
          rw [el] at e g2
          cases e
          cases g2 with
          | some hu => exact ⟨a, _, rfl, g1, q _ _ (O.val hu)⟩
      · cases e
  | _ => exact q.elim
/-- the dict that a name holds -/
theorem Rep.dctAt {x : D} {ks ds : List D} (e : peek ρ i = some x) (hx : x = .dct ks ds ∨ x = .dcq ks ds) (r : Rep c B ts vs ρ σ H) : ∃ a G o1 o2, σ[i]? = some (some (.ref a)) ∧ OkB c B G H (o1 ++ o2) ∧ Sl c B G H ts vs o1 ∧ Sl c B G H ρ σ o2 ∧ DcAt c G H a ks ds := by
  unfold peek at e
  obtain ⟨G, o1, o2, k, h1, h2⟩ := r
  split at e
  · rename_i x e1
    cases e
    obtain ⟨v, ev, hv⟩ := h2.getD e1
    rcases hx with rfl | rfl
    · obtain ⟨a, rfl, g⟩ := hv.dcE k.sub
      exact ⟨a, G, o1, o2, ev, k, h1, h2, g⟩
    · obtain ⟨a, rfl, g⟩ := hv.dqE k.sub
      exact ⟨a, G, o1, o2, ev, k, h1, h2, g⟩
  · rename_i b x e1
    cases e
    obtain ⟨a, ev, hc, _, _⟩ := h2.getO e1
    rcases hx with rfl | rfl
    · exact ⟨a, G, o1, o2, ev, k, h1, h2, .inr hc⟩
    · exact hc.elim
  · cases e
def mDgetN (i : Nat) (fb : M S) : M S := fun ρ => if peekD ρ i then (dv fb ρ).then fun y ρ1 => match peek ρ1 i with
    | some x => match gDget x y with
      | some s => .ok s ρ1
      | none => .stuck
    | none => .stuck
  else .stuck
theorem peekD_at (h : peekD ρ i = true) (r : Rep c B ts vs ρ σ H) : ∃ a, σ[i]? = some (some (.ref a)) := by
  unfold peekD at h
  cases e : peek ρ i with
  | none => rw [e] at h; cases h
  | some x =>
    rw [e] at h
    cases x <;> first | cases h | skip
    · obtain ⟨a, _, _, _, ev, _⟩ := r.dctAt e (.inl rfl)
      exact ⟨a, ev⟩
    · obtain ⟨a, _, _, _, ev, _⟩ := r.dctAt e (.inr rfl)
      exact ⟨a, ev⟩
theorem den_dgetN (hb : Den c W tb fb) : Den c W (tOp (rGetX c) (tVar i) tb) (mDgetN i fb) := fun B ts vs ρ σ H Q r q => by
  unfold mDgetN at q
  split at q
  · rename_i hp
    obtain ⟨a, ev⟩ := peekD_at hp r
    rw [post_then] at q
    refine ⟨.ref a, ev, hb.dv r (q.imp1 fun y ρ1 q w H1 r1 => ?_)⟩
    cases e1 : peek ρ1 i with
    | none => rw [e1] at q; exact q.elim
    | some x =>
      rw [e1] at q
      have q : Post (OkP c B ts vs σ Q) (ErrP c W B ts vs σ) (match gDget x y with
        | some s => .ok s ρ1
        | none => .stuck) := q
      cases x with
      | dct ks ds =>
        cases e : gDget (.dct ks ds) y with
        | none => rw [e] at q; exact q.elim
        | some s =>
          rw [e] at q
          have e : (if homog ks y then (look ks y ds).bind ok1 else none) = some s := e
          split at e
          · rename_i hm
            obtain ⟨a', G, o1, o2, ev', kk, h1, h2, g⟩ := r1.dctAt e1 (.inl rfl)
            rw [ev] at ev'
            cases ev'
            cases h1 with
            | d hy h1 =>
              obtain ⟨vo, g1, g2, _⟩ := g.find kk.sub hy hm
              cases el : look ks y ds with
              | none => rw [el] at e; cases e
              | some z =>
                rw [el] at e g2
                cases e
                cases g2 with
                | some hu => exact ⟨a, _, rfl, g1, q _ _ ⟨G, o1, o2, kk, .d hu h1, h2⟩⟩
          · cases e
      | dcq ks ds =>
        cases e : gDget (.dcq ks ds) y with
        | none => rw [e] at q; exact q.elim
        | some s =>
          rw [e] at q
          have e : (if homog ks y then (look ks y ds).bind ok1 else none) = some s := e
          split at e
          · rename_i hm
            obtain ⟨a', G, o1, o2, ev', kk, h1, h2, g⟩ := r1.dctAt e1 (.inr rfl)
            rw [ev] at ev'
            cases ev'
            cases h1 with
            | d hy h1 =>
              obtain ⟨vo, g1, g2, _⟩ := g.find kk.sub hy hm
              cases el : look ks y ds with
              | none => rw [el] at e; cases e
              | some z =>
                rw [el] at e g2
                cases e
                cases g2 with
                | some hu => exact ⟨a, _, rfl, g1, q _ _ ⟨G, o1, o2, kk, .d hu h1, h2⟩⟩
          · cases e
      | _ => exact q.elim
  · exact q.elim
/-- x in d, d a name -/
def mInN (neg : Bool) (fa : M S) (i : Nat) : M S := fun ρ => (dv fa ρ).then fun y ρ1 => match peek ρ1 i with
  | some x => match gInD neg y x with
    | some s => .ok s ρ1
    | none => .stuck
  | none => .stuck
theorem den_inN {neg : Bool} (ha : Den c W ta fa) : Den c W (tOp (rInX c neg) ta (tVar i)) (mInN neg fa i) := fun B ts vs ρ σ H Q r q => by
  unfold mInN at q
  rw [post_then] at q
  refine ha.dv r (q.imp1 fun y ρ1 q w H1 r1 => ?_)
  cases e1 : peek ρ1 i with
  | none => rw [e1] at q; exact q.elim
  | some x =>
    rw [e1] at q
    have q : Post (OkP c B ts vs σ Q) (ErrP c W B ts vs σ) (match gInD neg y x with
      | some s => .ok s ρ1
      | none => .stuck) := q
    cases x with
    | dct ks ds =>
      cases e : gInD neg y (.dct ks ds) with
      | none => rw [e] at q; exact q.elim
      | some s =>
        rw [e] at q
        have e : (if homog ks y then ok1 (.bl (if neg then !hasKey ks y else hasKey ks y)) else none) = some s := by cases y <;> exact e
        split at e
        · rename_i hm
          cases e
          obtain ⟨a, G, o1, o2, ev, kk, h1, h2, g⟩ := r1.dctAt e1 (.inl rfl)
          cases h1 with
          | d hy h1 =>
            obtain ⟨vo, g1, g2, g3⟩ := g.find kk.sub hy hm
            exact ⟨.ref a, ev, a, vo, rfl, g1, by rw [g3]; exact q _ _ ⟨G, o1, o2, kk, .d (.bl _) h1, h2⟩⟩
        · cases e
    | _ => cases y <;> exact q.elim
end
end Fx
/-! tuple(d) of a dict -/
/-! dicts on data: get, store, new, comprehension, len, truth, walks, list(d), tuple(d), list(d.values()) -/
namespace Fx
open PySem PySem.Spec PyProof.Rows L2
open PySem.W (KdlSrc kdl_call)
open C8 (Cal Mak pe_c pe_mk)
/-- a dict whose keys and values are known -/
def WholeX (c : Cfg) (H : Hp) (a : Addr) (o : Obj) (ks : List D) (kv us : List V) : Prop := H a = some (xdO a o) ∧ DcO c.w a o ks kv us ∧ ∃ G : Hp, (∀ a o, G a = some o → H a = some o) ∧ RpAll c G kv ks
section
variable {X : Cx} {pins : List (Addr × Obj)} {σ : L2.St} {H : Hp} {s : Shared} {c : Cfg} {a : Addr} {o : Obj} {ks : List D} {kv us : List V}
theorem WholeX.raw (I : Inv X pins σ H s) (hK : X.K = c.K) (hw : X.w = c.w) (h : WholeX c H a o ks kv us) : s.heap.get? a = some o ∧ (a == sysModules) = false ∧ o.ExactDict ∧ ks.length ≤ sizeLine ∧ ∃ es ep, o.data = .dict es ep ∧ s.heap.DictRaw a es ep ∧ Vals kv (es.toList.map (·.key)) ∧ Vals us (es.toList.map (·.val)) ∧ es.size = ks.length := by
  obtain ⟨h1, h2, G, h3, h4⟩ := h
  exact ⟨xd_get I h1, h2.sys, h2.exact, h2.len, h2.raw I hK hw h3 h1 h4⟩
theorem items_vals {f : DictEntry → Value} {es : Array DictEntry} {vs : List V} {acc : Array Value} (h : ItemsOf (fun i v => ∃ hi : i < es.size, v = f es[i]) acc es.size) (r : Vals vs (es.toList.map f)) : Vals vs acc.toList := by
  have : acc.toList = es.toList.map f := by
    refine List.ext_getElem? fun i => ?_
    rw [List.getElem?_map, Array.getElem?_toList, Array.getElem?_toList]
    by_cases hi : i < es.size
    · have ha : i < acc.size := by rw [h.1]; exact hi
      obtain ⟨_, e⟩ := h.2 i acc[i] (Array.getElem?_eq_getElem ha)
      rw [Array.getElem?_eq_getElem ha, Array.getElem?_eq_getElem hi, e]
      rfl
    · rw [Array.getElem?_eq_none (by rw [h.1]; omega), Array.getElem?_eq_none (by omega)]
      rfl
  rw [this]
  exact r
theorem call_listX (hK : X.K = c.K) (hw : X.w = c.w) (calm : X.calm = true) : CallR X (.type "list") (fun xs H Q => ∃ a o ks kv us, xs = [.ref a] ∧ WholeX c H a o ks kv us ∧ ∀ p, H p = none → Q (.ref p) (upd H p (.lst kv))) := by
  rintro pins st σ H xs us Q I r ⟨a, o, ks, kv, vs, ex, whole, fin⟩
  subst ex
  obtain ⟨u, eu, rx⟩ := vals1 r
  subst eu
  cases rx
  obtain ⟨_, low, _, few, es, ep, _, raw, keys, _, size⟩ := whole.raw I hK hw
  have fit : kv.length ≤ sizeLine := by rw [keys.length, List.length_map, Array.length_toList, size]; exact few
  refine kdl_call (KdlSrc.rawDict low) (I.ok.hd calm) raw (by rw [size]; exact few) fun h' tk acc n keeps at_ items => ?_
  have list : ObjOk X.prog X.w (upd H st.heap.objs.size (.lst kv)) h' st.heap.objs.size (.lst kv) := ⟨fit, acc.toList, n, items_vals (f := (·.key)) items keys, by rw [Array.toArray_toList]; exact at_⟩
  exact ⟨.ref st.heap.objs.size, _, I.laid (t' := tk) keeps (Nat.le_refl _) list, rfl, fin _ (I.hok.fresh (Nat.le_refl _))⟩
theorem call_lenX (hK : X.K = c.K) (hw : X.w = c.w) : CallR X (.builtin "len") (fun xs H Q => ∃ a o ks kv us, xs = [.ref a] ∧ WholeX c H a o ks kv us ∧ Q (.int ks.length) H) := by
  rintro pins st σ H xs us Q I r ⟨a, o, ks, kv, vs, ex, whole, fin⟩
  subst ex
  obtain ⟨u, eu, rx⟩ := vals1 r
  subst eu
  cases rx
  obtain ⟨_, low, _, few, es, ep, _, raw, _, _, size⟩ := whole.raw I hK hw
  rw [sizeLine_eq] at few
  exact PyProof.Rows.call_len_slot (n := es.size) raw.typeIs F.slot_dict_len (fun Q' q => call_len_raw low raw q) (by omega) (by omega) ⟨.int ks.length, H, I.tok _, ⟨_, by rw [size]⟩, fin⟩
/-! ### for k in d -/
def ItkX (d : Addr) (o : Obj) (kv : List V) : It :=
  ⟨fun i H => H d = some (xdO d o) ∧ i < kv.length, fun i H x H' => H' = H ∧ kv[i]? = some x, fun i H => H d = some (xdO d o) ∧ kv.length ≤ i⟩
theorem turn_keysX {P : Program} {w : World} {K : PySem.W.Frag} {tg : Expr} {d : Addr} {o : Obj} {es : Array DictEntry} {ep : Nat} {kv : List V} (it : Addr) (exact_ : o.ExactDict) (dat : o.data = .dict es ep) (keys : Vals kv (es.toList.map (·.key))) :
    Turn P w K tg (ItkX d o kv) [it] it (fun i h => h.IsKeyIter it d i es.size ep) := by
  have size : kv.length = es.size := by rw [keys.length, List.length_map, Array.length_toList]
  refine ⟨List.mem_singleton.mpr rfl, fun i h ⟨ob, e, _, f⟩ b hb => ?_, fun i h h' at_ keep => at_.at fun ob e => keep it (List.mem_singleton.mpr rfl) ob e, ?_, ?_, fun A i s Q E at_ h => ?_⟩
  · rw [List.mem_singleton.mp hb]
    exact ⟨ob, e, fun v z => by rw [f] at z; cases z⟩
  · rintro X rfl rfl rfl calm i pins s σ H E I mine at_ ⟨stands, lt⟩
    obtain ⟨f0, f1, _, f3, f4, f5⟩ := mine it (List.mem_singleton.mpr rfl)
    have lt2 : i < es.size := size ▸ lt
    obtain ⟨u, eu, ru⟩ := keys.get (List.getElem?_eq_getElem lt)
    have eu : u = es[i].key := by
      rw [List.getElem?_map, Array.getElem?_toList, Array.getElem?_eq_getElem lt2] at eu
      exact (Option.some.inj eu).symm
    refine wpAny_pyNext_keys_item_raw at_ ⟨o, xd_get I stands, exact_, dat⟩ lt2 fun h' at2 same => ⟨es[i].key, rfl, ?_⟩
    obtain ⟨ob, e1, e2, e3⟩ := id at2
    have I1 : Inv X pins σ H { s with heap := h' } := I.turned (t' := s.toks) (fun b ob' ne e => (same.2 b ne).trans e) f0 f1 f3 f4 f5
    exact go_of (s := { s with heap := h' }) e1 e2 e3 (by decide) ⟨kv[i], H, I1, eu ▸ ru, ⟨rfl, List.getElem?_eq_getElem lt⟩, at2, fun b hb => (mine b hb).1⟩
  · rintro X rfl rfl rfl calm i pins s σ H E I mine at_ ⟨stands, le⟩
    obtain ⟨f0, f1, _, f3, f4, f5⟩ := mine it (List.mem_singleton.mpr rfl)
    exact wpAny_pyNext_keys_end_raw (I.ok.hd calm) at_ ⟨o, xd_get I stands, exact_, dat⟩ (size ▸ le) fun h' but => ⟨rfl, I.turned (t' := s.toks) (fun b ob ne e => but b ob ne e) f0 f1 f3 f4 f5⟩
  · refine wpAny_pyIter_slot at_.typeIs F.slot_dict_keyiterator_iter (wpAny_call_entry F.slot_dict_keyiterator_iter at_.typeIs F.entry_dict_keyiterator_iter ?_ (F.args_dict_keyiterator_iter_1 _))
    exact wpAny_pure (a := Fin.done (.ret (.ref it))) ⟨_, rfl, "dict_keyiterator", _, at_.typeIs, F.slot_dict_keyiterator_next.lookup, h⟩
def iKeysX (c : Cfg) (td : TE) : TI := fun σ H R => td σ H fun x H1 => ∃ d o ks kv us, x = .ref d ∧ WholeX c H1 d o ks kv us ∧ R (ItkX d o kv) H1
theorem pi_keysX {tg e : Expr} {td : TE} (hK : X.K = c.K) (hw : X.w = c.w) (he : PE X e td) : PI X tg e (iKeysX c td) :=
  ⟨fun pins s σ H R I h => thn (he.run pins s σ H _ I h) fun u s1 ⟨x, H1, I1, rx, d, o, ks, kv, us, ex, whole, fin⟩ => by
    subst ex
    cases rx
    obtain ⟨g1, low, g3, _, es, ep, dat, raw, keys, _, _⟩ := whole.raw I1 hK hw
    exact wpAny_pyIter_dict_raw low raw (pi_one (tk := s1.toks) I1 _ (turn_keysX _ g3 dat keys) ⟨_, Heap.get?_push_size _ rfl, rfl, rfl⟩ fin)⟩
end
end Fx
/-! dicts on data: the rules that gen2 prints -/
namespace Fx
open PySem PySem.Spec PyProof.Rows L2
open C8 (Cal Mak pe_c pe_mk)
/-! ### k in d, d.get -/
def mGet2N (i : Nat) (fb fx : M S) : M S := fun ρ => if peekD ρ i then (dv fb ρ).then fun y ρ1 => (dv fx ρ1).then fun z ρ2 => match peek ρ2 i with
    | some (.dct ks ds) => if homog ks y then .ok (.d ((look ks y ds).getD z)) ρ2 else .stuck
    | _ => .stuck
  else .stuck
/-- d[k] = v -/
def gmItemD (i : Nat) (fe : M S) : D → M Unit := fun x ρ => if peekD ρ i then (dv fe ρ).then fun y ρ1 => match ρ1[i]? with
    | some (some (.o b (.dct ks ds))) => if homog ks y && small (ks.length + 1) then .ok () (ρ1.set i (some (.o b (.dct (putKs ks y ks y) (putVs ks y ds x))))) else .stuck
    | _ => .stuck
  else .stuck
def mDnew : M S := fun ρ => .ok (.o none (.dct [] [])) ρ
def mLenD (i : Nat) : M S := fun ρ => match peek ρ i with
  | some (.dct ks _) => .ok (.d (.int ks.length)) ρ
  | _ => .stuck
def gListD : List D → Option S
  | [.dct ks _] => some (.o none (.lst ks))
  | _ => none
def iKeysD (fe : M S) : M (List D) := fun ρ => (dv fe ρ).then fun x ρ' => match x with
  | .dct ks _ => .ok ks ρ'
  | _ => .stuck
section
variable {c : Cfg} {W : WX} {B : Base} {ts : En} {vs : List (Option V)} {ρ : En} {σ : L2.St} {H : Hp} {te ta tb tx : TE} {fe fa fb fx : M S} {i : Nat}
theorem od_inD {neg : Bool} : OpDen c (rInX c neg) (gInD neg) := by
  intro B ts vs ρ σ H Q x y v u s r e q
  cases y with
  | dct ks ds =>
    have e : (if homog ks x then ok1 (.bl (if neg then !hasKey ks x else hasKey ks x)) else none) = some s := by cases x <;> exact e
    split at e
    · rename_i hm
      cases e
      obtain ⟨G, O, h1, h2⟩ := r.two
      obtain ⟨a, rfl, g⟩ := h2.dcE O.sub
      obtain ⟨vo, g1, g2, g3⟩ := g.find O.sub h1 hm
      exact ⟨a, vo, rfl, g1, by rw [g3]; exact q _ _ (O.val (.bl _))⟩
    · cases e
  | _ => cases x <;> cases e
theorem OptRp.getD {G : Hp} {vo : Option V} {xo : Option D} {v : V} {x : D} (h : OptRp c G vo xo) (hx : Rp c G v x) : Rp c G (vo.getD v) (xo.getD x) := by
  cases h with
  | none => exact hx
  | some h => exact h
theorem peekD_is (h : peekD ρ i = true) (r : Rep c B ts vs ρ σ H) : ∃ a, σ[i]? = some (some (.ref a)) ∧ IsA c H a := by
  unfold peekD at h
  cases e : peek ρ i with
  | none => rw [e] at h; cases h
  | some x =>
    rw [e] at h
    cases x <;> first | cases h | skip
    · obtain ⟨a, _, _, _, ev, _, _, _, g⟩ := r.dctAt e (.inl rfl)
      exact ⟨a, ev, g.isA⟩
    · obtain ⟨a, _, _, _, ev, _, _, _, g⟩ := r.dctAt e (.inr rfl)
      exact ⟨a, ev, g.isA⟩
theorem den_get2N (hb : Den c W tb fb) (hx : Den c W tx fx) : Den c W (tGet2X c (tVar i) tb tx) (mGet2N i fb fx) := fun B ts vs ρ σ H Q r q => by
  unfold mGet2N at q
  split at q
  · rename_i hp
    obtain ⟨a, ev, ia⟩ := peekD_is hp r
    rw [post_then] at q
    refine ⟨.ref a, ev, a, rfl, ia, hb.dv r (q.imp1 fun y ρ1 q w H1 r1 => ?_)⟩
    rw [post_then] at q
    refine hx.dv r1 (q.imp (fun z ρ2 q w2 H2 r2 => ?_) fun _ _ h => h.drop)
    split at q
    · rename_i ks ds e1
      split at q
      · rename_i hm
        obtain ⟨a', G, o1, o2, ev', kk, h1, h2, g⟩ := r2.dctAt e1 (.inl rfl)
        rw [ev] at ev'
        cases ev'
        cases h1 with
        | d hz h1 =>
          cases h1 with
          | d hy h1 =>
            obtain ⟨vo, g1, g2, _⟩ := g.find kk.sub hy hm
            exact ⟨vo, g1, q _ _ ⟨G, o1, o2, kk, .d (g2.getD hz) h1, h2⟩⟩
      · exact q.elim
    · exact q.elim
  · exact q.elim
theorem dct_cell {o : Obj} {ks : List D} {kv us : List V} {w : World} {a : Addr} (d : DcO w a o ks kv us) : isCell (xdO a o) := by
  obtain ⟨es, ep, e⟩ := d.dat
  exact .xd _ _ _ _ e
theorem dg_itemD (h : Den c W te fe) : DenG c W (gSub (tVar i) te (rSetX c)) (gmItemD i fe) [] := fun B ts vs ρ σ H x v Q r q => by
  unfold gmItemD at q
  split at q
  · rename_i hp
    obtain ⟨a, ev⟩ := peekD_at hp r
    rw [post_then] at q
    refine ⟨.ref a, ev, h.dv r (q.imp (fun y ρ1 q1 w H1 r1 => ?_) fun _ _ h => h.drop.toP)⟩
    split at q1
    · rename_i b ks ds e1
      split at q1
      · rename_i hz
        rw [Bool.and_eq_true] at hz
        obtain ⟨hm, hz⟩ := hz
        obtain ⟨G, o1, o2, kk, h1, h2⟩ := id r1
        obtain ⟨a', ev', ⟨o, kv, us, ha, hd, k1, k2⟩, hmem, hb⟩ := h2.getO e1
        rw [ev] at ev'
        cases ev'
        cases h1 with
        | d hw h1 =>
          cases h1 with
          | d hv h1 =>
            have nd := kk.nd
            rw [List.nodup_append] at nd
            have hz := small_line hz
            refine ⟨a, rfl, o, ks, kv, us, y, G, ha, hd, kk.sub, k1, hw, hm, by omega, fun o' d' => q1 σ _ ⟨rfl, fun _ _ => rfl⟩ ?_⟩
            exact ⟨G, o1, o2, kk.write (List.mem_append_right _ hmem) ha (dct_cell hd), h1.mono (fun _ _ e => e) fun q hq => upd_ne fun z => nd.2.2 q hq a hmem z, h2.write nd.2.1 e1 ev (fun q hq => upd_ne hq) ⟨o', _, _, upd_same, d', k1.put hw, k2.putV hv⟩⟩
      · exact q1.elim
    · exact q1.elim
  · exact q.elim
theorem den_dnew : Den c W (tDNewX c) mDnew := fun B ts vs ρ σ H Q r q p o hp d => q _ _ (Rep.newO (ds := []) (us := []) r rfl hp fun G H' e _ => ⟨o, [], [], e, d, .nil, .nil⟩)
/-- the whole of a dict -/
theorem dc_whole {G : Hp} {v : V} {ks ds : List D} (s : ∀ a o, G a = some o → H a = some o) (h : Rp c G v (.dct ks ds)) : ∃ a o kv us, v = .ref a ∧ WholeX c H a o ks kv us ∧ RpAll c G kv ks ∧ RpAll c G us ds := by
  cases h with
  | @dcx a o kv us _ _ ha hd k1 k2 => exact ⟨a, o, kv, us, rfl, ⟨s _ _ ha, hd, G, s, k1⟩, k1, k2⟩
theorem Rep.wholeAt {ks ds : List D} (e : peek ρ i = some (.dct ks ds)) (r : Rep c B ts vs ρ σ H) : ∃ a o kv us, σ[i]? = some (some (.ref a)) ∧ WholeX c H a o ks kv us := by
  unfold peek at e
  obtain ⟨G, o1, o2, k, h1, h2⟩ := r
  split at e
  · rename_i x e1
    cases e
    obtain ⟨v, ev, hv⟩ := h2.getD e1
    obtain ⟨a, o, kv, us, rfl, g, _⟩ := dc_whole k.sub hv
    exact ⟨a, o, kv, us, ev, g⟩
  · rename_i b x e1
    cases e
    obtain ⟨a, ev, ⟨o, kv, us, ha, hd, k1, k2⟩, _, _⟩ := h2.getO e1
    exact ⟨a, o, kv, us, ev, ha, hd, G, k.sub, k1⟩
  · cases e
theorem den_lenD : Den c W (tCB (fun xs H Q => ∃ a o ks kv us, xs = [.ref a] ∧ WholeX c H a o ks kv us ∧ Q (.int ks.length) H) (tCons (tVar i) tNil)) (mLenD i) := fun B ts vs ρ σ H Q r q => by
  unfold mLenD at q
  split at q
  · rename_i ks ds e
    obtain ⟨a, o, kv, us, ev, g⟩ := r.wholeAt e
    exact ⟨.ref a, ev, a, o, ks, kv, us, rfl, g, q _ _ (Rep.repl (ds := []) (us := []) r rfl fun G _ => .int _)⟩
  · exact q.elim
theorem cd_listD : CbDen c (fun xs H Q => ∃ a o ks kv us, xs = [.ref a] ∧ WholeX c H a o ks kv us ∧ ∀ p, H p = none → Q (.ref p) (upd H p (.lst kv))) gListD := by
  intro B ts vs ρ σ H Q ds us s hl r e q
  match ds, hl, r, e with
  | [.dct ks ds], hl, r, e =>
    cases e
    obtain ⟨v, rfl, G, O, h⟩ := r.one' hl
    obtain ⟨a, o, kv, us, rfl, g, k1, k2⟩ := dc_whole O.sub h
    exact ⟨a, o, ks, kv, us, rfl, g, fun p hp => q _ _ (O.newO hp fun H' e => ⟨_, e, k1⟩)⟩
theorem di_keysD (h : Den c W te fe) : DenI c W (iKeysX c te) (iKeysD fe) := fun B ts vs ρ σ H R r q => by
  unfold iKeysD at q
  rw [post_then] at q
  refine h.dv r (q.imp1 fun x ρ1 q v H1 r1 => ?_)
  cases x <;> first | exact q.elim | skip
  rename_i ks ds
  have q : OkI c B ts vs σ R ks ρ1 := q
  obtain ⟨G, o1, o2, k, h1, h2⟩ := id r1
  cases h1 with
  | d hv h1 =>
    cases hv with
    | @dcx a o kv us _ _ ha hd k1 k2 =>
      have hl := k1.length
      have all : RpAll c G (V.ref a :: kv) (D.xo a (fun _ => xdO a o) :: ks) := .cons (.xo ha) k1
      have r2 : Rep c B (tmp (D.xo a (fun _ => xdO a o) :: ks) ++ ts) (tmv (V.ref a :: kv) ++ vs) ρ1 σ H1 := ⟨G, o1, o2, k, (all.rev).sl (B := B) (H := H1) h1, h2⟩
      have opn : ∀ {B ts vs ρ σ H}, Rep c B (tmp (D.xo a (fun _ => xdO a o) :: ks) ++ ts) (tmv (V.ref a :: kv) ++ vs) ρ σ H → H a = some (xdO a o) := fun {B ts vs ρ σ H} r => by
        obtain ⟨G, O, kk⟩ := Rep.opn (us := V.ref a :: kv) (by rw [List.length_cons, List.length_cons, hl]) r
        cases kk with
        | cons hx _ =>
          cases hx with
          | xo hx => exact O.sub _ _ hx
      refine ⟨a, o, ks, kv, us, rfl, ⟨k.sub _ _ ha, hd, G, k.sub, k1⟩, q _ (D.xo a (fun _ => xdO a o) :: ks) (V.ref a :: kv) H1 (by rw [List.length_cons, List.length_cons, hl]) r2 ⟨ks.length, fun H => H a = some (xdO a o), fun k H y H' => H' = H ∧ kv[k]? = some y, ⟨?_, ?_, ?_⟩, rfl, fun B ts vs ρ σ H r => opn r, ?_⟩⟩
      · rintro k H hk e1
        exact ⟨e1, by omega⟩
      · rintro H e1
        exact ⟨e1, by omega⟩
      · rintro k H y H' hk e1 ⟨e3, e4⟩
        exact ⟨e3, e4⟩
      · rintro B ts vs ρ σ H k x H' hk r ⟨rfl, ex⟩
        obtain ⟨G, o1, o2, kk, g1, g2⟩ := id r
        obtain ⟨a1, a2⟩ := g1.tmp (by rw [List.length_cons, List.length_cons, hl])
        cases a1 with
        | cons _ a1 =>
          obtain ⟨d, ed, hd⟩ := a1.getV ex
          exact ⟨d, ed, G, o1, o2, kk, .d hd g1, g2⟩
end
end Fx
/-! dicts on data: comprehensions; the rules that gen2 prints -/
namespace Fx
open PySem PySem.Spec PyProof.Rows L2
open C8 (Cal Mak pe_c pe_mk)
open PySem.W (KdlSrc kdl_call)
section
variable {c : Cfg} {B : Base} {W : WX} {ts : En} {vs : List (Option V)} {ρ : En} {σ : L2.St} {H : Hp}
theorem Rep.insX {st : List D} {sv : List V} {p : Addr} {o : Obj} (hl : sv.length = st.length) (r : Rep c B (tmp st ++ ts) (tmv sv ++ vs) ρ σ H) (hp : H p = none) (d : DcO c.w p o [] [] []) :
    Rep c B (tmp st ++ (some (.o none (.dct [] [])) :: ts)) (tmv sv ++ (some (.ref p) :: vs)) ρ σ (upd H p (xdO p o)) := by
  obtain ⟨G, o1, o2, k, h1, h2⟩ := r
  obtain ⟨a1, a2⟩ := h1.tmp hl
  have ow := own_new (o := xdO p o) k hp
  exact ⟨G, p :: o1, o2, k.allocO hp, a1.tmpS (.o ⟨o, [], [], upd_same, d, .nil, .nil⟩ (fun _ e => nomatch e) (a2.mono (fun _ _ e => e) fun q hq => ow q (List.mem_append_left _ hq))), h2.mono (fun _ _ e => e) fun q hq => ow q (List.mem_append_right _ hq)⟩
theorem Rep.putX {st ks ds : List D} {sv : List V} {p : Addr} {y k : D} {v w : V} (hl : sv.length = st.length) (hm : homog ks k = true) (hz : ks.length < sizeLine) (r : Rep c B (some (.d y) :: some (.d k) :: (tmp st ++ (some (.o none (.dct ks ds)) :: ts))) (some v :: some w :: (tmv sv ++ (some (.ref p) :: vs))) ρ σ H) {Nx : Hp → Prop}
    (q : ∀ H', Rep c B (tmp st ++ (some (.o none (.dct (putKs ks k ks k) (putVs ks k ds y))) :: ts)) (tmv sv ++ (some (.ref p) :: vs)) ρ σ H' → Nx H') : PutX c H p w v Nx := by
  obtain ⟨G, o1, o2, k', h1, h2⟩ := r
  cases h1 with
  | d hv h1 =>
    cases h1 with
    | d hw h1 =>
      obtain ⟨a1, a2⟩ := h1.tmp hl
      cases a2 with
      | @o _ _ _ _ _ own hc hb a2 =>
        obtain ⟨o, kv, us, e, hd, k1, k2⟩ := hc
        have nd := k'.nd
        rw [List.cons_append, List.nodup_cons] at nd
        refine ⟨o, ks, kv, us, k, G, e, hd, k'.sub, k1, hw, hm, hz, fun o' d' => q _ ?_⟩
        have ne : ∀ q ∈ own ++ o2, upd H p (xdO p o') q = H q := fun q hq => upd_ne fun z => nd.1 (z ▸ hq)
        exact ⟨G, p :: own, o2, k'.write (List.mem_append_left _ List.mem_cons_self) e (dct_cell hd), a1.tmpS (.o ⟨o', _, _, upd_same, d', k1.put hw, k2.putV hv⟩ hb (a2.mono (fun _ _ e => e) fun q hq => ne q (List.mem_append_left _ hq))), h2.mono (fun _ _ e => e) fun q hq => ne q (List.mem_append_right _ hq)⟩
end
def mDComp (gm : D → M Unit) (ft : M Bool) (fk fv : M S) (own : List Nat) : List D → List D → List D → En → Out (List D × List D)
  | [], ks, ds, ρ => .ok (ks, ds) ρ
  | x :: xs, ks, ds, ρ => (gm x ρ).calm.then fun _ ρ1 => (ft ρ1).calm.then fun b ρ2 => if b = true then (dv fk ρ2).calm.then fun k ρ3 => (dv fv ρ3).calm.then fun y ρ4 => if homog ks k && small (ks.length + 1) then mDComp gm ft fk fv own xs (putKs ks k ks k) (putVs ks k ds y) (wipeE ρ4 own) else .stuck
    else mDComp gm ft fk fv own xs ks ds (wipeE ρ2 own)
def mDc (fI : M (List D)) (gm : D → M Unit) (ft : M Bool) (fk fv : M S) (own : List Nat) : M S := fun ρ => (fI ρ).then fun items ρ1 => (mDComp gm ft fk fv own items [] [] (wipeE ρ1 own)).then fun p ρ2 => .ok (.o none (.dct p.1 p.2)) ρ2
section
variable {c : Cfg} {W : WX} {wi : TI} {fI : M (List D)} {tk tv : TE} {fk fv : M S} {tt : TT} {ft : M Bool} {g : TG} {gm : D → M Unit} {js own : List Nat}
theorem den_dc (h : DenI c W wi fI) (k : DenG c W0 g gm js) (kt : DenT c W0 tt ft) (kk : Den c W0 tk fk) (kv : Den c W0 tv fv) (hj : ∀ j ∈ js, j ∈ own) : Den c W (tDcX c wi g tt tk tv own) (mDc fI gm ft fk fv own) := fun B ts vs ρ σ H Q r q => by
  unfold mDc at q
  rw [post_then] at q
  refine h B ts vs ρ σ H _ r (q.imp1 fun items ρ1 q J st sv H1 hl r1 w Da o0 hD hnew => ?_)
  obtain ⟨n, Gw, Y, wk, rfl, hG, hY⟩ := w
  rw [post_then] at q
  refine dcx_it wk (fun i H => ∃ ρ ks ds, Rep c B (tmp st ++ (some (.o none (.dct ks ds)) :: ts)) (tmv sv ++ (some (.ref Da) :: vs)) ρ σ H ∧ (∀ v ∈ own, ρ.set v none = ρ) ∧
    Post (fun (p : List Fx.D × List Fx.D) ρ2 => OkP c B ts vs σ Q (.o none (.dct p.1 p.2)) ρ2) (ErrP c W B ts vs σ) (mDComp gm ft fk fv own (items.drop i) ks ds ρ)) ⟨wipeE ρ1 own, [], [], ?_, fun v hv => wipeE_at ρ1 own v hv, q⟩ (fun i H _ ⟨ρ, ks, ds, r, _⟩ => hG _ _ _ _ _ _ r) ?_ ?_
  · exact (Rep.insX hl r1 hD hnew).back rfl
  · rintro i x H1 H2 hi ⟨ρ, ks, ds, r, hw, q⟩ y
    obtain ⟨d, ed, r2⟩ := hY _ _ _ _ _ _ _ _ _ hi r y
    have hd : items.drop i = d :: items.drop (i + 1) := by
      rw [List.drop_eq_getElem_cons hi]
      rw [List.getElem?_eq_getElem hi] at ed
      cases ed
      rfl
    rw [hd] at q
    have q : Post _ _ ((gm d ρ).calm.then fun _ ρ1 => (ft ρ1).calm.then fun b ρ2 => _) := q
    rw [post_then] at q
    have r3 : Rep c B (some (.d d) :: (tmp st ++ (some (.o none (.dct ks ds)) :: ts))) (some x :: (tmv sv ++ (some (.ref Da) :: vs))) ρ (L2.wipe σ own) H2 := by
      have := r2.wipe own
      have e := wipeE_id hw
      rw [e] at this
      exact this
    refine k B _ _ ρ _ H2 d x _ r3 (post_calm (q.imp1 fun _ ρ2 q σ2 H3 o r4 => ?_))
    have eo := Off.wipe hj o
    refine ⟨eo, ?_⟩
    rw [post_then] at q
    refine kt B _ _ ρ2 σ2 H3 _ r4 (post_calm (q.imp1 fun b ρ3 q H4 r5 => ?_))
    cases b with
    | false => exact ⟨wipeE ρ3 own, ks, ds, r5.back eo, fun v hv => wipeE_at ρ3 own v hv, q⟩
    | true =>
      have q : Post _ _ ((dv fk ρ3).calm.then fun k ρ3 => (dv fv ρ3).calm.then fun y ρ4 => _) := q
      rw [post_then] at q
      refine kk.dv r5 (post_calm (q.imp1 fun y ρ4 q v H5 r6 => ?_))
      rw [post_then] at q
      refine kv.dv r6 (post_calm (q.imp1 fun z ρ5 q u H6 r7 => ?_))
      split at q
      · rename_i hz
        rw [Bool.and_eq_true] at hz
        have hz2 := small_line hz.2
        exact Rep.putX hl hz.1 (by omega) r7 fun H' r8 => ⟨wipeE ρ5 own, _, _, r8.back eo, fun v hv => wipeE_at ρ5 own v hv, q⟩
      · exact q.elim
  · rintro H1 ⟨ρ, ks, ds, r, _, q⟩
    rw [List.drop_length] at q
    exact q _ H1 (r.dropN hl)
end
/-! ### list(d.values()) -/
def viewV (d : Addr) : Obj := { cls := .type "dict_values", data := .fields #[.ref d] }
def tListVals (c : Cfg) (td : TE) : TE := fun σ H Q => td σ H fun x H1 => ∃ a o ks kv us, x = .ref a ∧ WholeX c H1 a o ks kv us ∧ ∀ p, H1 p = none → Q (.ref p) (upd H1 p (.lst us))
def mListVals (fe : M S) : M S := fun ρ => (dv fe ρ).then fun x ρ1 => match x with
  | .dct _ ds => .ok (.o none (.lst ds)) ρ1
  | _ => .stuck
section
variable {c : Cfg} {W : WX} {te : TE} {fe : M S}
theorem den_listVals (h : Den c W te fe) : Den c W (tListVals c te) (mListVals fe) := fun B ts vs ρ σ H Q r q => by
  unfold mListVals at q
  rw [post_then] at q
  refine h.dv r (q.imp1 fun x ρ1 q v H1 r1 => ?_)
  cases x <;> first | exact q.elim | skip
  rename_i ks ds
  obtain ⟨G, O, hv⟩ := r1.one
  obtain ⟨a, o, kv, us, rfl, g, k1, k2⟩ := dc_whole O.sub hv
  exact ⟨a, o, ks, kv, us, rfl, g, fun p hp => q _ _ (O.newO hp fun H' e => ⟨_, e, k2⟩)⟩
variable {X : Cx} {e : Expr} {p pos apos cpos : Pos}
theorem pe_vals {Q : Value → Shared → Prop} {pins : List (Addr × Obj)} {σ : L2.St} {H : Hp} {s : Shared} {td : TE} {R : VK} (hK : X.K = c.K) (hw : X.w = c.w) (he : PE X e td) (hbase : attributeBase e "values" X.env (eval e X.env) = eval e X.env) (hline : (apos.endLine == cpos.line) = true)
    (I : Inv X pins σ H s) (h : td σ H R) (q : ∀ (x : Addr) (H1 : Hp) (s1 : Shared) (t : Nat), Inv X pins σ H1 { s1 with heap := s1.heap.push (viewV x), toks := t } → R (.ref x) H1 → H1 s1.heap.objs.size = none → Q (.ref s1.heap.objs.size) { s1 with heap := s1.heap.push (viewV x), toks := t })
    (hR : ∀ x H1, R x H1 → ∃ a, x = .ref a ∧ IsX c H1 a) : wpAny (model X.prog X.w) X.A (eval (.Call (.Attribute e "values" apos) [] [] cpos) X.env) Q X.xe s := by
  refine wpAny_Call_method (T := "dict") (id := "dict.values") hbase rfl hline F.plainAttrs_dict F.slot_dict_values F.type_dict_values (thn (he.run pins s σ H _ I h) fun u s1 ⟨x, H1, I1, rx, rr⟩ => ?_)
  obtain ⟨a, rfl, ia⟩ := hR x H1 rr
  cases rx
  obtain ⟨t1, t2, t3⟩ := ia.at_ I1
  refine ⟨t1, t2, ?_⟩
  obtain ⟨o, ks, kv, us, ha, hd⟩ := ia
  obtain ⟨es, ep, hdat⟩ := hd.dat
  have I2 : Inv X pins σ H1 { s1 with heap := s1.heap.push (viewV a) } := I1.kept (t' := s1.toks) fun b ob q => Heap.get?_push_of_some _ q
  show wpAny _ _ (callWith cpos (.builtin "dict.values") [.ref a] [] []) _ X.xe s1
  exact method_meetsIn F.slot_dict_values F.entry_dict_values rfl (PySem.evalArgs_none ⟨rfl, t1, F.args_dict_values_1 _, _, meets_dict_values_raw a t3, ⟨es, ep, o, xd_get I1 ha, hd.exact, hdat⟩, q a H1 s1 s1.toks I2 rr (I1.hok.fresh (Nat.le_refl _))⟩)
theorem pe_listVals {td : TE} (hK : X.K = c.K) (hw : X.w = c.w) (hc : X.calm = true) (hg : Gl X "list") (hm : X.mg "list" = none) (he : PE X e td) (hbase : attributeBase e "values" X.env (eval e X.env) = eval e X.env) (hline : (apos.endLine == cpos.line) = true)
    (na : starEach [.Call (.Attribute e "values" apos) [] [] cpos] X.env = (false, eval (.Call (.Attribute e "values" apos) [] [] cpos) X.env) :: starEach [] X.env) :
    PE X (.Call (.Name "list" p) [.Call (.Attribute e "values" apos) [] [] cpos] [] pos) (tListVals c td) := by
  refine ⟨fun pins s σ H Q I h => ?_⟩
  refine Call_ (ld_blt I hg hm boot_list (PyProof.Rows.callWith_type1 (args_cons (pe_vals hK hw he hbase hline I h (fun x H1 s1 t I1 rr free => args_nil ?_) (fun x H1 ⟨a, o, ks, kv, us, ex, hd, _⟩ => ⟨a, ex, o, ks, kv, us, hd.1, hd.2.1⟩)) na) na))
  obtain ⟨a, o, ks, kv, us, ex, hd, q⟩ := rr
  cases ex
  obtain ⟨g1, g2, g3, g4, es, ep, g5, g6, g7, g8, g9⟩ := hd.raw I1 hK hw
  refine kdl_call (KdlSrc.rawValues (r := s1.heap.objs.size) (d := x)) (I1.ok.hd hc) ⟨⟨_, Heap.get?_push_size _ rfl, rfl, rfl⟩, g6⟩ (by rw [g9]; exact g4) fun h' tk acc c' hk hD hacc => ?_
  have hv : Vals us acc.toList := items_vals (f := (·.val)) hacc g8
  exact ⟨.ref _, upd H1 (s1.heap.push (viewV x)).objs.size (.lst us), I1.laid (t' := tk) hk (Nat.le_refl _)
    (show ObjOk X.prog X.w _ _ _ (.lst us) from ⟨by rw [g8.length, List.length_map, Array.length_toList, g9]; exact g4, acc.toList, c', hv, by rw [Array.toArray_toList]; exact hD⟩), rfl, q _ (I1.hok.fresh (Nat.le_refl _))⟩
end
section
variable {X : Cx} {c : Cfg} {W : WX} {tg it kx vx a b e : Expr} {ifs : List Expr} {fI : M (List D)} {g : D → M Unit} {js : List Nat} {ft : M Bool} {fk fv fa fb fe fx : M S} {scope : Scope} {own : List (Str × Nat)} {pos p p2 apos cpos : Pos} {wi : TI} {tgt : TG} {tt : TT} {tk tv ta tb te tx : TE} {kk : Nat} {x : Str}
theorem un10 {A : Around} (hr : Room kk A) : A.units + 10 < cLine := by have := un66 hr; omega
theorem q_dc (hr : Room kk X.A) (hw : X.w = c.w) (hN : X.N.Nodup) (hI : QI X c W tg it wi fI) (hB : BlkOk X.N X.env.scope scope own) (hG : ∀ s H C cl fp, QG (Blk X scope s H C cl fp) c W0 tg tgt g js) (hT : ∀ s H C cl fp, QTs (Blk X scope s H C cl fp) c W0 ifs tt ft)
    (hk : ∀ s H C cl fp, QE (Blk X scope s H C cl fp) c W0 kx tk fk) (hE : ∀ s H C cl fp, QE (Blk X scope s H C cl fp) c W0 vx tv fv) (hj : ∀ j ∈ js, j ∈ own.map (·.2) := by decide) (hc : X.calm = true := by rfl) (hK : X.K = c.K := by rfl) (hs : ∀ x, foldedSetIterable it X.env x = pure x := by intro _; rfl) :
    QE X c W (.DictComp kx vx [{ target := tg, iter := it, ifs := ifs, is_async := 0 }] scope pos) (tDcX c wi tgt tt tk tv (own.map (·.2))) (mDc fI g ft fk fv (own.map (·.2))) := by
  obtain ⟨h1, h2⟩ := hI
  obtain ⟨s, H, C, cl, fp, g2, t2, k2, e2⟩ := anyPlace c _ fun s H C cl fp => And.intro (hG s H C cl fp).dn (And.intro (hT s H C cl fp).dn (And.intro (hk s H C cl fp).dn (hE s H C cl fp).dn))
  exact ⟨pe_dcx hK hw (un10 hr) hc hN h1 hB (fun s H C cl fp => (hG s H C cl fp).pe) (fun s H C cl fp => (hT s H C cl fp).pe) (fun s H C cl fp => (hk s H C cl fp).pe) (fun s H C cl fp => (hE s H C cl fp).pe) hs, den_dc h2 g2 t2 k2 e2 hj⟩
theorem q_dget (hr : Room kk X.A) (hw : X.w = c.w) (ha : QE X c W a ta fa) (hb : QE X c W b tb fb) (hK : X.K = c.K := by rfl) (hs : PlainIx b := by exact fun _ _ => rfl) : QE X c W (.Subscript a b pos) (tOp (rGetX c) ta tb) (mOp gDget fa fb) := by
  obtain ⟨h1, h2⟩ := ha; obtain ⟨k1, k2⟩ := hb
  exact ⟨pe_ix (ix_X hK hw (un10 hr)) h1 k1 hs, den_dget h2 k2⟩
theorem q_dgetN (i : Nat) (hr : Room kk X.A) (hw : X.w = c.w) (hb : QE X c W b tb fb) (hN : X.N[i]? = some x := by rfl) (hv : Vis X.env.scope x := by first | exact Or.inl rfl | exact Or.inr (Or.inl rfl) | exact Or.inr (Or.inr rfl)) (hd : (x == ("__debug__" : Str)) = false := by decide)
    (hcd : (x == ("__classdict__" : Str)) = false := by decide) (hK : X.K = c.K := by rfl) (hs : PlainIx b := by exact fun _ _ => rfl) : QE X c W (.Subscript (.Name x p) b pos) (tOp (rGetX c) (tVar i) tb) (mDgetN i fb) := by
  obtain ⟨k1, k2⟩ := hb
  exact ⟨pe_ix (ix_X hK hw (un10 hr)) (pe_var hN hv hd hcd) k1 hs, den_dgetN k2⟩
theorem r_ninX (hr : Room kk X.A) (hw : X.w = c.w) (hK : X.K = c.K := by rfl) : QR X c .NotIn (rInX c true) (gInD true) := ⟨op_ninX hK hw (un10 hr), od_inD, fun x y H Q Q' h ⟨a, o, e1, e2, q⟩ => ⟨a, o, e1, e2, h _ _ q⟩⟩
theorem t_inN (i : Nat) (hr : Room kk X.A) (hw : X.w = c.w) (ha : QE X c W a ta fa) (hN : X.N[i]? = some x := by rfl) (hv : Vis X.env.scope x := by first | exact Or.inl rfl | exact Or.inr (Or.inl rfl) | exact Or.inr (Or.inr rfl)) (hd : (x == ("__debug__" : Str)) = false := by decide)
    (hcd : (x == ("__classdict__" : Str)) = false := by decide) (hK : X.K = c.K := by rfl) (hm : behindInMarks .In (.Name x p) = false := by with_unfolding_all rfl) : QT X c W (.Compare a [.In] [.Name x p] pos) (tTest (tOp (rInX c false) ta (tVar i))) (mTest (mInN false fa i)) := by
  obtain ⟨h1, h2⟩ := ha
  exact ⟨pt_cmpR (op_inX hK hw (un10 hr)) h1 (pe_var hN hv hd hcd) hm, dt_test (den_inN h2)⟩
theorem t_ninN (i : Nat) (hr : Room kk X.A) (hw : X.w = c.w) (ha : QE X c W a ta fa) (hN : X.N[i]? = some x := by rfl) (hv : Vis X.env.scope x := by first | exact Or.inl rfl | exact Or.inr (Or.inl rfl) | exact Or.inr (Or.inr rfl)) (hd : (x == ("__debug__" : Str)) = false := by decide)
    (hcd : (x == ("__classdict__" : Str)) = false := by decide) (hK : X.K = c.K := by rfl) (hm : behindInMarks .NotIn (.Name x p) = false := by with_unfolding_all rfl) : QT X c W (.Compare a [.NotIn] [.Name x p] pos) (tTest (tOp (rInX c true) ta (tVar i))) (mTest (mInN true fa i)) := by
  obtain ⟨h1, h2⟩ := ha
  exact ⟨pt_cmpR (op_ninX hK hw (un10 hr)) h1 (pe_var hN hv hd hcd) hm, dt_test (den_inN h2)⟩
theorem q_get2N (i : Nat) (hr : Room kk X.A) (hw : X.w = c.w) (hb : QE X c W e tb fb) (hx : QE X c W a tx fx) (hN : X.N[i]? = some x := by rfl) (hv : Vis X.env.scope x := by first | exact Or.inl rfl | exact Or.inr (Or.inl rfl) | exact Or.inr (Or.inr rfl)) (hd : (x == ("__debug__" : Str)) = false := by decide)
    (hcd : (x == ("__classdict__" : Str)) = false := by decide) (hK : X.K = c.K := by rfl) (m : M2 X (.Name x p) "get" apos e a cpos := by exact ⟨rfl, rfl, rfl, rfl⟩) : QE X c W (.Call (.Attribute (.Name x p) "get" apos) [e, a] [] cpos) (tGet2X c (tVar i) tb tx) (mGet2N i fb fx) := by
  obtain ⟨k1, k2⟩ := hb; obtain ⟨l1, l2⟩ := hx
  exact ⟨pe_get2X hK hw (un10 hr) (pe_var hN hv hd hcd) k1 l1 m, den_get2N k2 l2⟩
theorem g_itemD (i : Nat) (hr : Room kk X.A) (hw : X.w = c.w) (h : QE X c W e te fe) (hN : X.N[i]? = some x := by rfl) (hv : Vis X.env.scope x := by first | exact Or.inl rfl | exact Or.inr (Or.inl rfl) | exact Or.inr (Or.inr rfl)) (hd : (x == ("__debug__" : Str)) = false := by decide)
    (hcd : (x == ("__classdict__" : Str)) = false := by decide) (hK : X.K = c.K := by rfl)
    (ha : ∀ v, assign (.Subscript (.Name x p) e pos) X.env v = (do
      let ov ← holding [v] (eval (.Name x p) X.env)
      let iv ← holding [v, ov] (eval e X.env)
      standAt pos
      holding [v, ov, iv] (setItem ov iv v)
      release [v, ov, iv] []) := by intro _; rfl) : QG X c W (.Subscript (.Name x p) e pos) (gSub (tVar i) te (rSetX c)) (gmItemD i fe) [] := by
  obtain ⟨h1, h2⟩ := h
  exact ⟨pg_sub (pe_var hN hv hd hcd) h1 (set_X hK hw (un10 hr)) ha, dg_itemD h2⟩
abbrev rListX (c : Cfg) : List V → Hp → VK → Prop := fun xs H Q => ∃ a o ks kv us, xs = [.ref a] ∧ WholeX c H a o ks kv us ∧ ∀ p, H p = none → Q (.ref p) (upd H p (.lst kv))
abbrev rLenX (c : Cfg) : List V → Hp → VK → Prop := fun xs H Q => ∃ a o ks kv us, xs = [.ref a] ∧ WholeX c H a o ks kv us ∧ Q (.int ks.length) H
theorem q_dnew (hw : X.w = c.w) : QE X c W (.Dict [] [] pos) (tDNewX c) mDnew := ⟨pe_dnewX hw, den_dnew⟩
theorem b_listD (hw : X.w = c.w) (hc : X.calm = true := by rfl) (hK : X.K = c.K := by rfl) : QB X c "list" (rListX c) gListD := ⟨.inr ⟨_, call_listX hK hw hc, by decide +kernel⟩, cd_listD⟩
theorem q_lenD (i : Nat) (hw : X.w = c.w) (hmg : X.mg "len" = none) (hN : X.N[i]? = some x := by rfl) (hv : Vis X.env.scope x := by first | exact Or.inl rfl | exact Or.inr (Or.inl rfl) | exact Or.inr (Or.inr rfl)) (hd : (x == ("__debug__" : Str)) = false := by decide)
    (hcd : (x == ("__classdict__" : Str)) = false := by decide) (hg : Gl X "len" := by rfl) (he : starEach [.Name x p2] X.env = (false, eval (.Name x p2) X.env) :: starEach [] X.env := by rfl) (hpl : (backTo pos (starEach [] X.env)).any (·.1) = false := by rfl) (hK : X.K = c.K := by rfl) :
    QE X c W (.Call (.Name "len" p) [.Name x p2] [] pos) (tCB (rLenX c) (tCons (tVar i) tNil)) (mLenD i) :=
  ⟨pe_callB (call_lenX hK hw) hg hmg PySem.boot_len (pa_cons (pe_var hN hv hd hcd) pa_nil he) (by decide) (by decide) he hpl, den_lenD⟩
theorem i_keysD (hw : X.w = c.w) (h : QE X c W e te fe) (hK : X.K = c.K := by rfl) : QI X c W tg e (iKeysX c te) (iKeysD fe) := by
  obtain ⟨h1, h2⟩ := h
  exact ⟨pi_keysX hK hw h1, di_keysD h2⟩
theorem q_listVals (hw : X.w = c.w) (hm : X.mg "list" = none) (h : QE X c W e te fe) (hc : X.calm = true := by rfl) (hK : X.K = c.K := by rfl) (hg : Gl X "list" := by rfl) (hbase : attributeBase e "values" X.env (eval e X.env) = eval e X.env := by rfl) (hline : (apos.endLine == cpos.line) = true := by rfl)
    (na : starEach [.Call (.Attribute e "values" apos) [] [] cpos] X.env = (false, eval (.Call (.Attribute e "values" apos) [] [] cpos) X.env) :: starEach [] X.env := by rfl) :
    QE X c W (.Call (.Name "list" p) [.Call (.Attribute e "values" apos) [] [] cpos] [] pos) (tListVals c te) (mListVals fe) := by
  obtain ⟨h1, h2⟩ := h
  exact ⟨pe_listVals hK hw hc hg hm h1 hbase hline na, den_listVals h2⟩
theorem swD {es : List Comprehension} {py : Pos} {y : Str} {l : Nat} {env : Env} (hf : env.scope.kind = .function) (hy : env.scope.names.lookup y = some .local) (hl : (py.line == pos.line) = true)
    (ha : (scope.names.any fun (n, k) => n == y && (k == .local || k == .cell)) = false) : swapsWith (.DictComp kx vx es scope pos) (some (.Name y py)) l env = pure true := by
  have k1 : env.kindOf y = some .local := hy
  have k2 : env.blockKind = .function := by unfold Env.blockKind; rw [hf]; rfl
  unfold swapsWith
  simp only [k2, k1, ha, Expr.pos, hl]
  rfl
theorem psDX (hK : X.K = c.K) (hw : X.w = c.w) (hu : X.A.units + 10 < cLine) {i : Nat} {y : Str} {py spos : Pos} (calm : X.calm = true) (nd : X.N.Nodup) (at_ : X.N[i]? = some y) (own_ : X.env.scope.names.lookup y = some .local)
    (used : swapsWith (.DictComp kx vx [⟨tg, it, ifs, 0⟩] scope pos) (some (.Name y py)) spos.line X.env = pure true) (hi : PI X tg it wi) (blk : BlkOk X.N X.env.scope scope own)
    (pg : ∀ s H C cl fp, PG (Blk X scope s H C cl fp) tg tgt) (pt : ∀ s H C cl fp, PTs (Blk X scope s H C cl fp) ifs tt) (pk : ∀ s H C cl fp, PE (Blk X scope s H C cl fp) kx tk) (pv : ∀ s H C cl fp, PE (Blk X scope s H C cl fp) vx tv) (plain : ∀ x, foldedSetIterable it X.env x = pure x) :
    PS X (.Assign [.Name y py] (.DictComp kx vx [⟨tg, it, ifs, 0⟩] scope pos) spos) (tAsg (tDcX c wi tgt tt tk tv (own.map (·.2))) (gName i)) := by
  refine ⟨fun pins s σ H D I h => ?_⟩
  have h : tDcX c wi tgt tt tk tv (own.map (·.2)) σ H (fun x H1 => gName i x σ H1 D.nx) := h
  have stored := dcx_core (pos := pos) (Qf := fun _ s' => SP X pins D .next s') (use := some (assign (.Name y py) X.env)) (pos' := firstIterPos [⟨tg, it, ifs, 0⟩] pos) hK hw hu calm nd I hi blk pg pt pk pv plain h fun L C s1 m H1 I1 fin ns ok => by
    obtain ⟨f0, f1, _, f3, f4, f5⟩ := ok
    refine wpAny_assign_Name (store_ok2 (v := V.ref L) I1 nd at_ (.inl own_) rfl (fun s2 I2 ⟨a, same, place⟩ => ?_) (.inr own_))
    have apart : C ≠ a := place.elim (fun z => by rw [z]; exact f1) fun z e => f4 y a z e.symm
    exact ⟨m, ns.sameBut same apart, fun h3 same3 => ⟨_, H1, I2.turned (t' := s2.toks) (fun b ob ne e => (same3.2 b ne).trans e) f0 f1 f3 f4 f5, fin⟩⟩
  rw [exec_Assign_Name_used _ _ _ _ used]
  refine wpAny_bind (wpAny_standAt (wpAny_bind ?_))
  exact wpAny_bind (thn stored fun _ s' done => wpAny_pure (wpAny_pure done))
end
end Fx
/-! sorted of a tuple or a list of pairs of ints -/
namespace PySem
open PySem.Spec PyProof.Rows SrtO
end PySem
/-! sorted of a tuple or a list of tuples of ints, none empty, of any lengths -/
namespace PySem
open PySem.Spec PyProof.Rows SrtO
section
variable {prog : Program} {w : World} {A : Around} {E : Value → Shared → Prop} {s : Shared}
/-- a tuple of ints, not empty -/
def NeT (h : Heap) (v : Value) (ns : List Int) : Prop := TS.TupInts h v ns ∧ ns ≠ []
theorem NeT.keeps {h h' : Heap} {v : Value} {ns : List Int} (x : NeT h v ns) (k : ∀ b o, h.get? b = some o → o.cls = .type "tuple" → h'.get? b = some o) : NeT h' v ns := ⟨x.1.keeps k, x.2⟩
end
end PySem
/-! a dict whose values are lists that change: d = {k: [..] for ..}, d[k].append(x), d[k].pop(), frozen when it is read -/
namespace Fx
open PySem PySem.Spec PyProof.Rows L2
open C8 (Cal Mak pe_c pe_mk)
section
variable {c : Cfg} {B : Base} {G G' H H' : Hp} {own own' : Owns} {ts : En} {vs : List (Option V)} {ρ : En} {σ : L2.St}
theorem LsAll.get : ∀ {bs : List Addr} {dss : List (List D)} {n : Nat} {ds : List D}, LsAll c G H bs dss → dss[n]? = some ds → ∃ b us, bs[n]? = some b ∧ H b = some (.lst us) ∧ RpAll c G us ds
  | _, _, _, _, .nil, e => by simp at e
  | _, _, 0, _, .cons h k _, e => by simp at e; subst e; exact ⟨_, _, rfl, h, k⟩
  | _, _, n + 1, _, .cons _ _ l, e => by
    obtain ⟨b, us, e1, e2⟩ := LsAll.get (n := n) l (by simpa using e)
    exact ⟨b, us, by simpa using e1, e2⟩
theorem LsAll.put {b : Addr} {us : List V} {es : List D} (hb : H' b = some (.lst us)) (k : RpAll c G us es) (hh : ∀ q, q ≠ b → H' q = H q) : ∀ {bs : List Addr} {dss : List (List D)} {n : Nat}, LsAll c G H bs dss → bs[n]? = some b → bs.Nodup → LsAll c G H' bs (dss.set n es)
  | _, _, _, .nil, e, _ => by simp at e
  | b0 :: bs, ds0 :: dss, 0, .cons _ _ l, e, nd => by
    simp at e
    subst e
    rw [List.nodup_cons] at nd
    exact .cons hb k (l.mono (fun _ _ e => e) fun p hp => hh p fun z => nd.1 (z ▸ hp))
  | b0 :: bs, ds0 :: dss, n + 1, .cons h0 k0 l, e, nd => by
    rw [List.nodup_cons] at nd
    have e : bs[n]? = some b := by simpa using e
    have ne : b0 ≠ b := fun z => nd.1 (z ▸ List.mem_of_getElem? e)
    exact .cons ((hh _ ne).trans h0) k0 (LsAll.put hb k hh l e nd.2)
theorem LsAll.length : ∀ {bs : List Addr} {dss : List (List D)}, LsAll c G H bs dss → bs.length = dss.length
  | _, _, .nil => rfl
  | _, _, .cons _ _ l => by rw [List.length_cons, List.length_cons, LsAll.length l]
theorem LsAll.snoc {b : Addr} {us : List V} {ds : List D} (hb : H b = some (.lst us)) (k : RpAll c G us ds) : ∀ {bs : List Addr} {dss : List (List D)}, LsAll c G H bs dss → LsAll c G H (bs ++ [b]) (dss ++ [ds])
  | _, _, .nil => .cons hb k .nil
  | _, _, .cons h0 k0 l => .cons h0 k0 (LsAll.snoc hb k l)
theorem map_ref_inj : ∀ {xs ys : List Addr}, xs.map V.ref = ys.map V.ref → xs = ys
  | [], [], _ => rfl
  | [], _ :: _, e => by simp at e
  | _ :: _, [], e => by simp at e
  | x :: xs, y :: ys, e => by
    rw [List.map_cons, List.map_cons, List.cons.injEq] at e
    obtain ⟨e1, e2⟩ := e
    cases e1
    rw [map_ref_inj e2]
def insK : List D → Bool
  | .ins _ _ :: _ => true
  | .tup _ :: _ => true
  | _ => false
theorem QCell.dct {a : Addr} {ks : List D} {dss : List (List D)} {os : Owns} (hk : insK ks = false) (h : QCell c B G H a ks dss os) : QDct c G H a ks dss os := by
  rcases h with h | ⟨n, ds, p, dk, dv, dx, fs, b, o, kv, us, vs, rfl, _⟩ | ⟨ks', o, kv, bs, rfl, _⟩
  · exact h
  · cases hk
  · cases hk
theorem QCell.same {a : Addr} {ks ks' : List D} {dss dss' : List (List D)} {os os' : Owns} (hk : insK ks = false) (h : QCell c B G H a ks dss os) (h' : QCell c B G' H a ks' dss' os') : os = os' := by
  obtain ⟨kvs, bs, rfl, h1, _, h3, _⟩ := h.dct hk
  rcases h' with ⟨kvs', bs', rfl, h1', _, h3', _⟩ | ⟨n', ds', p', dk', dv', dx', fs', b', o', kv', us', vs', rfl, rfl, rfl, g1, g2, g3, _⟩ | ⟨ks', o, kv, bs, rfl, rfl, g1, _⟩
  · rw [h1] at h1'
    cases h1'
    rw [h3] at h3'
    rw [map_ref_inj h3']
  · rw [h1] at g1
    cases g1
  · rw [h1] at g1
    cases g1
/-- a dict of lists stays from here on -/
theorem Sl.fzQ : ∀ {es : En} {vs : List (Option V)} {own : Owns} {i : Nat} {ks : List D} {dss : List (List D)} {x : D} {a : Addr} {os : Owns}, insK ks = false → own.Nodup → Sl c B G H es vs own → es[i]? = some (some (.q ks dss)) → vs[i]? = some (some (.ref a)) → QCell c B G H a ks dss os → Rp c G (.ref a) x →
    ∃ own', Sl c B G H (es.set i (some (.d x))) vs own' ∧ (∀ q ∈ own', q ∈ own ∧ q ∉ os) ∧ own'.Nodup := by
  intro es
  induction es with
  | nil => intro vs own i ks dss x a os _ _ _ e; simp at e
  | cons s es ih =>
    intro vs own i ks dss x a os hkk nd h e ev hq hr
    cases h with
    | skip k =>
      cases i with
      | zero => simp at e
      | succ i =>
        obtain ⟨own', h1, h2, h3⟩ := ih hkk nd k (by simpa using e) (by simpa using ev) hq hr
        exact ⟨own', .skip h1, h2, h3⟩
    | d hh k =>
      cases i with
      | zero => simp at e
      | succ i =>
        obtain ⟨own', h1, h2, h3⟩ := ih hkk nd k (by simpa using e) (by simpa using ev) hq hr
        exact ⟨own', .d hh h1, h2, h3⟩
    | @o a' b' x' _ _ own hh hb k =>
      rw [List.nodup_cons] at nd
      cases i with
      | zero => simp at e
      | succ i =>
        have e' : es[i]? = some (some (.q ks dss)) := by simpa using e
        obtain ⟨a2, os2, e2, hq2, m2⟩ := k.getQ e'
        have ea : a2 = a := by
          have : _ = some (some (V.ref a)) := (by simpa using ev)
          rw [this] at e2
          cases e2
          rfl
        subst ea
        have eo := hq2.same hkk hq
        subst eo
        obtain ⟨own', h1, h2, h3⟩ := ih hkk nd.2 k e' (by simpa using ev) hq hr
        refine ⟨a' :: own', .o hh hb h1, fun q hq' => ?_, List.nodup_cons.mpr ⟨fun hm => nd.1 (h2 a' hm).1, h3⟩⟩
        rcases List.mem_cons.mp hq' with rfl | hq'
        · exact ⟨List.mem_cons_self, fun z => nd.1 (m2 _ z)⟩
        · exact ⟨List.mem_cons_of_mem _ (h2 q hq').1, (h2 q hq').2⟩
    | @q a' ks' dss2 _ _ qs own hh k =>
      have n0 := List.nodup_append.mp nd
      cases i with
      | zero =>
        simp at e ev
        obtain ⟨rfl, rfl⟩ := e
        subst ev
        have eo := hh.same hkk hq
        subst eo
        exact ⟨own, .d hr k, fun q hq' => ⟨List.mem_append_right _ hq', fun z => n0.2.2 q z q hq' rfl⟩, n0.2.1⟩
      | succ i =>
        have e' : es[i]? = some (some (.q ks dss)) := by simpa using e
        obtain ⟨a2, os2, e2, hq2, m2⟩ := k.getQ e'
        have ea : a2 = a := by
          have : _ = some (some (V.ref a)) := (by simpa using ev)
          rw [this] at e2
          cases e2
          rfl
        subst ea
        have eo := hq2.same hkk hq
        subst eo
        obtain ⟨own', h1, h2, h3⟩ := ih hkk n0.2.1 k e' (by simpa using ev) hq hr
        refine ⟨qs ++ own', .q hh h1, fun q hq' => ?_, nodup_sub nd (fun p hp => (h2 p hp).1) h3⟩
        rcases List.mem_append.mp hq' with hq' | hq'
        · exact ⟨List.mem_append_left _ hq', fun z => n0.2.2 q hq' q (m2 _ z) rfl⟩
        · exact ⟨List.mem_append_right _ (h2 q hq').1, (h2 q hq').2⟩
theorem OkB.freezeL {os : Owns} (k : OkB c B G H own) (hp : ∀ p ∈ os, p ∈ own ∧ ∃ u, H p = some u ∧ isTbl u = false) (h1 : ∀ q ∈ own', q ∈ own ∧ q ∉ os) (h2 : own'.Nodup) : OkB c B (fun x => if x ∈ os then H x else G x) H own' := by
  refine ⟨fun a u e => ?_, fun a u e => ?_, h2, fun q hq => ?_, k.tabs, k.pint, fun a u e => ⟨(k.pin a u e).1, fun hm => (k.pin a u e).2 (h1 a hm).1⟩⟩
  · by_cases ha : a ∈ os
    · simp only [ha, if_true] at e
      exact e
    · simp only [ha, if_false] at e
      exact k.sub a u e
  · by_cases ha : a ∈ os
    · simp only [ha, if_true] at e
      obtain ⟨_, u', e1, e2⟩ := hp a ha
      rw [e1] at e
      cases e
      exact e2
    · simp only [ha, if_false] at e
      exact k.notbl a u e
  · obtain ⟨m, n⟩ := h1 q hq
    obtain ⟨o1, o2⟩ := k.out q m
    simp only [n, if_false]
    exact ⟨o1, o2⟩
theorem LsAll.all : ∀ {bs : List Addr} {dss : List (List D)}, LsAll c G H bs dss → ∀ {G' : Hp}, (∀ a o, G a = some o → G' a = some o) → (∀ b ∈ bs, G' b = H b) → RpAll c G' (bs.map V.ref) (dss.map D.lst)
  | _, _, .nil, _, _, _ => .nil
  | _, _, .cons h k l, G', s, e => .cons (.lst ((e _ List.mem_cons_self).trans h) (k.mono s)) (LsAll.all l s fun b hb => e b (List.mem_cons_of_mem _ hb))
theorem Rep.fzQ {i : Nat} {ks : List D} {dss : List (List D)} (hk : insK ks = false) (e : ρ[i]? = some (some (.q ks dss))) (r : Rep c B ts vs ρ σ H) : Rep c B ts vs (ρ.set i (some (.d (.dcq ks (dss.map D.lst))))) σ H := by
  obtain ⟨G, o1, o2, k, h1, h2⟩ := r
  obtain ⟨a, os, ev, hq, hos⟩ := h2.getQ e
  have nd := List.nodup_append.mp k.nd
  have s : ∀ b u, G b = some u → (if b ∈ os then H b else G b) = some u := fun b u eb => by
    by_cases hb : b ∈ os
    · rw [(k.out b (List.mem_append_right _ (hos b hb))).1] at eb
      cases eb
    · rw [if_neg hb]
      exact eb
  have hr : Rp c (fun x => if x ∈ os then H x else G x) (.ref a) (.dcq ks (dss.map D.lst)) := by
    obtain ⟨kvs, bs, rfl, q1, rfl, q3, q4⟩ := hq.dct hk
    refine .dct (kvs := kvs) ?_ ?_
    · simp only [List.mem_cons_self, if_true]
      exact q1
    · rw [q3]
      refine q4.all s fun b hb => ?_
      simp only [List.mem_cons_of_mem a hb, if_true]
  obtain ⟨own', g1, g2, g3⟩ := Sl.fzQ (B := B) (x := .dcq ks (dss.map D.lst)) hk nd.2.1 (h2.mono s fun _ _ => rfl) e ev (hq.mono s fun _ _ => rfl) hr
  have cells : ∀ p ∈ os, ∃ u, H p = some u ∧ isTbl u = false := fun p hp => by
    obtain ⟨u, e1, e2⟩ := hq.at_ p hp
    refine ⟨u, e1, ?_⟩
    cases u <;> first | rfl | cases e2
  refine ⟨fun x => if x ∈ os then H x else G x, o1, own', k.freezeL (os := os) (fun p hp => ⟨List.mem_append_right _ (hos p hp), cells p hp⟩) (fun q hq' => ?_) ?_, h1.mono s fun _ _ => rfl, g1⟩
  · rcases List.mem_append.mp hq' with hq' | hq'
    · exact ⟨List.mem_append_left _ hq', fun z => nd.2.2 q hq' q (hos q z) rfl⟩
    · exact ⟨List.mem_append_right _ (g2 q hq').1, (g2 q hq').2⟩
  · rw [List.nodup_append]
    exact ⟨nd.1, g3, fun x hx y hy => nd.2.2 x hx y (g2 y hy).1⟩
end
/-- a name that holds a dict of lists, read: it stays from here on -/
def mVarQ (i : Nat) : M S := fun ρ => match ρ[i]? with
  | some (some (.q ks dss)) => if insK ks then .stuck else .ok (.d (.dcq ks (dss.map D.lst))) (ρ.set i (some (.d (.dcq ks (dss.map D.lst)))))
  | _ => mVar i ρ
def isQ (ρ : En) (i : Nat) : Bool := match ρ[i]? with
  | some (some (.q _ _)) => true
  | _ => false
section
variable {c : Cfg} {W : WX} {B : Base} {ts : En} {vs : List (Option V)} {ρ : En} {σ : L2.St} {H : Hp} {tk : TE} {fk : M S}
theorem den_varQ {i : Nat} : Den c W (tVar i) (mVarQ i) := by
  intro B ts vs ρ σ H Q r h
  unfold mVarQ at h
  split at h
  · rename_i ks dss e
    cases hk : insK ks with
    | true =>
      rw [hk] at h
      exact h.elim
    | false =>
      rw [hk] at h
      have r1 := r.fzQ hk e
      have hlt := (List.getElem?_eq_some_iff.mp e).1
      obtain ⟨v, e1, r2⟩ := r1.var (i := i) (x := .dcq ks (dss.map D.lst)) (by rw [List.getElem?_set_self hlt])
      exact ⟨v, e1, h v H r2⟩
  · exact den_var B ts vs ρ σ H Q r h
theorem isQ_at {i : Nat} (h : isQ ρ i = true) (r : Rep c B ts vs ρ σ H) : ∃ a, σ[i]? = some (some (.ref a)) := by
  unfold isQ at h
  split at h
  · rename_i ks dss e
    obtain ⟨a, ev, _⟩ := r.varQ e
    exact ⟨a, ev⟩
  · cases h
end
end Fx
/-! an instance one of whose fields is a dict that changes while the instance is made -/
namespace Fx
open PySem PySem.Spec PyProof.Rows L2
open C8 (Cal Mak pe_c pe_mk)
theorem set_self {α : Type} : ∀ {l : List α} {i : Nat} {a : α}, l[i]? = some a → l.set i a = l
  | [], _, _, h => by simp at h
  | x :: l, 0, a, h => by simp at h; subst h; rfl
  | x :: l, i + 1, a, h => by
    show x :: l.set i a = x :: l
    rw [set_self (by simpa using h)]
section
variable {c : Cfg} {B : Base} {G G' H H' : Hp} {own own' : Owns} {ts : En} {vs : List (Option V)} {ρ : En} {σ : L2.St}
/-- a cell of two is taken out of its slot -/
theorem Sl.takeQ : ∀ {es : En} {vs : List (Option V)} {own : Owns} {i : Nat} {ks : List D} {dss : List (List D)}, Sl c B G H es vs own → es[i]? = some (some (.q ks dss)) → ∃ a os own', vs[i]? = some (some (.ref a)) ∧ QCell c B G H a ks dss os ∧ Sl c B G H (es.set i none) vs own' ∧ (∀ p ∈ own', p ∈ own) ∧ (∀ p ∈ os, p ∈ own) ∧ (own.Nodup → own'.Nodup ∧ os.Nodup ∧ ∀ p ∈ os, p ∉ own')
  | _, _, _, _, _, _, .nil, e => by simp at e
  | _, _, _, 0, _, _, .skip k, e => by simp at e
  | _, _, _, 0, _, _, .d h k, e => by simp at e
  | _, _, _, 0, _, _, .o h hb k, e => by simp at e
  | _, _, _, 0, _, _, @Sl.q _ _ _ _ a _ _ _ _ qs own h k, e => by
    simp at e
    obtain ⟨rfl, rfl⟩ := e
    refine ⟨a, qs, own, rfl, h, .skip k, fun p hp => List.mem_append_right _ hp, fun p hp => List.mem_append_left _ hp, fun nd => ?_⟩
    rw [List.nodup_append] at nd
    exact ⟨nd.2.1, nd.1, fun p hp hm => nd.2.2 p hp p hm rfl⟩
  | _, _, _, i + 1, _, _, .skip k, e => by
    obtain ⟨a, os, own', h1, h2, h3, h4, h5, h6⟩ := Sl.takeQ (i := i) k (by simpa using e)
    exact ⟨a, os, own', h1, h2, .skip h3, h4, h5, h6⟩
  | _, _, _, i + 1, _, _, .d h k, e => by
    obtain ⟨a, os, own', h1, h2, h3, h4, h5, h6⟩ := Sl.takeQ (i := i) k (by simpa using e)
    exact ⟨a, os, own', h1, h2, .d h h3, h4, h5, h6⟩
  | _, _, b :: own, i + 1, _, _, .o h hb k, e => by
    obtain ⟨a, os, own', h1, h2, h3, h4, h5, h6⟩ := Sl.takeQ (i := i) k (by simpa using e)
    refine ⟨a, os, b :: own', h1, h2, .o h hb h3, fun p hp => ?_, fun p hp => List.mem_cons_of_mem _ (h5 p hp), fun nd => ?_⟩
    · rcases List.mem_cons.mp hp with rfl | hp
      · exact List.mem_cons_self
      · exact List.mem_cons_of_mem _ (h4 p hp)
    · rw [List.nodup_cons] at nd
      obtain ⟨n1, n2, n3⟩ := h6 nd.2
      refine ⟨List.nodup_cons.mpr ⟨fun hm => nd.1 (h4 _ hm), n1⟩, n2, fun p hp hm => ?_⟩
      rcases List.mem_cons.mp hm with rfl | hm
      · exact nd.1 (h5 _ hp)
      · exact n3 p hp hm
  | _, _, _, i + 1, _, _, @Sl.q _ _ _ _ _ _ _ _ _ qs own h k, e => by
    obtain ⟨a, os, own', h1, h2, h3, h4, h5, h6⟩ := Sl.takeQ (i := i) k (by simpa using e)
    refine ⟨a, os, qs ++ own', h1, h2, .q h h3, fun p hp => ?_, fun p hp => List.mem_append_right _ (h5 p hp), fun nd => ?_⟩
    · rcases List.mem_append.mp hp with hp | hp
      · exact List.mem_append_left _ hp
      · exact List.mem_append_right _ (h4 p hp)
    · have n0 := List.nodup_append.mp nd
      obtain ⟨n1, n2, n3⟩ := h6 n0.2.1
      refine ⟨nodup_sub nd h4 n1, n2, fun p hp hm => ?_⟩
      rcases List.mem_append.mp hm with hm | hm
      · exact n0.2.2 _ hm _ (h5 p hp) rfl
      · exact n3 p hp hm
/-- an entry is put into an empty slot -/
theorem Sl.fill {i : Nat} {s : S} {v : V} {os : Owns} (h : Sl c B G H (ρ.set i none) σ own) (e : En1 c B G H s v os) (ev : σ[i]? = some (some v)) (nd : (os ++ own).Nodup) : ∃ own', Sl c B G H (ρ.set i (some s)) σ own' ∧ (∀ p ∈ own', p ∈ os ∨ p ∈ own) ∧ own'.Nodup := by
  obtain ⟨own', h1, h2, h3⟩ := h.set i e
  rw [List.set_set, set_self ev] at h1
  exact ⟨own', h1, h2, h3 nd⟩
end
end Fx
/-! while d[k]: .., d a dict of lists that go on to change -/
/-! dicts of lists that change, keys of any kind (tuples): d = {k: [] for ..}, d[k].append(x), d.setdefault(k, []).append(x) -/
namespace Fx
open PySem PySem.Spec PyProof.Rows L2
open C8 (Cal Mak pe_c pe_mk)
section
variable {c : Cfg} {B : Base} {G G' H H' : Hp} {own own' : Owns} {ts : En} {vs : List (Option V)} {ρ : En} {σ : L2.St}
/-- such a dict, taken out of its slot -/
theorem Rep.outX {i : Nat} {ks : List D} {dss : List (List D)} (e : ρ[i]? = some (some (.q [.tup ks] dss))) (r : Rep c B ts vs ρ σ H) : ∃ (G : Hp) (o1 o2 own' : Owns) (a : Addr) (o : Obj) (kv : List V) (bs : List Addr), OkB c B G H (o1 ++ o2) ∧ Sl c B G H ts vs o1 ∧ Sl c B G H ρ σ o2 ∧ σ[i]? = some (some (.ref a)) ∧ Sl c B G H (ρ.set i none) σ own' ∧ (∀ p ∈ own', p ∈ o2) ∧ own'.Nodup ∧
    (∀ p ∈ a :: bs, p ∈ o2 ∧ p ∉ own') ∧ (a :: bs).Nodup ∧ H a = some (xdO a o) ∧ DcO c.w a o ks kv (bs.map V.ref) ∧ RpAll c G kv ks ∧ LsAll c G H bs dss := by
  obtain ⟨G, o1, o2, k, h1, h2⟩ := r
  obtain ⟨a, os, own', ev, hq, h3, m1, m2, m3⟩ := h2.takeQ e
  obtain ⟨n1, n2, n3⟩ := m3 (List.nodup_append.mp k.nd).2.1
  rcases hq with ⟨kvs, bs, rfl, g1, e1, _⟩ | ⟨n', ds', pl, dk', dv', dx, fs, b, o, kv, us, ws, e1, _⟩ | ⟨ks', o, kv, bs, e1, rfl, g1, g2, g3, g4⟩
  · exfalso
    match kvs, e1 with
    | (.inl i, _) :: _, e => cases e
    | (.inr i, _) :: _, e => cases e
  · cases e1
  · cases e1
    exact ⟨G, o1, o2, own', a, o, kv, bs, k, h1, h2, ev, h3, m1, n1, fun p hp => ⟨m2 p hp, n3 p hp⟩, n2, g1, g2, g3, g4⟩
/-- .. and put back -/
theorem Sl.backX {i : Nat} {ks : List D} {dss : List (List D)} {a : Addr} {o : Obj} {kv : List V} {bs : List Addr} (h : Sl c B G H (ρ.set i none) σ own') (ev : σ[i]? = some (some (.ref a))) (n1 : own'.Nodup) (n2 : (a :: bs).Nodup) (n3 : ∀ p ∈ a :: bs, p ∉ own')
    (ha : H a = some (xdO a o)) (d : DcO c.w a o ks kv (bs.map V.ref)) (ka : RpAll c G kv ks) (l : LsAll c G H bs dss) : ∃ o2, Sl c B G H (ρ.set i (some (.q [.tup ks] dss))) σ o2 ∧ (∀ p ∈ o2, p ∈ a :: bs ∨ p ∈ own') ∧ o2.Nodup := by
  have en : En1 c B G H (.q [.tup ks] dss) (.ref a) (a :: bs) := .q (.inr (.inr ⟨ks, o, kv, bs, rfl, rfl, ha, d, ka, l⟩))
  exact h.fill en ev (List.nodup_append.mpr ⟨n2, n1, fun x hx y hy z => n3 x hx (z ▸ hy)⟩)
/-- it stays from here on -/
theorem Rep.fzX {i : Nat} {ks : List D} {dss : List (List D)} (e : ρ[i]? = some (some (.q [.tup ks] dss))) (r : Rep c B ts vs ρ σ H) : Rep c B ts vs (ρ.set i (some (.d (.dct ks (dss.map D.lst))))) σ H := by
  obtain ⟨G, o1, o2, own', a, o, kv, bs, k, h1, h2, ev, h3, m1, n1, m2, n2, g1, g2, g3, g4⟩ := r.outX e
  have nd := List.nodup_append.mp k.nd
  have s : ∀ b u, G b = some u → (if b ∈ a :: bs then H b else G b) = some u := fun b u eb => by
    by_cases hb : b ∈ a :: bs
    · rw [(k.out b (List.mem_append_right _ (m2 b hb).1)).1] at eb
      cases eb
    · rw [if_neg hb]
      exact eb
  have hr : Rp c (fun x => if x ∈ a :: bs then H x else G x) (.ref a) (.dct ks (dss.map D.lst)) := by
    refine .dcx (o := o) ?_ g2 (g3.mono s) ?_
    · simp only [List.mem_cons_self, if_true]
      exact g1
    · refine g4.all s fun b hb => ?_
      simp only [List.mem_cons_of_mem a hb, if_true]
  obtain ⟨own2, f1, f2, f3⟩ := (h3.mono s fun _ _ => rfl).fill (En1.d hr) ev (by rw [List.nil_append]; exact n1)
  have cells : ∀ p ∈ a :: bs, ∃ u, H p = some u ∧ isTbl u = false := fun p hp => by
    obtain ⟨u, e1, e2⟩ := QCell.at_ (c := c) (B := B) (G := G) (.inr (.inr ⟨ks, o, kv, bs, rfl, rfl, g1, g2, g3, g4⟩)) p hp
    refine ⟨u, e1, ?_⟩
    cases u <;> first | rfl | cases e2
  have sub2 : ∀ p ∈ own2, p ∈ own' := fun p hp => (f2 p hp).elim (fun h => nomatch h) id
  refine ⟨fun x => if x ∈ a :: bs then H x else G x, o1, own2, k.freezeL (os := a :: bs) (fun p hp => ⟨List.mem_append_right _ (m2 p hp).1, cells p hp⟩) (fun q hq' => ?_) ?_, h1.mono s fun _ _ => rfl, f1⟩
  · rcases List.mem_append.mp hq' with hq' | hq'
    · exact ⟨List.mem_append_left _ hq', fun z => nd.2.2 q hq' q (m2 q z).1 rfl⟩
    · exact ⟨List.mem_append_right _ (m1 q (sub2 q hq')), fun z => (m2 q z).2 (sub2 q hq')⟩
  · rw [List.nodup_append]
    exact ⟨nd.1, f3, fun x hx y hy => nd.2.2 x hx y (m1 y (sub2 y hy))⟩
/-- one of its lists is written -/
theorem Rep.writeX {i n : Nat} {ks : List D} {dss : List (List D)} {ds : List D} (e : ρ[i]? = some (some (.q [.tup ks] dss))) (ed : dss[n]? = some ds) (r : Rep c B ts vs ρ σ H) : ∃ (G : Hp) (o1 o2 : Owns) (a : Addr) (o : Obj) (kv : List V) (bs : List Addr) (b : Addr) (us : List V), OkB c B G H (o1 ++ o2) ∧ Sl c B G H ts vs o1 ∧ Sl c B G H ρ σ o2 ∧ σ[i]? = some (some (.ref a)) ∧ H a = some (xdO a o) ∧
    DcO c.w a o ks kv (bs.map V.ref) ∧ RpAll c G kv ks ∧ bs[n]? = some b ∧ H b = some (.lst us) ∧ RpAll c G us ds ∧ ∀ us2 es, RpAll c G us2 es → ∃ o3, OkB c B G (upd H b (.lst us2)) (o1 ++ o3) ∧ Sl c B G (upd H b (.lst us2)) ts vs o1 ∧ Sl c B G (upd H b (.lst us2)) (ρ.set i (some (.q [.tup ks] (dss.set n es)))) σ o3 := by
  obtain ⟨G, o1, o2, own', a, o, kv, bs, k, h1, h2, ev, h3, m1, n1, m2, n2, g1, g2, g3, g4⟩ := r.outX e
  obtain ⟨b, us, f1, f2, f3⟩ := g4.get ed
  refine ⟨G, o1, o2, a, o, kv, bs, b, us, k, h1, h2, ev, g1, g2, g3, f1, f2, f3, fun us2 es k2 => ?_⟩
  have nd := List.nodup_append.mp k.nd
  have hb : b ∈ a :: bs := List.mem_cons_of_mem _ (List.mem_of_getElem? f1)
  have n2' := List.nodup_cons.mp n2
  have ab : a ≠ b := fun z => n2'.1 (z ▸ List.mem_of_getElem? f1)
  obtain ⟨o3, q1, q2, q3⟩ := Sl.backX (h3.mono (fun _ _ e => e) fun p hp => upd_ne fun z => (m2 b hb).2 (z ▸ hp)) ev n1 n2 (fun p hp => (m2 p hp).2) (H := upd H b (.lst us2)) ((upd_ne ab).trans g1) g2 g3 (g4.put upd_same k2 (fun q hq' => upd_ne hq') f1 n2'.2)
  have sub : ∀ p ∈ o3, p ∈ o2 := fun p hp => (q2 p hp).elim (fun h => (m2 p h).1) (m1 p)
  refine ⟨o3, (k.write (List.mem_append_right _ (m2 b hb).1) f2 (.lst _)).subO (fun p hp => ?_) ?_, h1.mono (fun _ _ e => e) fun q hq' => upd_ne fun z => nd.2.2 q hq' b (m2 b hb).1 z, q1⟩
  · exact (List.mem_append.mp hp).elim (fun h => List.mem_append_left _ h) fun h => List.mem_append_right _ (sub p h)
  · exact List.nodup_append.mpr ⟨nd.1, q3, fun x hx y hy => nd.2.2 x hx y (sub y hy)⟩
theorem Rep.insX2 {st : List D} {sv : List V} {p : Addr} {o : Obj} (hl : sv.length = st.length) (r : Rep c B (tmp st ++ ts) (tmv sv ++ vs) ρ σ H) (hp : H p = none) (d : DcO c.w p o [] [] []) :
    Rep c B (tmp st ++ (some (.q [.tup []] []) :: ts)) (tmv sv ++ (some (.ref p) :: vs)) ρ σ (upd H p (xdO p o)) := by
  obtain ⟨G, o1, o2, k, h1, h2⟩ := r
  obtain ⟨a1, a2⟩ := h1.tmp hl
  have ow := own_new (o := xdO p o) k hp
  exact ⟨G, [p] ++ o1, o2, k.allocO hp, a1.tmpS (.q (.inr (.inr ⟨[], o, [], [], rfl, rfl, upd_same, d, .nil, .nil⟩)) (a2.mono (fun _ _ e => e) fun q hq => ow q (List.mem_append_left _ hq))), h2.mono (fun _ _ e => e) fun q hq => ow q (List.mem_append_right _ hq)⟩
theorem put_newK {α : Type} {ks : List D} {k : D} {l : List α} {x : α} (h : hasKey ks k = false) : putKs ks k l x = l ++ [x] := by
  unfold putKs
  rw [if_neg (by rw [h]; exact Bool.false_ne_true)]
theorem put_newV {α : Type} {ks : List D} {k : D} {l : List α} {x : α} (h : hasKey ks k = false) : putVs ks k l x = l ++ [x] := by
  unfold putVs
  rw [if_neg (by rw [h]; exact Bool.false_ne_true)]
theorem Rep.putX2 {st ks ds : List D} {dss : List (List D)} {sv : List V} {p : Addr} {v w : V} {k : D} (hl : sv.length = st.length) (hm : homog ks k = true) (hn : hasKey ks k = false) (hz : ks.length < sizeLine)
    (r : Rep c B (some (.o none (.lst ds)) :: some (.d k) :: (tmp st ++ (some (.q [.tup ks] dss) :: ts))) (some v :: some w :: (tmv sv ++ (some (.ref p) :: vs))) ρ σ H) {Nx : Hp → Prop}
    (q : ∀ H', Rep c B (tmp st ++ (some (.q [.tup (ks ++ [k])] (dss ++ [ds])) :: ts)) (tmv sv ++ (some (.ref p) :: vs)) ρ σ H' → Nx H') : PutX c H p w v Nx := by
  obtain ⟨G, o1, o2, k', h1, h2⟩ := r
  cases h1 with
  | @o b _ _ _ _ own1 hc hb h1 =>
    obtain ⟨us, eb, kb⟩ := hc
    cases h1 with
    | d hw h1 =>
      obtain ⟨a1, a2⟩ := h1.tmp hl
      cases a2 with
      | @q _ _ _ _ _ os own2 hq a2 =>
        rcases hq with ⟨kvs, bs, rfl, g1, e1, _⟩ | ⟨n', ds', pl, dk', dv', dx, fs, b, o, kv, us, ws, e1, _⟩ | ⟨ks', o, kv, bs, e1, rfl, e, hd, ka, l⟩
        · exfalso
          match kvs, e1 with
          | (.inl i, _) :: _, e => cases e
          | (.inr i, _) :: _, e => cases e
        · cases e1
        · cases e1
          have nd := k'.nd
          rw [List.cons_append, List.nodup_cons] at nd
          obtain ⟨nb, nd⟩ := nd
          rw [List.append_assoc, List.cons_append, List.nodup_cons] at nd
          obtain ⟨np, nd⟩ := nd
          rw [← List.append_assoc] at np nd
          have nbp : b ≠ p := fun z => nb (by rw [z]; simp)
          refine ⟨o, ks, kv, bs.map V.ref, k, G, e, hd, k'.sub, ka, hw, hm, hz, fun o' d' => q _ ?_⟩
          rw [put_newK hn, put_newK hn, put_newV hn] at d'
          have ne : ∀ q, q ≠ p → upd H p (xdO p o') q = H q := fun q hq => upd_ne hq
          refine ⟨G, (p :: (bs ++ [b])) ++ own2, o2, ?_, a1.tmpS (.q (.inr (.inr ⟨ks ++ [k], o', kv ++ [w], bs ++ [b], rfl, rfl, upd_same, ?_, ka.snoc hw, ?_⟩)) (a2.mono (fun _ _ e => e) fun q hq => ne q fun z => np (z ▸ (by simp [hq])))), h2.mono (fun _ _ e => e) fun q hq => ne q fun z => np (z ▸ (by simp [hq]))⟩
          · refine (k'.write (p := p) (by simp) e (dct_cell hd)).subO (fun q hq => ?_) ?_
            · simp only [List.mem_append, List.mem_cons, List.not_mem_nil, or_false] at hq ⊢
              rcases hq with ((rfl | hq | rfl) | hq) | hq
              · simp
              · simp [hq]
              · simp
              · simp [hq]
              · simp [hq]
            · have hperm : ((p :: (bs ++ [b])) ++ own2 ++ o2).Perm (b :: (p :: bs ++ own2) ++ o2) := by
                simp only [List.cons_append, List.append_assoc, List.nil_append]
                refine (List.Perm.cons p List.perm_middle).trans (List.Perm.swap _ _ _)
              rw [hperm.nodup_iff]
              exact k'.nd
          · rw [List.map_append]
            exact d'
          · exact LsAll.snoc ((ne _ nbp).trans eb) kb (l.mono (fun _ _ e => e) fun q hq => ne q fun z => np (z ▸ (by simp [hq])))
end
/-- a name that holds such a dict, read: it stays from here on -/
def mVarX (i : Nat) : M S := fun ρ => match ρ[i]? with
  | some (some (.q [.tup ks] dss)) => .ok (.d (.dct ks (dss.map D.lst))) (ρ.set i (some (.d (.dct ks (dss.map D.lst)))))
  | _ => mVarQ i ρ
/-- d[k].append(x), x a name -/
def mMethX1 (i : Nat) (fk : M S) (g : List D → D → Option (D × List D)) (j : Nat) : M S := fun ρ => if isQ ρ i then (dv fk ρ).then fun k ρ1 => match ρ1[i]?, ρ1[j]? with
    | some (some (.q [.tup ks] dss)), some (some (.d y)) => if homog ks k then match keyAt ks k with
        | some n => match dss[n]? with
          | some ds => match g ds y with
            | some (z, es) => .ok (.d z) (ρ1.set i (some (.q [.tup ks] (dss.set n es))))
            | none => .stuck
          | none => .stuck
        | none => .stuck
      else .stuck
    | _, _ => .stuck
  else .stuck
def mDCompX (gm : D → M Unit) (ft : M Bool) (fk fv : M S) (own : List Nat) : List D → List D → List (List D) → En → Out (List D × List (List D))
  | [], ks, dss, ρ => .ok (ks, dss) ρ
  | x :: xs, ks, dss, ρ => (gm x ρ).calm.then fun _ ρ1 => (ft ρ1).calm.then fun b ρ2 => if b = true then (dv fk ρ2).calm.then fun k ρ3 => (fv ρ3).calm.then fun s ρ4 => match s with
      | .o none (.lst ds) => if homog ks k && !hasKey ks k && small (ks.length + 1) then mDCompX gm ft fk fv own xs (ks ++ [k]) (dss ++ [ds]) (wipeE ρ4 own) else .stuck
      | _ => .stuck
    else mDCompX gm ft fk fv own xs ks dss (wipeE ρ2 own)
def mSetDcX (i : Nat) (fI : M (List D)) (gm : D → M Unit) (ft : M Bool) (fk fv : M S) (own : List Nat) : M Fl := fun ρ => (fI ρ).then fun items ρ1 => (mDCompX gm ft fk fv own items [] [] (wipeE ρ1 own)).then fun p ρ2 => .ok .nx (ρ2.set i (some (.q [.tup p.1] p.2)))
section
variable {c : Cfg} {W : WX} {B : Base} {ts : En} {vs : List (Option V)} {ρ : En} {σ : L2.St} {H : Hp} {tk : TE} {fk : M S}
theorem den_varX {i : Nat} : Den c W (tVar i) (mVarX i) := by
  intro B ts vs ρ σ H Q r h
  unfold mVarX at h
  split at h
  · rename_i ks dss e
    have r1 := r.fzX e
    have hlt := (List.getElem?_eq_some_iff.mp e).1
    obtain ⟨v, e1, r2⟩ := r1.var (i := i) (x := .dct ks (dss.map D.lst)) (by rw [List.getElem?_set_self hlt])
    exact ⟨v, e1, h v H r2⟩
  · exact den_varQ B ts vs ρ σ H Q r h
theorem den_methX1 {i j : Nat} {r : V → List V → Hp → VK → Prop} {g : List D → D → Option (D × List D)} (hm : MthDen c r g) (h : Den c W tk fk) : Den c W (tBM c.K "list" r (tOp (rGetX c) (tVar i) tk) (tCons (tVar j) tNil)) (mMethX1 i fk g j) := fun B ts vs ρ σ H Q rp q => by
  unfold mMethX1 at q
  split at q
  · rename_i ho
    obtain ⟨a, ev⟩ := isQ_at ho rp
    rw [post_then] at q
    refine ⟨.ref a, ev, h.dv rp (q.imp1 fun k ρ1 q1 v H1 r1 => ?_)⟩
    split at q1
    · rename_i ks dss y e1 e2
      split at q1
      · rename_i hk
        split at q1
        · rename_i n en
          split at q1
          · rename_i ds ed
            split at q1
            · rename_i z es eg
              obtain ⟨G, o1, o2, a', o, kv, bs, b, us, kk, h1, h2, ev', g1, g2, g3, f1, f2, f3, put⟩ := r1.writeX e1 ed
              rw [ev] at ev'
              cases ev'
              obtain ⟨u, eu, hu⟩ := h2.getD e2
              cases h1 with
              | d hv h1 =>
                have lk : LookX c H1 a v (some (.ref b)) := ⟨o, ks, kv, bs.map V.ref, k, G, g1, g2, kk.sub, g3, hv, hk, by
                  unfold look
                  rw [en]
                  show _ = (bs.map V.ref)[n]?
                  rw [List.getElem?_map, f1]
                  rfl⟩
                refine ⟨a, .ref b, rfl, .inl lk, .inl ⟨rfl, us, SqL.of f2⟩, u, eu, hm G H1 Q b us ds y z u es kk.sub f2 f3 hu eg fun w us2 hw hk2 => q1 w _ ?_⟩
                obtain ⟨o3, l1, l2, l3⟩ := put us2 es hk2
                cases l2 with
                | d _ l2 => exact ⟨G, o1, o3, l1, .d hw l2, l3⟩
            · exact q1.elim
          · exact q1.elim
        · exact q1.elim
      · exact q1.elim
    · exact q1.elim
  · exact q.elim
variable {wi : TI} {fI : M (List D)} {tv : TE} {fv : M S} {tt : TT} {ft : M Bool} {g : TG} {gm : D → M Unit} {js own : List Nat}
theorem ds_dcX {i : Nat} (h : DenI c W wi fI) (k : DenG c W0 g gm js) (kt : DenT c W0 tt ft) (kk : Den c W0 tk fk) (kv : Den c W0 tv fv) (hj : ∀ j ∈ js, j ∈ own) : DenS c W (tAsg (tDcX c wi g tt tk tv own) (gName i)) (mSetDcX i fI gm ft fk fv own) := fun B ts vs ρ σ H D r q => by
  unfold mSetDcX at q
  rw [post_then] at q
  refine h B ts vs ρ σ H _ r (q.imp (fun items ρ1 q J st sv H1 hl r1 w Da o0 hD hnew => ?_) fun _ _ h => h.toP)
  obtain ⟨n, Gw, Y, wk, rfl, hG, hY⟩ := w
  rw [post_then] at q
  refine dcx_it wk (fun i' H => ∃ ρ ks dss, Rep c B (tmp st ++ (some (.q [.tup ks] dss) :: ts)) (tmv sv ++ (some (.ref Da) :: vs)) ρ σ H ∧ (∀ v ∈ own, ρ.set v none = ρ) ∧
    Post (fun (p : List Fx.D × List (List Fx.D)) ρ2 => Post (EndP c B ts vs D) (ErrS c W B ts vs) (Out.ok Fl.nx (List.set ρ2 i (some (S.q [.tup p.1] p.2))))) (ErrS c W B ts vs) (mDCompX gm ft fk fv own (items.drop i') ks dss ρ)) ⟨wipeE ρ1 own, [], [], ?_, fun v hv => wipeE_at ρ1 own v hv, q⟩ (fun i' H _ ⟨ρ, ks, dss, r, _⟩ => hG _ _ _ _ _ _ r) ?_ ?_
  · exact (Rep.insX2 hl r1 hD hnew).back rfl
  · rintro i' x H1 H2 hi ⟨ρ, ks, dss, r, hw, q⟩ y
    obtain ⟨d, ed, r2⟩ := hY _ _ _ _ _ _ _ _ _ hi r y
    have hd : items.drop i' = d :: items.drop (i' + 1) := by
      rw [List.drop_eq_getElem_cons hi]
      rw [List.getElem?_eq_getElem hi] at ed
      cases ed
      rfl
    rw [hd] at q
    have q : Post _ _ ((gm d ρ).calm.then fun _ ρ1 => (ft ρ1).calm.then fun b ρ2 => _) := q
    rw [post_then] at q
    have r3 : Rep c B (some (.d d) :: (tmp st ++ (some (.q [.tup ks] dss) :: ts))) (some x :: (tmv sv ++ (some (.ref Da) :: vs))) ρ (L2.wipe σ own) H2 := by
      have := r2.wipe own
      have e := wipeE_id hw
      rw [e] at this
      exact this
    refine k B _ _ ρ _ H2 d x _ r3 (post_calm (q.imp1 fun _ ρ2 q σ2 H3 o r4 => ?_))
    have eo := Off.wipe hj o
    refine ⟨eo, ?_⟩
    rw [post_then] at q
    refine kt B _ _ ρ2 σ2 H3 _ r4 (post_calm (q.imp1 fun b ρ3 q H4 r5 => ?_))
    cases b with
    | false => exact ⟨wipeE ρ3 own, ks, dss, r5.back eo, fun v hv => wipeE_at ρ3 own v hv, q⟩
    | true =>
      have q : Post _ _ ((dv fk ρ3).calm.then fun k ρ3 => (fv ρ3).calm.then fun y ρ4 => _) := q
      rw [post_then] at q
      refine kk.dv r5 (post_calm (q.imp1 fun y ρ4 q v H5 r6 => ?_))
      rw [post_then] at q
      refine kv B _ _ ρ4 _ H5 _ r6 (post_calm (q.imp1 fun s ρ5 q u H6 r7 => ?_))
      split at q
      · rename_i ds
        split at q
        · rename_i hz
          rw [Bool.and_eq_true, Bool.and_eq_true, Bool.not_eq_true'] at hz
          obtain ⟨⟨z1, z2⟩, z3⟩ := hz
          have hz2 := small_line z3
          exact Rep.putX2 hl z1 z2 (by omega) r7 fun H' r8 => ⟨wipeE ρ5 own, _, _, r8.back eo, fun v hv => wipeE_at ρ5 own v hv, q⟩
        · exact q.elim
      · exact q.elim
  · rintro H1 ⟨ρ, ks, dss, r, _, q⟩
    rw [List.drop_length] at q
    exact q _ H1 (r.dropN hl).set
end
section
variable {X : Cx} {c : Cfg} {W : WX} {tg it kx vx a b e : Expr} {ifs : List Expr} {fI : M (List D)} {g : D → M Unit} {js : List Nat} {ft : M Bool} {fk fv fa fb : M S} {scope : Scope} {own : List (Str × Nat)} {pos p p2 apos cpos : Pos} {wi : TI} {tgt : TG} {tt : TT} {tk tv ta tb : TE} {kk : Nat} {x y : Str}
theorem s_setDcX (i : Nat) {py spos : Pos} (hr : Room kk X.A) (hw : X.w = c.w) (hN : X.N.Nodup) (hI : QI X c W tg it wi fI) (hB : BlkOk X.N X.env.scope scope own) (hG : ∀ s H C cl fp, QG (Blk X scope s H C cl fp) c W0 tg tgt g js) (hT : ∀ s H C cl fp, QTs (Blk X scope s H C cl fp) c W0 ifs tt ft)
    (hk : ∀ s H C cl fp, QE (Blk X scope s H C cl fp) c W0 kx tk fk) (hE : ∀ s H C cl fp, QE (Blk X scope s H C cl fp) c W0 vx tv fv) (hj : ∀ j ∈ js, j ∈ own.map (·.2) := by decide) (hc : X.calm = true := by rfl) (hK : X.K = c.K := by rfl) (hi : X.N[i]? = some y := by rfl) (hy : X.env.scope.names.lookup y = some .local := by rfl)
    (hsw : swapsWith (.DictComp kx vx [{ target := tg, iter := it, ifs := ifs, is_async := 0 }] scope pos) (some (.Name y py)) spos.line X.env = pure true := by rfl) (hs : ∀ x, foldedSetIterable it X.env x = pure x := by intro _; rfl) :
    QS X c W (.Assign [.Name y py] (.DictComp kx vx [{ target := tg, iter := it, ifs := ifs, is_async := 0 }] scope pos) spos) (tAsg (tDcX c wi tgt tt tk tv (own.map (·.2))) (gName i)) (mSetDcX i fI g ft fk fv (own.map (·.2))) := by
  obtain ⟨h1, h2⟩ := hI
  obtain ⟨s, H, C, cl, fp, g2, t2, k2, e2⟩ := anyPlace c _ fun s H C cl fp => And.intro (hG s H C cl fp).dn (And.intro (hT s H C cl fp).dn (And.intro (hk s H C cl fp).dn (hE s H C cl fp).dn))
  exact ⟨psDX hK hw (un10 hr) hc hN hi hy hsw h1 hB (fun s H C cl fp => (hG s H C cl fp).pe) (fun s H C cl fp => (hT s H C cl fp).pe) (fun s H C cl fp => (hk s H C cl fp).pe) (fun s H C cl fp => (hE s H C cl fp).pe) hs, ds_dcX h2 g2 t2 k2 e2 hj⟩
theorem qvX (i : Nat) (hN : X.N[i]? = some x := by rfl) (hv : Vis X.env.scope x := by first | exact Or.inl rfl | exact Or.inr (Or.inl rfl) | exact Or.inr (Or.inr rfl)) (hd : (x == ("__debug__" : Str)) = false := by decide)
    (hcd : (x == ("__classdict__" : Str)) = false := by decide) : QE X c W (.Name x p) (tVar i) (mVarX i) := ⟨pe_var hN hv hd hcd, den_varX⟩
theorem q_appendX (i j : Nat) (hr : Room kk X.A) (hw : X.w = c.w) (hk : QE X c W e tk fk) (hN : X.N[i]? = some x := by rfl) (hv : Vis X.env.scope x := by first | exact Or.inl rfl | exact Or.inr (Or.inl rfl) | exact Or.inr (Or.inr rfl)) (hd : (x == ("__debug__" : Str)) = false := by decide)
    (hcd : (x == ("__classdict__" : Str)) = false := by decide) (hNj : X.N[j]? = some y := by rfl) (hvj : Vis X.env.scope y := by first | exact Or.inl rfl | exact Or.inr (Or.inl rfl) | exact Or.inr (Or.inr rfl)) (hdj : (y == ("__debug__" : Str)) = false := by decide)
    (hcdj : (y == ("__classdict__" : Str)) = false := by decide) (hsl : PlainIx e := by exact fun _ _ => rfl) (hbase : attributeBase (.Subscript (.Name x p) e pos) "append" X.env (eval (.Subscript (.Name x p) e pos) X.env) = eval (.Subscript (.Name x p) e pos) X.env := by rfl)
    (hfew : ((backTo cpos (starEach [.Name y p2] X.env)).all (fun y => !y.1) && (backToKw cpos (keywordEach [] X.env)).all (fun y => y.1.isSome) && decide ([Expr.Name y p2].length + ([] : List Keyword).length + (if ([] : List Keyword).isEmpty then 0 else 1) < 30)) = true := by rfl) (hline : (apos.endLine == cpos.line) = true := by rfl)
    (hs : starEach [.Name y p2] X.env = (false, eval (.Name y p2) X.env) :: starEach [] X.env := by rfl) (hplain : (backTo cpos (starEach [] X.env)).any (·.1) = false := by rfl) (hK : X.K = c.K := by rfl) :
    QE X c W (.Call (.Attribute (.Subscript (.Name x p) e pos) "append" apos) [.Name y p2] [] cpos) (tBM c.K "list" rAppend (tOp (rGetX c) (tVar i) tk) (tCons (tVar j) tNil)) (mMethX1 i fk gApp j) := by
  obtain ⟨h1, h2⟩ := hk
  exact ⟨hK ▸ pe_bm PySem.F.plainAttrs_list PySem.F.slot_list_append PySem.F.type_list_append mt_append (pe_ix (ix_X hK hw (un10 hr)) (pe_var hN hv hd hcd) h1 hsl) (pa_cons (pe_var hNj hvj hdj hcdj) pa_nil hs) hbase hfew hline hs hplain, den_methX1 md_app h2⟩
end
end Fx
/-! x or y, x any value whose truth is known -/
namespace Fx
open PySem PySem.Spec PyProof.Rows L2
def mOrT (f g : M S) : M S := fun ρ => (dv f ρ).then fun x ρ1 => match truD x with
  | some b => if b = true then .ok (.d x) ρ1 else g ρ1
  | none => .stuck
section
variable {X : Cx} {c : Cfg} {W : WX} {ta tb : TE} {fa fb : M S} {a b : Expr} {es : List Expr} {pos : Pos}
theorem den_orT (h : Den c W ta fa) (k : Den c W tb fb) : Den c W (tOrT c.K ta tb) (mOrT fa fb) := fun B ts vs ρ σ H Q r q => by
  unfold mOrT at q
  rw [post_then] at q
  refine h.dv r (q.imp1 fun x ρ1 q v H1 r1 => ?_)
  split at q
  · rename_i b e
    obtain ⟨G, O, hv⟩ := r1.one
    refine ⟨b, hv.tru O.sub e, ?_⟩
    cases b with
    | true => exact q v H1 r1
    | false => exact k B ts vs ρ1 σ H1 Q r1.drop q
  · exact q.elim
theorem q_orT (h : QE X c W a ta fa) (k : QE X c W (.BoolOp .Or (b :: es) pos) tb fb) (hK : X.K = c.K := by rfl) : QE X c W (.BoolOp .Or (a :: b :: es) pos) (tOrT c.K ta tb) (mOrT fa fb) := by
  obtain ⟨h1, h2⟩ := h; obtain ⟨k1, k2⟩ := k
  exact ⟨hK ▸ pe_orT h1 k1, den_orT h2 k2⟩
end
end Fx
/-! sum, max, min of a list of ints -/
/-! t.index(x) of a tuple of tuples of numbers; min of a list or tuple of data that can be compared -/
namespace Fx
open PySem PySem.Spec PyProof.Rows L2 PySem.SeqAt
open PySem.W (AlikeAll minD alike dataLt min_list_data min_tuple_data readsAll_at)
section
variable {X : Cx} {o f : Expr} {to tf : TE} {apos cpos : Pos}
def tIdxT (K : PySem.W.Frag) (to tf : TE) : TE := fun σ H Q => to σ H fun x H1 => (∃ a xs, x = .ref a ∧ SqN H1 a xs) ∧ tCons tf tNil σ H1 fun us H2 =>
  ∃ y, us = [y] ∧ ∃ d ds j, Dp K H2 y d ∧ Dp K H2 x (.tuple ds) ∧ d.plain = true ∧ PyData.plainAll ds = true ∧ d.depth ≤ 64 ∧ dataPlace ds d = some j ∧ Q (.int (j : Nat)) H2
theorem pe_idxT (hu : X.A.units + 66 < cLine) (ho : PE X o to) (hf : PE X f tf)
    (hbase : attributeBase o "index" X.env (eval o X.env) = eval o X.env := by rfl)
    (hfew : ((backTo cpos (starEach [f] X.env)).all (fun y => !y.1) && (backToKw cpos (keywordEach [] X.env)).all (fun y => y.1.isSome) && decide ([f].length + ([] : List Keyword).length + (if ([] : List Keyword).isEmpty then 0 else 1) < 30)) = true := by rfl) (hline : (apos.endLine == cpos.line) = true := by rfl)
    (hs : starEach [f] X.env = (false, eval f X.env) :: starEach [] X.env := by rfl) (hplain : (backTo cpos (starEach [] X.env)).any (·.1) = false := by rfl) :
    PE X (.Call (.Attribute o "index" apos) [f] [] cpos) (tIdxT X.K to tf) := by
  refine ⟨fun pins s σ H Q I h => wpAny_Call_method_late hbase hfew hline rfl (thn (ho.run pins s σ H _ I h) fun v s1 ⟨x, H1, I1, r1, ⟨a, xs, ex, ob, hob, hdn⟩, q1⟩ => ?_)⟩
  subst ex
  cases r1
  obtain ⟨hget, _⟩ := I1.hok a _ hob
  obtain ⟨_, _, pt, _⟩ := I1.tuple (.inl (.inr ⟨ob, hob⟩))
  refine ⟨"tuple", "tuple.index", PySem.F.plainAttrs_tuple, PySem.F.slot_tuple_index, PySem.F.type_tuple_index, pt.typeIs, fun b e => by cases e; exact ⟨ob, hget, hdn⟩, ?_⟩
  have hA := (pa_cons hf pa_nil hs).run cpos pins s1 σ H1 _ I1 q1
  rw [hs] at hA ⊢
  refine Calls.callWith_builtin (by show (false || (backTo cpos (starEach [] X.env)).any (·.1)) = false; rw [hplain] <;> rfl) (Calls.evalArgs_plain (thn hA fun us s2 ⟨vs, H2, I2, r2, y, ey, d, ds, j, hd, ht, pd, pds, dd, hp, q⟩ => ?_))
  subst ey
  obtain ⟨u, rfl, ru⟩ := vals1 r2
  obtain ⟨as, rx⟩ := Dp.reads I2 d _ _ hd ru
  obtain ⟨bs, rt⟩ := Dp.reads I2 _ _ _ ht rfl
  cases rt with
  | tuple k1 k2 k3 k4 =>
    rename_i ob2 vs n
    obtain ⟨cls, dct, dat, sl⟩ := ob2
    simp only at k2 k3
    subst k2 k3
    obtain ⟨hj, hit, hno⟩ := hit_at k4 pds hp
    exact call_meets PySem.F.slot_tuple_index ⟨_, k1, rfl⟩ PySem.F.entry_tuple_index (PySem.F.args_tuple_index_2 _ _) (TI.tuple_indexAt a vs n dct sl u (fun y => PyData.eqv (readOf s2.heap y) d) j hj hit hno)
      ⟨k1, items_plain k4 rx pds pd (by have : min (PyData.depthAll ds) d.depth ≤ d.depth := Nat.min_le_right _ _; show X.A.units + 1 + _ < _; omega), ⟨.int (j : Nat), H2, I2.tok _, ⟨_, rfl⟩, q⟩⟩
end
/-! ### on data -/
mutual
theorem toP_inj : ∀ {n m : Nat} {d e : D}, pl n d = true → pl m e = true → toP d = toP e → d = e
  | n, m, .non, e, h, k, q => by cases e <;> cases m <;> simp [toP, pl] at q k ⊢
  | n, m, .bl b, e, h, k, q => by cases e <;> cases m <;> simp [toP, pl] at q k ⊢ <;> assumption
  | n, m, .int i, e, h, k, q => by cases e <;> cases m <;> simp [toP, pl] at q k ⊢ <;> assumption
  | n, m, .str x, e, h, k, q => by cases e <;> cases m <;> simp [toP, pl] at q k ⊢ <;> assumption
  | 0, m, .tup ds, e, h, k, q => by simp [pl] at h
  | 0, m, .lst ds, e, h, k, q => by simp [pl] at h
  | n + 1, m, .tup ds, e, h, k, q => by
    cases e <;> cases m <;> simp [toP, pl] at q k ⊢
    simp only [pl] at h
    exact toPs_inj h k q
  | n + 1, m, .lst ds, e, h, k, q => by
    cases e <;> cases m <;> simp [toP, pl] at q k ⊢
    simp only [pl] at h
    exact toPs_inj h k q
  | n, m, .ty x, e, h, k, q => by simp [pl] at h
  | n, m, .ins x y, e, h, k, q => by simp [pl] at h
  | n, m, .dct x y, e, h, k, q => by simp [pl] at h
  | n, m, .scr x, e, h, k, q => by simp [pl] at h
  | n, m, .fn x, e, h, k, q => by simp [pl] at h
theorem toPs_inj : ∀ {n m : Nat} {ds es : List D}, plA n ds = true → plA m es = true → toPs ds = toPs es → ds = es
  | _, _, [], [], _, _, _ => rfl
  | _, _, [], _ :: _, _, _, q => by simp [toPs] at q
  | _, _, _ :: _, [], _, _, q => by simp [toPs] at q
  | n, m, d :: ds, e :: es, h, k, q => by
    simp only [plA, Bool.and_eq_true] at h k
    simp only [toPs, List.cons.injEq] at q
    rw [toP_inj h.1 k.1 q.1, toPs_inj h.2 k.2 q.2]
end
/-- the place of x among the items -/
def placeD (ds : List D) (x : D) : Option Nat := ds.findIdx? fun y => eqD y x
def mIdxT (fe ff : M S) : M S := fun ρ => (dv fe ρ).then fun x ρ1 => match x with
  | .tup ds => if arcy ds then (dv ff ρ1).then fun y ρ2 => if pl60 y && plA 60 ds then (match placeD ds y with
    | some j => .ok (.d (.int (j : Nat))) ρ2
    | none => .stuck) else .stuck else .stuck
  | _ => .stuck
section
variable {c : Cfg} {W : WX} {te tf : TE} {fe ff : M S}
theorem den_idxT (h : Den c W te fe) (k : Den c W tf ff) : Den c W (tIdxT c.K te tf) (mIdxT fe ff) := fun B ts vs ρ σ H Q r q => by
  unfold mIdxT at q
  rw [post_then] at q
  refine h.dv r (q.imp1 fun x ρ1 q v H1 r1 => ?_)
  split at q
  · rename_i ds
    by_cases hy : arcy ds = true
    case neg => rw [if_neg hy] at q; exact q.elim
    rw [if_pos hy] at q
    obtain ⟨G, O, hv⟩ := r1.one
    obtain ⟨a, us, rfl, ha, ka, na⟩ := hv.tupN
    obtain ⟨ob, h1, h2⟩ := na hy
    rw [post_then] at q
    refine ⟨⟨a, us, rfl, ob, O.sub _ _ h1, h2⟩, k.dv r1 (q.imp (fun y ρ2 q w H2 r2 => ?_) fun _ _ h => h.drop)⟩
    by_cases hp : (pl60 y && plA 60 ds) = true
    case neg => rw [if_neg hp] at q; exact q.elim
    rw [if_pos hp] at q
    rw [Bool.and_eq_true] at hp
    cases e : placeD ds y with
    | none => rw [e] at q; exact q.elim
    | some j =>
      rw [e] at q
      obtain ⟨G2, O2, g1, g2⟩ := r2.two
      have t := g1.dp (n := 61) O2.sub (by simpa [pl] using hp.2)
      simp only [toP] at t
      refine ⟨w, rfl, toP y, toPs ds, j, g2.dp O2.sub hp.1, t, (pl60_shaped hp.1).1, (plA_plain hp.2).1, Nat.le_trans (pl60_shaped hp.1).2 (by decide), ?_, q _ _ (O2.val (.int _))⟩
      unfold dataPlace
      rw [toPs_map, List.findIdx?_map]
      exact e
  · exact q.elim
/-- data that can be compared with one another -/
def alikeB (ds : List D) : Bool := ds.all fun x => (match x with | .non => false | _ => true) && ds.all fun y => alike (toP x) (toP y)
def minDD (d : D) (ds : List D) : D := ds.foldl (fun a y => if dataLt (toP y) (toP a) then y else a) d
theorem toP_minDD : ∀ (ds : List D) (d : D), toP (minDD d ds) = minD (toP d) (ds.map toP)
  | [], _ => rfl
  | y :: ds, d => by
    show toP (minDD (if dataLt (toP y) (toP d) then y else d) ds) = minD (if dataLt (toP y) (toP d) then toP y else toP d) (ds.map toP)
    rw [toP_minDD ds]
    split <;> rfl
theorem minDD_mem : ∀ (ds : List D) (d : D), minDD d ds ∈ d :: ds
  | [], d => List.mem_singleton.mpr rfl
  | y :: ds, d => by
    show minDD (if dataLt (toP y) (toP d) then y else d) ds ∈ d :: y :: ds
    have := minDD_mem ds (if dataLt (toP y) (toP d) then y else d)
    rcases List.mem_cons.mp this with h | h
    · rw [h]
      split
      · exact List.mem_cons_of_mem _ List.mem_cons_self
      · exact List.mem_cons_self
    · exact List.mem_cons_of_mem _ (List.mem_cons_of_mem _ h)
theorem alike_of {ds : List D} (hp : plA 60 ds = true) (h : alikeB ds = true) : AlikeAll (toPs ds) := by
  rw [toPs_map]
  unfold alikeB at h
  rw [List.all_eq_true] at h
  refine ⟨fun x hx y hy => ?_, fun x hx e => ?_⟩
  · obtain ⟨a, ha, rfl⟩ := List.mem_map.mp hx
    obtain ⟨b, hb, rfl⟩ := List.mem_map.mp hy
    have := h a ha
    rw [Bool.and_eq_true] at this
    exact List.all_eq_true.mp this.2 b hb
  · obtain ⟨a, ha, rfl⟩ := List.mem_map.mp hx
    have := h a ha
    rw [Bool.and_eq_true] at this
    have p := List.all_eq_true.mp (plA_all.symm.trans hp) a ha
    cases a <;> simp [toP, pl] at e this p
end
section
variable {X : Cx} {c : Cfg} {W : WX} {e f : Expr} {te tf : TE} {fe ff : M S} {apos cpos : Pos} {k : Nat}
theorem q_idxT (hr : Room k X.A) (he : QE X c W e te fe) (hf : QE X c W f tf ff) (hbase : attributeBase e "index" X.env (eval e X.env) = eval e X.env := by rfl)
    (hfew : ((backTo cpos (starEach [f] X.env)).all (fun y => !y.1) && (backToKw cpos (keywordEach [] X.env)).all (fun y => y.1.isSome) && decide ([f].length + ([] : List Keyword).length + (if ([] : List Keyword).isEmpty then 0 else 1) < 30)) = true := by rfl) (hline : (apos.endLine == cpos.line) = true := by rfl)
    (hs : starEach [f] X.env = (false, eval f X.env) :: starEach [] X.env := by rfl) (hplain : (backTo cpos (starEach [] X.env)).any (·.1) = false := by rfl) (hK : X.K = c.K := by rfl) :
    QE X c W (.Call (.Attribute e "index" apos) [f] [] cpos) (tIdxT c.K te tf) (mIdxT fe ff) :=
  ⟨hK ▸ pe_idxT (un66 hr) he.1 hf.1 hbase hfew hline hs hplain, den_idxT he.2 hf.2⟩
end
end Fx
/-! for i, x in enumerate(t, start=k), t a tuple, k written -/
namespace Fx
open PySem PySem.Spec PyProof.Rows L2
/-- the tuple at a, each item in a new pair with its place from k on -/
def ItS (K : PySem.W.Frag) (k : Int) (a : Addr) : It where
  go := fun i H => ∃ xs x, SqT K H a xs ∧ xs[i]? = some x
  yld := fun i H v H' => ∃ T x, v = .ref T ∧ H T = none ∧ H' = upd H T (.tup [.int (k + (i : Nat)), x]) ∧ ∀ xs, SqT K H a xs → xs[i]? = some x
  stop := fun i H => ∃ xs : List V, SqT K H a xs ∧ xs.length = i
theorem turnS {P : Program} {w : World} {K : PySem.W.Frag} {elts : List Expr} {kk : Nat} {tpos : Pos} (k : Int) (a e it : Addr) (hai : a ≠ it) (hea : e ≠ a) :
    Turn P w K (.Tuple elts kk tpos) (ItS K k a) [e, it] e (fun i h => (∃ old, IsEnum h e it (k + (i : Nat)) old) ∧ h.IsTupleIter it a i ∧ e ≠ it) where
  mem := List.mem_cons_self
  obj := by
    rintro i h ⟨⟨old, he⟩, ⟨o, ho, _, hd⟩, _⟩ b hb
    rcases List.mem_cons.mp hb with rfl | hb
    · exact ⟨_, he, fun v q => nomatch q⟩
    · obtain rfl := List.mem_singleton.mp hb
      exact ⟨o, ho, fun v q => by rw [hd] at q; cases q⟩
  keep := by
    rintro i h h' ⟨⟨old, he⟩, hi, hne⟩ k
    exact ⟨⟨old, k e List.mem_cons_self _ he⟩, hi.at fun o q => k it (List.mem_cons_of_mem _ List.mem_cons_self) o q, hne⟩
  item := by
    rintro X rfl rfl rfl hc i pins s σ H E I hf ⟨⟨old, he⟩, hit, hne⟩ ⟨xs, x, hq, hx⟩
    obtain ⟨its, rv, p, hz⟩ := I.tuple hq
    obtain ⟨u, hu, ru⟩ := rv.get hx
    have hel : e < s.heap.objs.size := Heap.lt_size he
    have hil : it < s.heap.objs.size := by
      obtain ⟨_, q, _⟩ := hit
      exact Heap.lt_size q
    have hlt : i < its.toArray.size := by
      have := (List.getElem?_eq_some_iff.mp hu).1
      simpa using this
    have D := Draws.tuple (prog := X.prog) (w := X.w) (A := X.A.in1) (I.ok.hd hc) it a hai its.toArray
    refine wpAny_pyNext_enum_itemC D he ⟨hit, p⟩ hlt hne (by simp [hne, hea]) fun y h' tk hy ho hit' hT hsz hk => ?_
    have yu : y = u := by
      have hy' : its[i]? = some y := by simpa using hy
      rw [hu] at hy'
      exact (Option.some.inj hy').symm
    subst yu
    refine ⟨_, rfl, wpAny_letOwnedTupleGo_enum (s := { s with heap := h', toks := tk + 1 }) ho fun h'' he' sb => ?_⟩
    have hT2 : h''.get? s.heap.objs.size = some { cls := .type "tuple", data := .seq #[.int (k + (i : Nat)) tk, y] } := (sb.2 _ (Nat.ne_of_gt hel)).trans hT
    have new : ObjOk X.prog X.w (upd H s.heap.objs.size (.tup [.int (k + (i : Nat)), x])) h'' s.heap.objs.size (.tup [.int (k + (i : Nat)), x]) :=
      ⟨(by decide : 2 ≤ sizeLine), [.int (k + (i : Nat)) tk, y], .cons ⟨_, rfl⟩ (.cons ru .nil), ⟨_, hT2, rfl, _, rfl⟩⟩
    have nin : ∀ b, b ∉ [e, it] → b ≠ e ∧ b ≠ it := fun b hb => ⟨fun z => hb (z ▸ List.mem_cons_self), fun z => hb (z ▸ List.mem_cons_of_mem _ List.mem_cons_self)⟩
    have I1 : Inv X pins σ (upd H s.heap.objs.size (.tup [.int (k + (i : Nat)), x])) { s with heap := h'', toks := tk + 1 } :=
      I.turnedNew (ch := [e, it]) (fun b ob hb q => (sb.2 b (nin b hb).1).trans (hk b ob (nin b hb).1 (nin b hb).2 q)) hf (Nat.le_refl _) new
    refine ⟨.ref s.heap.objs.size, _, I1, rfl, ⟨_, x, rfl, I.hok.fresh (Nat.le_refl _), rfl, fun ys hy2 => by rw [I.tuple_inj hy2 hq]; exact hx⟩, ⟨⟨y, ?_⟩, hit'.1.at fun o q => (sb.2 it (Ne.symm hne)).trans q, hne⟩, fun b hb => ?_⟩
    · have e1 : k + ((i + 1 : Nat) : Int) = k + (i : Nat) + 1 := by omega
      rw [e1]
      exact he'
    · have hb' : b < s.heap.objs.size := by
        rcases List.mem_cons.mp hb with rfl | hb
        · exact hel
        · obtain rfl := List.mem_singleton.mp hb
          exact hil
      rw [upd_ne (Nat.ne_of_lt hb')]
      exact (hf b hb).1
  done := by
    rintro X rfl rfl rfl hc i pins s σ H E I hf ⟨⟨old, he⟩, hit, hne⟩ ⟨xs, hq, hx⟩
    obtain ⟨its, rv, p, hz⟩ := I.tuple hq
    have D := Draws.tuple (prog := X.prog) (w := X.w) (A := X.A.in1) (I.ok.hd hc) it a hai its.toArray
    obtain ⟨f0, f1, f2, f3, f4, f5⟩ := hf it (List.mem_cons_of_mem _ List.mem_cons_self)
    have hl := rv.length
    have e1 : i = its.toArray.size := by simp only [List.size_toArray]; omega
    refine wpAny_pyNext_enum_endD D he (e1 ▸ ⟨hit, p⟩) fun h' eb => ⟨rfl, I.turned (t' := s.toks) (fun b o hb q => eb b o hb q) f0 f1 f3 f4 f5⟩
  self := by
    rintro A i s Q E ⟨⟨_, he⟩, _⟩ h
    exact wpAny_pyIter_enum he h
section
variable {M : Model} {A : Around} {E : Value → Shared → Prop} {s : Shared} {env : Env}
/-- T(.., name=e), T a built-in type -/
theorem callType_kw {pos : Pos} {T : String} {e : Expr} {rest : List Expr} {kws : List Keyword} {Q : Value → Shared → Prop}
    (h : wpAny M A (spliced (backTo pos (starEach (e :: rest) env))) (fun vs s1 => wpAny M A (evalAll ((backToKw pos (keywordEach kws env)).map (·.2))) (fun ws s2 => wpAny M A (call (.type T) vs (((backToKw pos (keywordEach kws env)).filterMap (·.1)).zip ws)) Q E s2) E s1) E s)
    (he : backTo pos (starEach (e :: rest) env) = (false, eval e env) :: backTo pos (starEach rest env)) (hp : (backTo pos (starEach (e :: rest) env)).any (·.1) = false) (ha : (backToKw pos (keywordEach kws env)).all (·.1.isSome) = true) (hn : (backToKw pos (keywordEach kws env)).any (·.1.isNone) = false) :
    wpAny M A (callWith pos (.type T) [] (backTo pos (starEach (e :: rest) env)) (backToKw pos (keywordEach kws env))) Q E s := by
  unfold callWith
  apply wpAny_bind
  apply wpAny_holding
  have k : wpAny M A (evalArgs (.type T) true (backTo pos (starEach (e :: rest) env)) (backToKw pos (keywordEach kws env))) (fun x s1 => wpAny M A (call (.type T) x.pos x.kw) Q E s1) E s := by
    rw [he] at h ⊢
    exact evalArgs_kwB ha h
  refine wpAny_mono k (fun x s1 h1 => ?_) fun _ _ z => z
  apply wpAny_bind
  apply wpAny_standAt
  simp only [hp, hn, Bool.or_false]
  apply wpAny_bind
  apply wpAny_pure
  apply wpAny_bind
  refine wpAny_mono h1 (fun r s2 h2 => ?_) fun _ _ z => z
  exact wpAny_bind (wpAny_holding (wpAny_point (wpAny_pure h2)))
end
def iEnumS (K : PySem.W.Frag) (ta tk : TA) : TI := fun σ H R => ta σ H fun vs H1 => tk σ H1 fun zs H2 => ∃ (a : Addr) (xs : List V) (k : Int), vs = [.ref a] ∧ zs = [.int k] ∧ -(2 ^ 62) ≤ k ∧ k < 2 ^ 62 ∧ SqT K H2 a xs ∧ R (ItS K k a) H2
theorem pi_enumS {X : Cx} {e : Expr} {ta tk : TA} {p pos tpos : Pos} {elts : List Expr} {kk : Nat} {kws : List Keyword} (hg : Gl X "enumerate") (hm : X.mg "enumerate" = none) (ha : PA X [e] ta) (hk : PK X kws tk)
    (he : backTo pos (starEach [e] X.env) = (false, eval e X.env) :: backTo pos (starEach [] X.env) := by rfl) (hp : (backTo pos (starEach [e] X.env)).any (·.1) = false := by rfl)
    (hall : (backToKw pos (keywordEach kws X.env)).all (·.1.isSome) = true := by rfl) (hn : (backToKw pos (keywordEach kws X.env)).any (·.1.isNone) = false := by rfl) (hks : (backToKw pos (keywordEach kws X.env)).filterMap (·.1) = [Str.ofString "start"] := by rfl) :
    PI X (.Tuple elts kk tpos) (.Call (.Name "enumerate" p) [e] kws pos) (iEnumS X.K ta tk) := by
  constructor
  intro pins s σ H R I h
  refine wpAny_Call_Name_kw (ld_blt I hg hm boot_enumerate ?_)
  refine callType_kw (thn (ha.run pos pins s σ H _ I h) fun us s1 ⟨vs, H1, I1, r1, q1⟩ => thn (hk.run pos pins s1 σ H1 _ I1 q1) fun ws s2 ⟨zs, H2, I2, r2, a, xs, k, ev, ez, k0, k1, hq, q⟩ => ?_) he hp hall hn
  subst ev ez
  obtain ⟨u, rfl, ru⟩ := vals1 r1
  cases ru
  obtain ⟨v, rfl, t, rfl⟩ := vals1 r2
  rw [hks]
  obtain ⟨its, rv, p', hz⟩ := I2.tuple hq
  have hal : a < s2.heap.objs.size := by
    obtain ⟨_, q, _⟩ := p'
    exact Heap.lt_size q
  refine enum_begins_start (begins_tuple a its.toArray) p' (by omega) (by omega) fun h' he' hit len kp => wpAny_pyIter_enum he' ?_
  refine ⟨s2.heap.objs.size + 1, [s2.heap.objs.size + 1, s2.heap.objs.size], _, _, H2, rfl, I2.kept (t' := s2.toks) kp, turnS k a (s2.heap.objs.size + 1) s2.heap.objs.size (Nat.ne_of_lt hal) (Nat.ne_of_gt (Nat.lt_succ_of_lt hal)),
    ⟨⟨.none, by rw [show k + ((0 : Nat) : Int) = k from by omega]; exact he'⟩, ⟨_, hit, rfl, rfl⟩, Nat.succ_ne_self _⟩, fun b hb => ?_, q⟩
  have hle : s2.heap.objs.size ≤ b := by
    rcases List.mem_cons.mp hb with rfl | hb
    · exact Nat.le_succ _
    · exact Nat.le_of_eq (List.mem_singleton.mp hb).symm
  exact I2.fpOk hle (I2.hok.fresh hle)
/-! ### on data: a start from 0 on -/
def iEnuS (k : Nat) (fA : M (List D)) : M (List D) := fun ρ => (fA ρ).then fun ds ρ' => match ds with
  | [.tup es] => .ok (enumD k es) ρ'
  | _ => .stuck
section
variable {c : Cfg} {W : WX} {tA : TA} {fA : M (List D)}
theorem walk_enuS {a : Addr} {ds : List D} {k : Nat} : IsWalk c [.tup ds] [.ref a] (ItS c.K (k : Nat) a) (enumD k ds) := by
  refine ⟨ds.length, SrcAt c false ds.length a, fun i H y H' => ∃ T z, y = .ref T ∧ H T = none ∧ H' = upd H T (.tup [.int (((k + i : Nat) : Nat) : Int), z]) ∧ TurnAt c false a i H z, ⟨?_, ?_, ?_⟩, (enumD_length ds k).symm, fun B ts vs ρ σ H r => src_of (x := .tup ds) rfl r, ?_⟩
  · rintro i H hi ⟨us, h1, h2⟩
    exact ⟨us, us[i]'(by omega), h1, List.getElem?_eq_getElem (by omega)⟩
  · rintro H ⟨us, h1, h2⟩
    exact ⟨us, h1, h2⟩
  · rintro i H y H' _ _ ⟨T, x, h1, h2, h3, h4⟩
    refine ⟨T, x, h1, h2, ?_, fun us h => h4 us h⟩
    rw [h3, show (k : Int) + (i : Nat) = ((k + i : Nat) : Int) from by omega]
  · rintro B ts vs ρ σ H i y H' hk r ⟨T, z, rfl, hT, rfl, t⟩
    obtain ⟨G, O, h⟩ := r.top
    obtain ⟨a', us, e1, h1, kk⟩ := h.seq O.sub (x := .tup ds) rfl
    cases e1
    obtain ⟨d, ed, hd⟩ := kk.getV (t us h1)
    exact ⟨_, enumD_get ds k i d ed, O.new hT rfl fun G' m e' => .tup (.inl (.inl e')) (.cons (.int _) (.cons (hd.mono m) .nil)) fun z => nomatch z⟩
theorem di_enuS {k : Nat} (hk : k < 1000000) (h : DenA c W tA fA) : DenI c W (iEnumS c.K tA (tCons (tC (.int (k : Nat))) tNil)) (iEnuS k fA) := fun B ts vs ρ σ H R r q => by
  unfold iEnuS at q
  rw [post_then] at q
  refine h B ts vs ρ σ H _ r (q.imp1 fun ds ρ' p us H' hlen r' => ?_)
  split at p
  · rename_i es
    match us, hlen with
    | [v], _ =>
      obtain ⟨G, O, hv⟩ := Rep.top (ts := ts) (vs := vs) r'
      obtain ⟨a, us, rfl, h1, kk⟩ := hv.seq O.sub (x := .tup es) rfl
      exact ⟨a, us, k, rfl, rfl, by omega, by omega, h1, p _ [.tup es] [.ref a] H' rfl r' walk_enuS⟩
  · exact p.elim
end
section
variable {X : Cx} {c : Cfg} {W : WX} {a : Expr} {fA : M (List D)} {tA : TA} {es : List Expr} {kk k : Nat} {tpos pos p cp kp : Pos} {j : Nat}
theorem i_enumS (hm : X.mg "enumerate" = none) (h : QA X c W [a] tA fA) (hk : k < 1000000 := by decide) (hg : Gl X "enumerate" := by rfl) (hK : X.K = c.K := by rfl) (he : backTo pos (starEach [a] X.env) = (false, eval a X.env) :: backTo pos (starEach [] X.env) := by rfl) (hp : (backTo pos (starEach [a] X.env)).any (·.1) = false := by rfl) :
    QI X c W (.Tuple es kk tpos) (.Call (.Name "enumerate" p) [a] [⟨some "start", .Constant (.int (k : Nat)) j cp, kp⟩] pos) (iEnumS c.K tA (tCons (tC (.int (k : Nat))) tNil)) (iEnuS k fA) := by
  obtain ⟨h1, h2⟩ := h
  exact ⟨hK ▸ pi_enumS hg hm h1 (pk_cons pe_int pk_nil) he hp, di_enuS hk h2⟩
end
end Fx
/-! for i, x in enumerate(v, start=k), v a list or a tuple, k written -/
namespace Fx
open PySem PySem.Spec PyProof.Rows L2
/-- the tuple at a, each item in a new pair with its place from k on -/
def ItSL (K : PySem.W.Frag) (k : Int) (a : Addr) : It where
  go := fun i H => ∃ xs x, SqL K H a xs ∧ xs[i]? = some x
  yld := fun i H v H' => ∃ T x, v = .ref T ∧ H T = none ∧ H' = upd H T (.tup [.int (k + (i : Nat)), x]) ∧ ∀ xs, SqL K H a xs → xs[i]? = some x
  stop := fun i H => ∃ xs : List V, SqL K H a xs ∧ xs.length = i
theorem turnSL {P : Program} {w : World} {K : PySem.W.Frag} {elts : List Expr} {kk : Nat} {tpos : Pos} (k : Int) (a e it : Addr) (hai : a ≠ it) (hea : e ≠ a) :
    Turn P w K (.Tuple elts kk tpos) (ItSL K k a) [e, it] e (fun i h => (∃ old, IsEnum h e it (k + (i : Nat)) old) ∧ h.IsListIter it a i ∧ e ≠ it) where
  mem := List.mem_cons_self
  obj := by
    rintro i h ⟨⟨old, he⟩, ⟨o, ho, _, hd⟩, _⟩ b hb
    rcases List.mem_cons.mp hb with rfl | hb
    · exact ⟨_, he, fun v q => nomatch q⟩
    · obtain rfl := List.mem_singleton.mp hb
      exact ⟨o, ho, fun v q => by rw [hd] at q; cases q⟩
  keep := by
    rintro i h h' ⟨⟨old, he⟩, hi, hne⟩ k
    exact ⟨⟨old, k e List.mem_cons_self _ he⟩, hi.at fun o q => k it (List.mem_cons_of_mem _ List.mem_cons_self) o q, hne⟩
  item := by
    rintro X rfl rfl rfl hc i pins s σ H E I hf ⟨⟨old, he⟩, hit, hne⟩ ⟨xs, x, hq, hx⟩
    obtain ⟨its, rv, p, hz⟩ := I.list hq
    obtain ⟨u, hu, ru⟩ := rv.get hx
    have hel : e < s.heap.objs.size := Heap.lt_size he
    have hil : it < s.heap.objs.size := by
      obtain ⟨_, q, _⟩ := hit
      exact Heap.lt_size q
    have hlt : i < its.toArray.size := by
      have := (List.getElem?_eq_some_iff.mp hu).1
      simpa using this
    have D := Draws.list (prog := X.prog) (w := X.w) (A := X.A.in1) (I.ok.hd hc) it a hai its.toArray
    refine wpAny_pyNext_enum_itemC D he ⟨hit, p.isList⟩ hlt hne (by simp [hne, hea]) fun y h' tk hy ho hit' hT hsz hk => ?_
    have yu : y = u := by
      have hy' : its[i]? = some y := by simpa using hy
      rw [hu] at hy'
      exact (Option.some.inj hy').symm
    subst yu
    refine ⟨_, rfl, wpAny_letOwnedTupleGo_enum (s := { s with heap := h', toks := tk + 1 }) ho fun h'' he' sb => ?_⟩
    have hT2 : h''.get? s.heap.objs.size = some { cls := .type "tuple", data := .seq #[.int (k + (i : Nat)) tk, y] } := (sb.2 _ (Nat.ne_of_gt hel)).trans hT
    have new : ObjOk X.prog X.w (upd H s.heap.objs.size (.tup [.int (k + (i : Nat)), x])) h'' s.heap.objs.size (.tup [.int (k + (i : Nat)), x]) :=
      ⟨(by decide : 2 ≤ sizeLine), [.int (k + (i : Nat)) tk, y], .cons ⟨_, rfl⟩ (.cons ru .nil), ⟨_, hT2, rfl, _, rfl⟩⟩
    have nin : ∀ b, b ∉ [e, it] → b ≠ e ∧ b ≠ it := fun b hb => ⟨fun z => hb (z ▸ List.mem_cons_self), fun z => hb (z ▸ List.mem_cons_of_mem _ List.mem_cons_self)⟩
    have I1 : Inv X pins σ (upd H s.heap.objs.size (.tup [.int (k + (i : Nat)), x])) { s with heap := h'', toks := tk + 1 } :=
      I.turnedNew (ch := [e, it]) (fun b ob hb q => (sb.2 b (nin b hb).1).trans (hk b ob (nin b hb).1 (nin b hb).2 q)) hf (Nat.le_refl _) new
    refine ⟨.ref s.heap.objs.size, _, I1, rfl, ⟨_, x, rfl, I.hok.fresh (Nat.le_refl _), rfl, fun ys hy2 => by rw [I.list_inj hy2 hq]; exact hx⟩, ⟨⟨y, ?_⟩, hit'.1.at fun o q => (sb.2 it (Ne.symm hne)).trans q, hne⟩, fun b hb => ?_⟩
    · have e1 : k + ((i + 1 : Nat) : Int) = k + (i : Nat) + 1 := by omega
      rw [e1]
      exact he'
    · have hb' : b < s.heap.objs.size := by
        rcases List.mem_cons.mp hb with rfl | hb
        · exact hel
        · obtain rfl := List.mem_singleton.mp hb
          exact hil
      rw [upd_ne (Nat.ne_of_lt hb')]
      exact (hf b hb).1
  done := by
    rintro X rfl rfl rfl hc i pins s σ H E I hf ⟨⟨old, he⟩, hit, hne⟩ ⟨xs, hq, hx⟩
    obtain ⟨its, rv, p, hz⟩ := I.list hq
    have D := Draws.list (prog := X.prog) (w := X.w) (A := X.A.in1) (I.ok.hd hc) it a hai its.toArray
    obtain ⟨f0, f1, f2, f3, f4, f5⟩ := hf it (List.mem_cons_of_mem _ List.mem_cons_self)
    have hl := rv.length
    have e1 : i = its.toArray.size := by simp only [List.size_toArray]; omega
    refine wpAny_pyNext_enum_endD D he (e1 ▸ ⟨hit, p.isList⟩) fun h' eb => ⟨rfl, I.turned (t' := s.toks) (fun b o hb q => eb b o hb q) f0 f1 f3 f4 f5⟩
  self := by
    rintro A i s Q E ⟨⟨_, he⟩, _⟩ h
    exact wpAny_pyIter_enum he h
def iEnumSL (K : PySem.W.Frag) (ta tk : TA) : TI := fun σ H R => ta σ H fun vs H1 => tk σ H1 fun zs H2 => ∃ (a : Addr) (xs : List V) (k : Int), vs = [.ref a] ∧ zs = [.int k] ∧ -(2 ^ 62) ≤ k ∧ k < 2 ^ 62 ∧ SqL K H2 a xs ∧ R (ItSL K k a) H2
theorem pi_enumSL {X : Cx} {e : Expr} {ta tk : TA} {p pos tpos : Pos} {elts : List Expr} {kk : Nat} {kws : List Keyword} (hg : Gl X "enumerate") (hm : X.mg "enumerate" = none) (ha : PA X [e] ta) (hk : PK X kws tk)
    (he : backTo pos (starEach [e] X.env) = (false, eval e X.env) :: backTo pos (starEach [] X.env) := by rfl) (hp : (backTo pos (starEach [e] X.env)).any (·.1) = false := by rfl)
    (hall : (backToKw pos (keywordEach kws X.env)).all (·.1.isSome) = true := by rfl) (hn : (backToKw pos (keywordEach kws X.env)).any (·.1.isNone) = false := by rfl) (hks : (backToKw pos (keywordEach kws X.env)).filterMap (·.1) = [Str.ofString "start"] := by rfl) :
    PI X (.Tuple elts kk tpos) (.Call (.Name "enumerate" p) [e] kws pos) (iEnumSL X.K ta tk) := by
  constructor
  intro pins s σ H R I h
  refine wpAny_Call_Name_kw (ld_blt I hg hm boot_enumerate ?_)
  refine callType_kw (thn (ha.run pos pins s σ H _ I h) fun us s1 ⟨vs, H1, I1, r1, q1⟩ => thn (hk.run pos pins s1 σ H1 _ I1 q1) fun ws s2 ⟨zs, H2, I2, r2, a, xs, k, ev, ez, k0, k1, hq, q⟩ => ?_) he hp hall hn
  subst ev ez
  obtain ⟨u, rfl, ru⟩ := vals1 r1
  cases ru
  obtain ⟨v, rfl, t, rfl⟩ := vals1 r2
  rw [hks]
  obtain ⟨its, rv, p', hz⟩ := I2.list hq
  have hal : a < s2.heap.objs.size := by
    obtain ⟨_, q, _⟩ := p'.isList
    exact Heap.lt_size q
  refine enum_begins_start (begins_list a its.toArray) p'.isList (by omega) (by omega) fun h' he' hit len kp => wpAny_pyIter_enum he' ?_
  refine ⟨s2.heap.objs.size + 1, [s2.heap.objs.size + 1, s2.heap.objs.size], _, _, H2, rfl, I2.kept (t' := s2.toks) kp, turnSL k a (s2.heap.objs.size + 1) s2.heap.objs.size (Nat.ne_of_lt hal) (Nat.ne_of_gt (Nat.lt_succ_of_lt hal)),
    ⟨⟨.none, by rw [show k + ((0 : Nat) : Int) = k from by omega]; exact he'⟩, ⟨_, hit, rfl, rfl⟩, Nat.succ_ne_self _⟩, fun b hb => ?_, q⟩
  have hle : s2.heap.objs.size ≤ b := by
    rcases List.mem_cons.mp hb with rfl | hb
    · exact Nat.le_succ _
    · exact Nat.le_of_eq (List.mem_singleton.mp hb).symm
  exact I2.fpOk hle (I2.hok.fresh hle)
def iEnuSL (k : Nat) (fA : M (List D)) : M (List D) := fun ρ => (fA ρ).then fun ds ρ' => match ds with
  | [.lst es] => .ok (enumD k es) ρ'
  | _ => .stuck
def iEnuSG (k : Nat) (fA : M (List D)) : M (List D) := fun ρ => (fA ρ).then fun ds ρ' => match ds with
  | [.lst es] => .ok (enumD k es) ρ'
  | [.tup es] => .ok (enumD k es) ρ'
  | _ => .stuck
def iEnumSG (K : PySem.W.Frag) (ta tk : TA) : TI := fun σ H R => iEnumSL K ta tk σ H R ∨ iEnumS K ta tk σ H R
section
variable {c : Cfg} {W : WX} {tA : TA} {fA : M (List D)}
theorem walk_enuSL {a : Addr} {ds : List D} {k : Nat} : IsWalk c [.lst ds] [.ref a] (ItSL c.K (k : Nat) a) (enumD k ds) := by
  refine ⟨ds.length, SrcAt c true ds.length a, fun i H y H' => ∃ T z, y = .ref T ∧ H T = none ∧ H' = upd H T (.tup [.int (((k + i : Nat) : Nat) : Int), z]) ∧ TurnAt c true a i H z, ⟨?_, ?_, ?_⟩, (enumD_length ds k).symm, fun B ts vs ρ σ H r => src_of (x := .lst ds) rfl r, ?_⟩
  · rintro i H hi ⟨us, h1, h2⟩
    exact ⟨us, us[i]'(by omega), h1, List.getElem?_eq_getElem (by omega)⟩
  · rintro H ⟨us, h1, h2⟩
    exact ⟨us, h1, h2⟩
  · rintro i H y H' _ _ ⟨T, x, h1, h2, h3, h4⟩
    refine ⟨T, x, h1, h2, ?_, fun us h => h4 us h⟩
    rw [h3, show (k : Int) + (i : Nat) = ((k + i : Nat) : Int) from by omega]
  · rintro B ts vs ρ σ H i y H' hk r ⟨T, z, rfl, hT, rfl, t⟩
    obtain ⟨G, O, h⟩ := r.top
    obtain ⟨a', us, e1, h1, kk⟩ := h.seq O.sub (x := .lst ds) rfl
    cases e1
    obtain ⟨d, ed, hd⟩ := kk.getV (t us h1)
    exact ⟨_, enumD_get ds k i d ed, O.new hT rfl fun G' m e' => .tup (.inl (.inl e')) (.cons (.int _) (.cons (hd.mono m) .nil)) fun z => nomatch z⟩
theorem di_enuSL {k : Nat} (hk : k < 1000000) (h : DenA c W tA fA) : DenI c W (iEnumSL c.K tA (tCons (tC (.int (k : Nat))) tNil)) (iEnuSL k fA) := fun B ts vs ρ σ H R r q => by
  unfold iEnuSL at q
  rw [post_then] at q
  refine h B ts vs ρ σ H _ r (q.imp1 fun ds ρ' p us H' hlen r' => ?_)
  split at p
  · rename_i es
    match us, hlen with
    | [v], _ =>
      obtain ⟨G, O, hv⟩ := Rep.top (ts := ts) (vs := vs) r'
      obtain ⟨a, us, rfl, h1, kk⟩ := hv.seq O.sub (x := .lst es) rfl
      exact ⟨a, us, k, rfl, rfl, by omega, by omega, h1, p _ [.lst es] [.ref a] H' rfl r' walk_enuSL⟩
  · exact p.elim
theorem di_enuSG {k : Nat} (hk : k < 1000000) (h : DenA c W tA fA) : DenI c W (iEnumSG c.K tA (tCons (tC (.int (k : Nat))) tNil)) (iEnuSG k fA) := fun B ts vs ρ σ H R r q => by
  unfold iEnuSG at q
  cases hf : fA ρ with
  | stuck => rw [hf] at q; exact q.elim
  | err e ρ' =>
    refine .inl (h B ts vs ρ σ H _ r ?_)
    rw [hf] at q ⊢
    exact q
  | ok ds ρ' =>
    rw [hf] at q
    unfold Out.then at q
    dsimp only at q
    split at q
    · rename_i es
      refine .inl (di_enuSL hk h B ts vs ρ σ H R r ?_)
      unfold iEnuSL
      rw [hf]
      exact q
    · rename_i es
      refine .inr (di_enuS hk h B ts vs ρ σ H R r ?_)
      unfold iEnuS
      rw [hf]
      exact q
    · exact q.elim
end
section
variable {X : Cx} {c : Cfg} {W : WX} {a : Expr} {fA : M (List D)} {tA : TA} {es : List Expr} {kk k : Nat} {tpos pos p cp kp : Pos} {j : Nat}
theorem i_enumSG (hm : X.mg "enumerate" = none) (h : QA X c W [a] tA fA) (hk : k < 1000000 := by decide) (hg : Gl X "enumerate" := by rfl) (hK : X.K = c.K := by rfl) (he : backTo pos (starEach [a] X.env) = (false, eval a X.env) :: backTo pos (starEach [] X.env) := by rfl) (hp : (backTo pos (starEach [a] X.env)).any (·.1) = false := by rfl) :
    QI X c W (.Tuple es kk tpos) (.Call (.Name "enumerate" p) [a] [⟨some "start", .Constant (.int (k : Nat)) j cp, kp⟩] pos) (iEnumSG c.K tA (tCons (tC (.int (k : Nat))) tNil)) (iEnuSG k fA) := by
  obtain ⟨h1, h2⟩ := h
  have h3 : PI X (.Tuple es kk tpos) (.Call (.Name "enumerate" p) [a] [⟨some "start", .Constant (.int (k : Nat)) j cp, kp⟩] pos) (iEnumSG X.K tA (tCons (tC (.int (k : Nat))) tNil)) := PI.or (pi_enumSL hg hm h1 (pk_cons pe_int pk_nil) he hp) (pi_enumS hg hm h1 (pk_cons pe_int pk_nil) he hp)
  exact ⟨hK ▸ h3, di_enuSG hk h2⟩
end
end Fx
/-! xs += ys, xs a name's own list -/
namespace Fx
open PySem PySem.Spec PyProof.Rows L2
def mAugL (i : Nat) (fe : M S) : M Fl := fun ρ => if ownL ρ i then (dv fe ρ).then fun y ρ1 => match ρ1[i]? with
    | some (some (.o b (.lst ds))) => match y with
      | .lst es => if small (ds.length + es.length) then .ok .nx (ρ1.set i (some (.o b (.lst (ds ++ es))))) else .stuck
      | _ => .stuck
    | _ => .stuck
  else .stuck
section
variable {c : Cfg} {W : WX} {te : TE} {fe : M S} {i : Nat}
theorem ds_augL (h : Den c W te fe) : DenS c W (tAug i te rExt2) (mAugL i fe) := fun B ts vs ρ σ H D r q => by
  unfold mAugL at q
  split at q
  · rename_i ho
    obtain ⟨a, us, ev, ha⟩ := ownL_at ho r
    rw [post_then] at q
    refine ⟨.ref a, ev, h.dv r (q.imp (fun y ρ1 q1 v H1 r1 => ?_) fun _ _ h => h.toP)⟩
    split at q1
    · rename_i b ds e1
      cases y <;> first | exact q1.elim | skip
      rename_i es
      have q1 : Post (EndP c B ts vs D) (ErrS c W B ts vs) (if small (ds.length + es.length) then .ok .nx (ρ1.set i (some (.o b (.lst (ds ++ es))))) else .stuck) := q1
      split at q1
      · rename_i hz
        obtain ⟨G, o1, o2, k, h1, h2⟩ := id r1
        obtain ⟨a', ev', ⟨us', ha', ka⟩, hmem, hb⟩ := h2.getO e1
        rw [ev] at ev'
        cases ev'
        cases h1 with
        | d hv h1 =>
          obtain ⟨b', zs, rfl, hz', kz⟩ := hv.lstE
          refine ⟨a, b', us', zs, rfl, rfl, ha', k.sub _ _ hz', ?_, ?_⟩
          · rw [ka.length, kz.length]
            exact Fx.small_line hz
          · have nd := k.nd
            rw [List.nodup_append] at nd
            have r3 : Rep c B ts vs (ρ1.set i (some (.o b (.lst (ds ++ es))))) σ (upd H1 a (.lst (us' ++ zs))) := ⟨G, _, o2, k.write (List.mem_append_right _ hmem) ha' (.lst _), h1.mono (fun _ _ e => e) fun q hq => upd_ne fun z => nd.2.2 q hq a hmem z, h2.write nd.2.1 e1 ev (fun q hq => upd_ne hq) ⟨us' ++ zs, upd_same, ka.app kz⟩⟩
            show D.nx (List.set σ i (some (V.ref a))) (upd H1 a (.lst (us' ++ zs)))
            rw [set_self ev]
            exact q1 σ _ r3
      · exact q1.elim
    · exact q1.elim
  · exact q.elim
end
section
variable {X : Cx} {c : Cfg} {W : WX} {e : Expr} {te : TE} {fe : M S} {p pos : Pos}
theorem s_augL (i : Nat) {x : Str} (hN : X.N.Nodup) (h : QE X c W e te fe) (hi : X.N[i]? = some x := by rfl) (hx : Loc X.env.scope x := by first | exact Or.inl rfl | exact Or.inr rfl) (hf : X.fn x = true ∨ X.env.scope.names.lookup x = some .local := by first | exact Or.inl rfl | exact Or.inr rfl) :
    QS X c W (.AugAssign (.Name x p) .Add e pos) (tAug i te rExt2) (mAugL i fe) := by
  obtain ⟨h1, h2⟩ := h
  exact ⟨ps_aug hN hi hx h1 (fun pins s σ H x y v u Q I rx ry h => iop_ext pins s σ H x y v u Q I rx ry h) hf, ds_augL h2⟩
end
end Fx
/-! a tuple, once or more often -/
namespace Rw
open PySem PySem.Spec PyProof.Rows L2
theorem tupOnce (l : Addr) (items : Array Value) (n : Nat) (dd : Option Addr) (sl : Array (Option Value)) (u : Tok) :
    Meets (Builtin.«tuple.__mul__» ⟨[.ref l, .int 1 u], []⟩) (fun _ R s =>
      s.heap.get? l = some ⟨.type "tuple", dd, .seq items n, sl⟩ ∧ R (.ok (.ret (Value.ref l))) s) :=
  .of_wp fun prog w A R s both => by
    obtain ⟨hp, g, d, tk, os⟩ := s
    obtain ⟨at1, both⟩ := both
    have i1 := AutoSeq1.idx_int
    have c1 : (items.isEmpty || (1 : Int) == 1) = true := by simp
    wp_walk using wpAny_loadPart' at1
    repeat (first
      | (refine wpAny_ite_true (decide_eq_true c1) ?_; wp_walk using wpAny_loadPart' at1)
      | (refine wpAny_ite_false (decide_eq_false (by decide)) ?_; wp_walk using wpAny_loadPart' at1))
    exact ⟨_, rfl, both⟩
end Rw
/-! t * k -/
namespace Fx
open PySem PySem.Spec PyProof.Rows L2
theorem tupNone (l : Addr) (items : Array Value) (n : Nat) (dd : Option Addr) (sl : Array (Option Value)) (x : Int) (u : Tok) (c0 : (decide (x < -(2 ^ 63)) || decide (x ≥ 2 ^ 63)) = false) (c1 : (items.isEmpty || x == 1) = false) (c2 : (decide (x ≤ 0) || items.isEmpty) = true) :
    Meets (Builtin.«tuple.__mul__» ⟨[.ref l, .int x u], []⟩) (fun _ R s => s.heap.get? l = some { cls := .type "tuple", dict := dd, data := .seq items n, slots := sl } ∧
      R (.ok (.ret (Value.ref s.heap.objs.size))) { s with heap := s.heap.push { cls := Value.type "tuple", data := Data.seq #[] }, toks := s.toks }) :=
  .of_wp fun prog w A R s h => by
    obtain ⟨hp, g, d, tk, os⟩ := s
    obtain ⟨hl, h⟩ := h
    have f1 := AutoSeq1.idx_int
    wp_walk using wpAny_loadPart' hl
    repeat (first
      | (refine wpAny_ite_false (decide_eq_false (by rw [c0]; exact Bool.false_ne_true)) ?_; wp_walk using wpAny_loadPart' hl)
      | (refine wpAny_ite_false (decide_eq_false (by rw [c1]; exact Bool.false_ne_true)) ?_; wp_walk using wpAny_loadPart' hl)
      | (refine wpAny_ite_true (decide_eq_true (by rw [c2])) ?_; wp_walk using wpAny_loadPart' hl))
    exact ⟨_, rfl, h⟩
/-- t * k -/
def rRepN (K : PySem.W.Frag) : R2 := fun x y H Q => ∃ l k xs, x = .ref l ∧ y = .int k ∧ SqT K H l xs ∧ xs ≠ [] ∧ -1000 ≤ k ∧ k ≤ 1000 ∧ xs.length ≤ 1000 ∧ (k = 1 → Q (.ref l) H) ∧ (k ≠ 1 → NewT H (List.replicate k.toNat xs).flatten Q)
section
variable {X : Cx}
theorem op_repN : OpR X (binaryOp .Mult) (rRepN X.K) := by
  rintro pins s σ H x y v u Q I rx ry ⟨l, k, xs, rfl, rfl, hT, hne, h0, h2, hz, q1, q2⟩
  cases rx
  obtain ⟨t, rfl⟩ := ry
  obtain ⟨its, r, ⟨⟨cls, dd, data, sl⟩, ho, hc, n, hd⟩, hs⟩ := I.tuple hT
  simp only at hc hd
  subst hc hd
  have hle : its.length = xs.length := r.length.symm
  have hn : its ≠ [] := fun e => hne (by
    rw [e] at hle
    exact List.eq_nil_of_length_eq_zero hle.symm)
  have hi : its.toArray.isEmpty = false := by
    cases its with
    | nil => exact absurd rfl hn
    | cons a b => rfl
  have hsz0 : its.toArray.size = xs.length := by rw [List.size_toArray, hle]
  have c0 : (decide (k < -(2 ^ 63)) || decide (k ≥ 2 ^ 63)) = false := by
    rw [decide_eq_false (by omega), decide_eq_false (by omega)] <;> rfl
  have flen : (List.replicate k.toNat its).flatten.length ≤ sizeLine := by
    rw [PyProof.Rows.lm_len_rep_flat, hle, sizeLine_eq]
    have a1 : k.toNat * xs.length ≤ 1000 * 1000 := Nat.mul_le_mul (by omega) hz
    omega
  have flen2 : (List.replicate k.toNat xs).flatten.length ≤ sizeLine := by
    rw [PyProof.Rows.lm_len_rep_flat, sizeLine_eq]
    have a1 : k.toNat * xs.length ≤ 1000 * 1000 := Nat.mul_le_mul (by omega) hz
    omega
  by_cases hk : k = 1
  · subst hk
    refine wpAny_binaryOp_repeat_ref (T := "tuple") (U := "int") (by decide) ⟨_, ho, rfl⟩ (fun s' => typeIs_int s' 1 t) noFill_tuple_mul F.fills_int_mul F.slot_int_rmul repeat_tuple F.slot_int_index.lookup
      (call_meets F.slot_int_rmul (typeIs_int s 1 t) F.entry_int_rmul (F.args_int_rmul_2 _ _) (int_rmul_tuple 1 t l its.toArray n dd sl)
        ⟨ho, rfl, ⟨_, ho, rfl⟩, call_meets F.slot_tuple_mul ⟨_, ho, rfl⟩ F.entry_tuple_mul (F.args_tuple_mul_2 _ _) (Rw.tupOnce l its.toArray n dd sl t) ⟨ho, ?_⟩⟩)
    exact ⟨.ref l, H, I, rfl, q1 rfl⟩
  have c1 : (its.toArray.isEmpty || k == 1) = false := by
    rw [hi, Bool.false_or]
    exact beq_eq_false_iff_ne.mpr hk
  by_cases h1 : k ≤ 0
  · have c2 : (decide (k ≤ 0) || its.toArray.isEmpty) = true := by
      rw [decide_eq_true h1] <;> rfl
    refine wpAny_binaryOp_repeat_ref (T := "tuple") (U := "int") (by decide) ⟨_, ho, rfl⟩ (fun s' => typeIs_int s' k t) noFill_tuple_mul F.fills_int_mul F.slot_int_rmul repeat_tuple F.slot_int_index.lookup
      (call_meets F.slot_int_rmul (typeIs_int s k t) F.entry_int_rmul (F.args_int_rmul_2 _ _) (int_rmul_tuple k t l its.toArray n dd sl)
        ⟨ho, rfl, ⟨_, ho, rfl⟩, call_meets F.slot_tuple_mul ⟨_, ho, rfl⟩ F.entry_tuple_mul (F.args_tuple_mul_2 _ _) (tupNone l its.toArray n dd sl k t c0 c1 c2) ⟨ho, ?_⟩⟩)
    have e : (List.replicate k.toNat xs).flatten = [] := by
      rw [show k.toNat = 0 by omega] <;> rfl
    have := q2 hk
    rw [e] at this
    exact newT_laid (us := []) I (Nat.zero_le _) .nil this
  have hm : ((its.toArray.size : Nat) : Int) * k ≤ 1000000 := by
    rw [hsz0]
    have a1 : ((xs.length : Nat) : Int) * k ≤ 1000 * k := Int.mul_le_mul_of_nonneg_right (by omega) (by omega)
    omega
  have c2 : (decide (k ≤ 0) || its.toArray.isEmpty) = false := by
    rw [hi, Bool.or_false]
    exact decide_eq_false (by omega)
  have c4 : Builtin.Tuple.tupleTooMany (((its.toArray.size : Nat) : Int) * k) = false := by
    unfold Builtin.Tuple.tupleTooMany
    rw [sizeLine_eq]
    exact decide_eq_false (by omega)
  refine wpAny_binaryOp_repeat_ref (T := "tuple") (U := "int") (by decide) ⟨_, ho, rfl⟩ (fun s' => typeIs_int s' k t) noFill_tuple_mul F.fills_int_mul F.slot_int_rmul repeat_tuple F.slot_int_index.lookup
    (call_meets F.slot_int_rmul (typeIs_int s k t) F.entry_int_rmul (F.args_int_rmul_2 _ _) (int_rmul_tuple k t l its.toArray n dd sl)
      ⟨ho, rfl, ⟨_, ho, rfl⟩, call_meets F.slot_tuple_mul ⟨_, ho, rfl⟩ F.entry_tuple_mul (F.args_tuple_mul_2 _ _) (tuple_mulW l its.toArray n dd sl k t c0 c1 c2 (by omega) c4 (by rw [size_rep, List.size_toArray]; exact flen)) ⟨ho, ?_⟩⟩)
  rw [size_rep]
  exact newT_laid I flen2 (r.rep k.toNat) (q2 hk)
end
def gRepT : D → D → Option S
  | .tup xs, .int k => if !xs.isEmpty && decide (-1000 ≤ k) && decide (k ≤ 1000) && decide (xs.length ≤ 1000) then ok1 (.tup (List.replicate k.toNat xs).flatten) else none
  | _, _ => none
theorem od_repT {c : Cfg} : OpDen c (rRepN c.K) gRepT := by
  intro B ts vs ρ σ H Q x y v u s r e q
  obtain ⟨G, O, h1, h2⟩ := r.two
  cases x <;> cases y <;> first | cases e | skip
  rename_i xs k
  have e : (if !xs.isEmpty && decide (-1000 ≤ k) && decide (k ≤ 1000) && decide (xs.length ≤ 1000) then ok1 (.tup (List.replicate k.toNat xs).flatten) else none) = some s := e
  split at e
  · rename_i hz
    simp only [Bool.and_eq_true, decide_eq_true_eq, Bool.not_eq_true'] at hz
    obtain ⟨⟨⟨z0, z1⟩, z2⟩, z3⟩ := hz
    cases e
    cases h2
    obtain ⟨a, us, rfl, ha, ka, na⟩ := h1.tupN
    refine ⟨a, k, us, rfl, rfl, SqT.up O.sub ha, fun e => ?_, z1, z2, by rw [ka.length]; exact z3, fun e => ?_, fun _ p o hp ho => ?_⟩
    · subst e
      cases ka
      exact absurd z0 (by decide)
    · subst e
      have e2 : (List.replicate (1 : Int).toNat xs).flatten = xs := by simp
      rw [e2] at q
      exact q _ _ (O.val (.tup ha ka na))
    · exact q _ _ (O.new hp rfl fun G' m e => .tup (.inl (.inr ⟨o, e⟩)) ((ka.rep _).mono m) fun _ => ⟨o, e, ho⟩)
  · cases e
def rMulT (K : PySem.W.Frag) : R2 := fun x y H Q => rI CMul (fun i j => .int (i * j)) x y H Q ∨ rRepN K x y H Q ∨ rRep x y H Q
theorem op_mulT {X : Cx} : OpR X (binaryOp .Mult) (rMulT X.K) := OpR.or op_mul (OpR.or op_repN op_rep)
def gMulT : D → D → Option S
  | .int i, .int j => gMul (.int i) (.int j)
  | .lst xs, .int k => gMul (.lst xs) (.int k)
  | .tup xs, .int k => gRepT (.tup xs) (.int k)
  | _, _ => none
theorem od_mulT {c : Cfg} : OpDen c (rMulT c.K) gMulT := by
  intro B ts vs ρ σ H Q x y v u s r e q
  cases x <;> cases y <;> first | cases e | skip
  · exact .inl (od_mulI B ts vs ρ σ H Q _ _ v u _ r e q)
  · exact .inr (.inl (od_repT B ts vs ρ σ H Q _ _ v u s r e q))
  · exact .inr (.inr (od_repL B ts vs ρ σ H Q _ _ v u s r e q))
section
variable {X : Cx} {c : Cfg} {W : WX} {a b : Expr} {fa fb : M S} {pos : Pos} {ta tb : TE}
theorem q_mulT (ha : QE X c W a ta fa) (hb : QE X c W b tb fb) (hK : X.K = c.K := by rfl) : QE X c W (.BinOp a .Mult b pos) (tOp (rMulT c.K) ta tb) (mOp gMulT fa fb) := by
  obtain ⟨h1, h2⟩ := ha; obtain ⟨k1, k2⟩ := hb
  exact ⟨hK ▸ pe_op op_mulT h1 k1, den_op od_mulT h2 k2⟩
end
end Fx
/-! range objects as values -/
namespace Fx
open PySem PySem.Spec PyProof.Rows L2
section
variable {X : Cx} {c : Cfg} {tg : Expr}
def rRngV : List V → Hp → VK → Prop := fun vs H Q => (∃ j, vs = [V.int j] ∧ ∀ p, H p = none → Q (.ref p) (upd H p (.rng 0 j))) ∨ ∃ i j, vs = [V.int i, V.int j] ∧ ∀ p, H p = none → Q (.ref p) (upd H p (.rng i j))
theorem cr_rangeV : CallR X (.type "range") rRngV := by
  intro pins s σ H vs us Q I r h
  rcases h with ⟨j, rfl, q⟩ | h
  · obtain ⟨u1, rfl, rj⟩ := vals1 r
    obtain ⟨t, rfl⟩ := rj
    refine call_range_1 ⟨.ref s.heap.objs.size, upd H s.heap.objs.size (.rng 0 j), I.laid (t' := _) (fun b o e => Heap.get?_push_of_some _ e) (Nat.le_refl _) ?_, rfl, q _ (I.hok.fresh (Nat.le_refl _))⟩
    exact ⟨_, _, _, Heap.get?_push_size _ rfl⟩
  · exact cr_range2 pins s σ H vs us Q I r h
/-- walked -/
def iRngV (te : TE) : TI := fun σ H R => te σ H fun x H1 => ∃ r lo hi, x = .ref r ∧ H1 r = some (.rng lo hi) ∧ (-(2 ^ 62) ≤ lo ∧ lo < 2 ^ 62 ∧ -(2 ^ 62) ≤ hi ∧ hi < 2 ^ 62) ∧ R (Itr lo (hi - lo).toNat) H1
theorem pi_rngV {e : Expr} {te : TE} (he : PE X e te) : PI X tg e (iRngV te) := by
  refine ⟨fun pins s σ H R I h => ?_⟩
  refine thn (he.run pins s σ H _ I h) fun v s1 ⟨x, H1, I1, rx, r, lo, hi, ex, hr, ⟨h1, h2, h3, h4⟩, q⟩ => ?_
  subst ex
  cases rx
  obtain ⟨t, u, w, ho⟩ := I1.hok r _ hr
  refine wpAny_pyIter_range ho (small_one h1 h2 h3 h4) ?_
  refine ⟨s1.heap.objs.size, [s1.heap.objs.size], _, _, H1, rfl, I1.kept (t' := s1.toks) fun b o e => Heap.get?_push_of_some _ e, turn_range _ lo (hi - lo).toNat, ?_, fun b hb => ?_, q⟩
  · have e1 : lo + ((0 : Nat) : Int) * 1 = lo := by simp
    have e2 : (((hi - lo).toNat : Nat) : Int) - ((0 : Nat) : Int) = Builtin.Range.rangeSize lo hi 1 := by rw [rangeSize_one]; split <;> omega
    show IsRangeIter _ _ (lo + ((0 : Nat) : Int) * 1) ((((hi - lo).toNat : Nat) : Int) - ((0 : Nat) : Int)) 1
    rw [e1, e2]
    exact Heap.get?_push_size _ rfl
  · have e : b = s1.heap.objs.size := List.mem_singleton.mp hb
    subst e
    exact I1.fpOk (Nat.le_refl _) (I1.hok.fresh (Nat.le_refl _))
def gRngV : List D → Option S
  | [.int j] => ok1 (.rng 0 j)
  | [.int i, .int j] => ok1 (.rng i j)
  | _ => none
theorem cd_rngV : CbDen c rRngV gRngV := by
  intro B ts vs ρ σ H Q ds us s hl r e q
  match ds, hl, r, e with
  | [.int j], hl, r, e =>
    cases e
    obtain ⟨v, rfl, G, O, h⟩ := r.one' hl
    cases h
    exact .inl ⟨j, rfl, fun p hp => q _ _ (O.new hp rfl fun G' m e => .rng e)⟩
  | [.int i, .int j], hl, r, e =>
    cases e
    obtain ⟨v, w, rfl, G, O, hv, hw⟩ := r.two' hl
    cases hv
    cases hw
    exact .inr ⟨i, j, rfl, fun p hp => q _ _ (O.new hp rfl fun G' m e => .rng e)⟩
theorem b_rngV : QB X c "range" rRngV gRngV := ⟨.inr ⟨_, cr_rangeV, by decide +kernel⟩, cd_rngV⟩
def iRngD (fe : M S) : M (List D) := fun ρ => (dv fe ρ).then fun x ρ1 => match x with
  | .rng lo hi => if rOk lo && rOk hi then .ok (intsFrom lo (hi - lo).toNat) ρ1 else .stuck
  | _ => .stuck
theorem di_rngV {W : WX} {te : TE} {fe : M S} (h : Den c W te fe) : DenI c W (iRngV te) (iRngD fe) := fun B ts vs ρ σ H R r q => by
  unfold iRngD at q
  rw [post_then] at q
  refine h.dv r (q.imp1 fun x ρ1 p v H1 r1 => ?_)
  split at p
  · rename_i lo hi
    split at p
    · rename_i hj
      rw [Bool.and_eq_true, rOk_iff, rOk_iff] at hj
      obtain ⟨G, O, hv⟩ := r1.one
      cases hv with
      | @rng a _ _ ha => exact ⟨a, lo, hi, rfl, O.sub _ _ ha, ⟨hj.1.1, hj.1.2, hj.2.1, hj.2.2⟩, p _ [] [] H1 rfl (Rep.dropN (ds := [.rng lo hi]) (us := [.ref a]) rfl r1) walk_ints⟩
    · exact p.elim
  · exact p.elim
theorem i_rngV {W : WX} {e : Expr} {te : TE} {fe : M S} (h : QE X c W e te fe) : QI X c W tg e (iRngV te) (iRngD fe) := ⟨pi_rngV h.1, di_rngV h.2⟩
end
end Fx
/-! dict(d), keys numbers or texts -/
namespace Fx
open PySem PySem.Spec PyProof.Rows L2
section
variable {X : Cx} {c : Cfg}
/-- dict(d) -/
def rDictX (c : Cfg) : List V → Hp → VK → Prop := fun xs H Q => ∃ (a : Addr) (o : Obj) (ks : List D) (kv us : List V), xs = [.ref a] ∧ WholeX c H a o ks kv us ∧ ks.all isKey = true ∧
  ∀ p o', H p = none → DcO c.w p o' ks kv us → Q (.ref p) (upd H p (xdO p o'))
theorem real_mix {pins : List (Addr × Obj)} {σ : L2.St} {H G : Hp} {s : Shared} {a : Addr} {o : Obj} {ks : List D} {kv us : List V} (I : Inv X pins σ H s) (hK : X.K = c.K) (hw : X.w = c.w) (sub : ∀ a o, G a = some o → H a = some o) (hD : H a = some (xdO a o)) (d : DcO c.w a o ks kv us) (ka : RpAll c G kv ks) (hk : ks.all isKey = true) :
    ∃ kvs : List (Key × Value), s.heap.DictOf (mixKind X.prog X.w) a kvs ∧ ks = kvs.map (fun p => keyD p.1) ∧ kv = kvs.map (fun p => kV p.1) ∧ Vals us (kvs.map (·.2)) ∧ kvs.length ≤ sizeLine := by
  rcases d.real I hK hw sub hD ka with h | ⟨xs, d1, e1, e2, e3, e4, e5, e6⟩
  · exact h
  · cases xs with
    | nil =>
      cases ks with
      | nil =>
        subst e2
        exact ⟨[], DictOfH.flip d1, rfl, rfl, e3, Nat.zero_le _⟩
      | cons k r => simp at e1
    | cons x r =>
      subst e2
      cases ks with
      | nil => simp at e1
      | cons k t =>
        rw [List.all_cons, Bool.and_eq_true] at hk
        rw [List.map_cons] at ka
        cases ka with
        | cons h1 h2 =>
          obtain ⟨k0, rfl, ev⟩ := key_of h1 hk.1
          cases k0 <;> cases ev
theorem call_dictX (hK : X.K = c.K) (hw : X.w = c.w) : CallR X (.type "dict") (rDictX c) := by
  rintro pins s σ H xs us0 Q I r ⟨a, o, ks, kv, us, rfl, ⟨hD, d, G, sub, ka⟩, hk, fin⟩
  obtain ⟨u, rfl, rx⟩ := vals1 r
  cases rx
  obtain ⟨kvs, d1, rfl, rfl, e3, e4⟩ := real_mix I hK hw sub hD d ka hk
  refine kt_call_dict (knd := mixKind X.prog X.w) d.sys d1 e4 fun h' dd same => ?_
  have free : H s.heap.objs.size = none := I.hok.fresh (Nat.le_refl _)
  have made := I.laid (a := s.heap.objs.size) (o := xdO s.heap.objs.size { cls := .type "dict", data := .dict #[] }) (t' := s.toks) (fun _ _ e => Heap.get?_push_of_some _ e) (Nat.le_refl _) (xd_ok (Heap.get?_push_size _ rfl))
  obtain ⟨o', es, ep, ho, hc, hd, _⟩ := id dd
  have I' := d_write (t' := s.toks) made (by rw [upd_same]; exact True.intro) same ⟨o', ho⟩ (xd_ok ho)
  rw [upd_upd] at I'
  have mo : MixObj c.w o' kvs := hw ▸ mixObj_of dd ho
  have sys : (s.heap.objs.size == sysModules) = false := beq_eq_false_iff_ne.mpr (Ne.symm (Nat.ne_of_lt I.big))
  exact ⟨.ref s.heap.objs.size, _, I', rfl, fin _ o' free (DcO.mix sys hc ⟨es, ep, hd⟩ mo e4 e3)⟩
def gDictC : List D → Option S
  | [.dct ks ds] => if ks.all isKey then some (.o none (.dct ks ds)) else none
  | _ => none
theorem cd_dictC : CbDen c (rDictX c) gDictC := by
  intro B ts vs ρ σ H Q ds us s hl r e q
  match ds, hl, r, e with
  | [.dct ks ds], hl, r, e =>
    have e : (if ks.all isKey then some (S.o none (.dct ks ds)) else none) = some s := e
    split at e
    · rename_i hk
      cases e
      obtain ⟨v, rfl, G, O, h⟩ := r.one' hl
      obtain ⟨a, o, kv, uv, rfl, g, k1, k2⟩ := dc_whole O.sub h
      exact ⟨a, o, ks, kv, uv, rfl, g, hk, fun p o' hp d' => q _ _ (O.newO hp fun H' e => ⟨o', kv, uv, e, d', k1, k2⟩)⟩
    · cases e
theorem b_dictC (hw : X.w = c.w) (hK : X.K = c.K := by rfl) : QB X c "dict" (rDictX c) gDictC := ⟨.inr ⟨_, call_dictX hK hw, by decide +kernel⟩, cd_dictC⟩
end
end Fx
/-! own errors with fields: the promise of an __init__ that says super().__init__(f'..'), then self.f = f -/
/-! own errors with fields: one field, two fields; raise X(..) -/
namespace Fx
open PySem PySem.Spec PyProof.Rows L2
open C8 (Cal Mak pe_c pe_mk)
/-! ### on data -/
theorem Rep.aside {c : Cfg} {B : Base} {ts ρ : En} {vs : List (Option V)} {σ : L2.St} {H : Hp} {d : Addr} {o : HO} (r : Rep c B ts vs ρ σ H) (hd : H d = none) (ho : isTbl o = false) : Rep c B ts vs ρ σ (upd H d o) := by
  obtain ⟨G, o1, o2, k, h1, h2⟩ := r
  have ow : ∀ q ∈ o1 ++ o2, upd H d o q = H q := fun q hq => upd_ne fun z => (k.out q hq).2 (z ▸ hd)
  exact ⟨upd G d o, o1, o2, k.alloc hd ho, h1.mono (upd_sub (k.gnone hd)) fun q hq => ow q (List.mem_append_left _ hq), h2.mono (upd_sub (k.gnone hd)) fun q hq => ow q (List.mem_append_right _ hq)⟩
end Fx
/-! {**d, k: v}, keys numbers or texts -/
namespace Fx
open PySem PySem.Spec PyProof.Rows L2
section
variable {prog : Program} {w : World} {K : Type} [DecidableEq K] {knd : KeyKind prog w K} {A : Around} {E : Value → Shared → Prop} {s : Shared}
theorem put_pairs {d : Addr} {kvs : List (K × Value)} {k : K} {key v : Value} {Q : Unit → Shared → Prop} (hkey : knd.is k key = true) (hm : s.heap.DictOf knd d kvs) (hsz : kvs.length ≤ sizeLine)
    (hQ : ∀ h', h'.DictOf knd d (stored kvs k v) → Heap.SameBut d s.heap h' → Q () { s with heap := h' }) : wpAny (model prog w) A (dictPut d (knd.hash k) key v) Q E s := by
  obtain ⟨o, es, ep, ho, hc, hd, hk, hp, hn⟩ := hm
  have hes : es.size ≤ sizeLine := by
    have e1 := hp.length
    rw [Array.length_toList] at e1
    omega
  have hidx : (es.findIdx? fun e => knd.is k e.key) = kvs.findIdx? fun kv => decide (kv.1 = k) := by
    rw [← hp.findIdx k]
    obtain ⟨l⟩ := es
    simp
  unfold dictPut
  refine wpAny_bind (wpAny_dictFind_of hkey ho hd hk ?_)
  cases hi : es.findIdx? fun e => knd.is k e.key with
  | some i =>
    refine wpAny_updateDict ho hd (hQ _ ⟨_, _, ep, Heap.get?_update_self _ ho (Obj.isFreed_of_dict (Obj.data_mapDict hd _)), hc.mapDict _, Obj.data_mapDict hd _, hk.modify _ _, ?_, ?_⟩ (Heap.SameBut.update ..))
    · rw [stored, if_pos (any_of_findIdx_some (hidx ▸ hi))]
      have hl : (es.toList.findIdx? fun e => knd.is k e.key) = some i := by
        rw [← hi]
        obtain ⟨l⟩ := es
        simp
      have := hp.modify hn hl v
      obtain ⟨l⟩ := es
      simpa using this
    · rw [stored, if_pos (any_of_findIdx_some (hidx ▸ hi)), keys_map_store]
      exact hn
  | none =>
    have hnot : k ∉ kvs.map (·.1) := not_mem_of_findIdx_none (hidx ▸ hi)
    have hany : ¬ (kvs.any fun kv => decide (kv.1 = k)) = true := by
      rw [List.any_eq_true]
      rintro ⟨kv, hkv, he⟩
      exact hnot (List.mem_map.mpr ⟨kv, hkv, of_decide_eq_true he⟩)
    refine wpAny_updateDictKeys (hz := hes) ho hd (hQ _ ⟨_, _, ep + 1, Heap.get?_update_self _ ho (Obj.isFreed_of_dict (Obj.data_mapDictKeys hd _)), hc.mapDictKeys _, Obj.data_mapDictKeys hd _, hk.push hkey _, ?_, ?_⟩ (Heap.SameBut.update ..))
    · rw [stored, if_neg hany]
      have := hp.append hkey (knd.hash k) v
      obtain ⟨l⟩ := es
      simpa using this
    · rw [stored, if_neg hany, List.map_append, List.nodup_append]
      refine ⟨hn, by simp, fun a ha b hb => ?_⟩
      rw [List.map_cons, List.map_nil, List.mem_singleton] at hb
      subst hb
      exact fun e => hnot (e ▸ ha)
end
/-- m merged into d, both dicts -/
theorem merge_pairs {K : Type} [DecidableEq K] {prog : Program} {w : World} {knd : KeyKind prog w K} {A : Around} {E : Value → Shared → Prop} {s : Shared} {d o : Addr} {kvs more : List (K × Value)} {Q : Unit → Shared → Prop} (hdo : d ≠ o) (hoS : (o == sysModules) = false) (hval : ∀ (k : K) (v : Value), knd.is k v = true → ∀ a, v ≠ .ref a)
    (hd : s.heap.DictOf knd d kvs) (ho : s.heap.DictOf knd o more) (hsz : kvs.length + more.length ≤ sizeLine)
    (hQ : ∀ h', h'.DictOf knd d (merged kvs more) → Heap.SameBut d s.heap h' → Q () { s with heap := h' }) : wpAny (model prog w) A (mergeMapping d (.ref o) false) Q E s := by
  obtain ⟨od, esd, epd, hod, hcd, hdd, hkd, hpd, hnd⟩ := id hd
  obtain ⟨oo, eso, epo, hoo, hco, hdo', hko, hpo, hno⟩ := id ho
  have hlen : more.length = eso.size := by rw [← hpo.length]; simp
  unfold mergeMapping
  refine wpAny_bind (wpAny_isInstance ho.typeIs isSubtype_dict_dict ?_)
  rw [if_pos rfl]
  refine wpAny_bind (wpAny_specialOf ho.typeIs F.slot_dict_iter.lookup (wpAny_bind (wpAny_pure ?_)))
  dsimp only
  have e0 : (some (Value.builtin "dict.__iter__") == some (Value.builtin "dict.__iter__")) = true := by simp
  rw [e0]
  dsimp only
  rw [if_neg (by rw [hoS]; exact Bool.false_ne_true)]
  refine wpAny_bind (wpAny_dictEntries hod hdd ?_)
  have loop : wpAny (model prog w) A (do
      let l ← dictEntries o
      let size : Nat := l.size
      let epoch ← dictEpoch o
      forIn (List.range size) PUnit.unit fun i (_ : PUnit) => (do
          let l' ← dictEntries o
          match l'[i]? with
            | some e => do
              holding [e.key, e.val] (dictPut d e.hash e.key e.val)
              let ep' ← dictEpoch o
              if (ep' != epoch) = true then do
                  (unsupported "dict.changed-during-merge" : Sem PUnit)
                  pure (ForInStep.yield PUnit.unit)
                else pure (ForInStep.yield PUnit.unit)
            | _ => do
              (unsupported "dict.changed-during-merge" : Sem PUnit)
              pure (ForInStep.yield PUnit.unit) : Sem (ForInStep PUnit))
      pure ()) Q E s := by
    refine wpAny_bind (wpAny_dictEntries hoo hdo' ?_)
    refine wpAny_bind (wpAny_dictEpoch hoo hdo' ?_)
    refine wpAny_bind ?_
    refine wpAny_forIn_list _
      (fun rest _ s' => ∃ h' i, s' = { s with heap := h' } ∧ rest = List.range' i (eso.size - i) ∧ i ≤ eso.size ∧ h'.DictOf knd d (merged kvs (more.take i)) ∧ h'.get? o = some oo ∧ Heap.SameBut d s.heap h')
      _ ?_ ?_ _ _ ⟨s.heap, 0, rfl, by rw [List.range_eq_range']; simp, Nat.zero_le _, by simpa [merged] using hd, hoo, Heap.SameBut.refl _ _⟩
    · rintro x rest b s' ⟨h', i, rfl, hr, hi, hd', hoo', hs'⟩
      have hlt : i < eso.size := by
        rcases Nat.lt_or_ge i eso.size with h | h
        · exact h
        · rw [Nat.sub_eq_zero_of_le h] at hr
          simp at hr
      obtain ⟨rfl, hrest⟩ : x = i ∧ rest = List.range' (i + 1) (eso.size - (i + 1)) := by
        have e : eso.size - i = (eso.size - (i + 1)) + 1 := by omega
        rw [e, List.range'_succ] at hr
        injection hr with h1 h2
        exact ⟨h1, h2⟩
      refine wpAny_bind (wpAny_dictEntries hoo' hdo' ?_)
      rw [Array.getElem?_eq_getElem hlt]
      obtain ⟨⟨k, v⟩, hkv⟩ : ∃ kv, more[x]? = some kv := ⟨more[x]'(by rw [hlen]; exact hlt), List.getElem?_eq_getElem _⟩
      obtain ⟨hkey, hv⟩ := hpo.get? (e := eso[x]) (by simp [hlt]) hkv
      obtain ⟨k', hkey', hhash⟩ := hko eso[x] (Array.getElem_mem hlt)
      obtain rfl : k' = k := knd.inj _ _ _ hkey' hkey
      show wpAny _ _ (holding [eso[x].key, eso[x].val] (dictPut d eso[x].hash eso[x].key eso[x].val) >>= _) _ _ _
      rw [hhash, hv]
      have hmx : (merged kvs (more.take x)).length ≤ sizeLine := by
        have e1 := merged_length_le kvs (more.take x)
        have e2 : (more.take x).length ≤ more.length := by rw [List.length_take]; omega
        omega
      refine wpAny_bind (wpAny_holding (put_pairs hkey hd' hmx fun h'' hd'' hs'' => ?_))
      have hoo'' : h''.get? o = some oo := (hs''.2 o (Ne.symm hdo)).trans hoo'
      refine wpAny_bind (wpAny_dictEpoch hoo'' hdo' ?_)
      rw [if_neg (by simp)]
      exact wpAny_pure ⟨h'', x + 1, rfl, hrest, hlt, by rw [merged_take_succ kvs more x (k', v) hkv]; exact hd'', hoo'', hs'.trans hs''⟩
    · rintro b s' ⟨h', i, rfl, hr, hi, hd', hoo', hs'⟩
      have hin : i = eso.size := by
        rcases Nat.lt_or_ge i eso.size with h | h
        · have e : eso.size - i = (eso.size - (i + 1)) + 1 := by omega
          rw [e, List.range'_succ] at hr
          exact nomatch hr
        · exact Nat.le_antisymm hi h
      refine wpAny_pure (hQ h' ?_ hs')
      rw [hin, ← hlen, List.take_length] at hd'
      exact hd'
  split
  · refine wpAny_bind (wpAny_dictEntries hoo hdo' ?_)
    refine wpAny_bind ?_
    rw [← Array.forIn_toList]
    refine wpAny_forIn_list _ (fun rest _ s' => s' = s ∧ ∀ e ∈ rest, e ∈ eso.toList) _ ?_ ?_ _ _ ⟨rfl, fun e he => he⟩
    · rintro e rest b s' ⟨rfl, hm⟩
      obtain ⟨k, hk, _⟩ := hko e (Array.mem_toList_iff.mp (hm e List.mem_cons_self))
      split
      · rename_i a ea
        exact absurd ea (hval _ _ hk a)
      · exact wpAny_pure ⟨rfl, fun e he => hm e (List.mem_cons_of_mem _ he)⟩
    · rintro b s' ⟨rfl, _⟩
      exact loop
  · exact loop
theorem dictOf_same {P : Program} {w : World} {K : Type} [DecidableEq K] {knd : KeyKind P w K} {h h' : Heap} {a b : Addr} {kvs : List (K × Value)} (d : h.DictOf knd a kvs) (sm : Heap.SameBut b h h') (hne : a ≠ b) : h'.DictOf knd a kvs := by
  obtain ⟨o, es, ep, ho, r⟩ := d
  exact ⟨o, es, ep, (sm.2 a hne).trans ho, r⟩
/-- {**e, k: v} -/
theorem display_star {K : Type} [DecidableEq K] {prog : Program} {w : World} {knd : KeyKind prog w K} {A : Around} {E : Value → Shared → Prop} {s : Shared} {t1 tk t2 : Sem Value} {Q : Value → Shared → Prop} (hval : ∀ (k : K) (v : Value), knd.is k v = true → ∀ a, v ≠ .ref a)
    (h : wpAny (model prog w) A t1 (fun m s1 => ∃ o more, m = .ref o ∧ s.heap.objs.size ≠ o ∧ (o == sysModules) = false ∧ more.length ≤ 1000000 ∧ s1.heap.DictOf knd o more ∧ s1.heap.DictOf knd s.heap.objs.size [] ∧
      ∀ h1, h1.DictOf knd s.heap.objs.size more → Heap.SameBut s.heap.objs.size s1.heap h1 →
        wpAny (model prog w) A (evalPairs [(tk, t2)]) (fun vs s3 => ∃ k key v, vs = [(key, v)] ∧ knd.is k key = true ∧ s.heap.objs.size ≠ h1.objs.size ∧ (h1.objs.size == sysModules) = false ∧ s3.heap.DictOf knd h1.objs.size [] ∧ s3.heap.DictOf knd s.heap.objs.size more ∧
          ∀ h4 h5 tk', (∃ q, h4.get? h1.objs.size = some q) → Heap.SameBut h1.objs.size s3.heap h4 → Heap.SameBut s.heap.objs.size h4 h5 → h5.DictOf knd s.heap.objs.size (stored more k v) → Q (.ref s.heap.objs.size) { s3 with heap := h5, toks := tk' }) E
        { s1 with heap := h1.push { cls := .type "dict", data := .dict #[] } }) E { s with heap := s.heap.push { cls := .type "dict", data := .dict #[] } }) :
    wpAny (model prog w) A (dictDisplay [(none, t1), (some tk, t2)]) Q E s := by
  unfold dictDisplay
  dsimp only
  rw [List.forIn_cons]
  refine wpAny_bind (wpAny_bind ?_)
  dsimp only
  refine wpAny_bind ?_
  rw [if_pos (show ([] : List (Sem Value × Sem Value)).isEmpty = true from rfl)]
  refine wpAny_pure ?_
  dsimp only
  refine wpAny_bind (wpAny_alloc ?_)
  refine wpAny_bind (wpAny_holding (wpAny_mono h (fun m s1 h1 => ?_) fun _ _ e => e))
  obtain ⟨o, more, rfl, hne, hS, hz, d1, d2, k⟩ := h1
  have hn : (more.map (·.1)).Nodup := let ⟨_, _, _, _, _, _, _, _, hn⟩ := d1; hn
  refine wpAny_bind (wpAny_onRaise (wpAny_tryCatch (wpAny_onRaise (wpAny_holding (merge_pairs hne hS hval d2 d1 (by rw [sizeLine_eq, List.length_nil]; omega) fun h1 dd sm => ?_)))))
  rw [merged_nil_of_nodup more hn] at dd
  refine wpAny_pure ?_
  dsimp only
  rw [List.forIn_cons]
  refine wpAny_bind ?_
  dsimp only
  have e17 : ((([] : List (Sem Value × Sem Value)) ++ [(tk, t2)]).length == 17) = false := rfl
  rw [e17, if_neg Bool.false_ne_true]
  refine wpAny_pure ?_
  dsimp only
  rw [List.forIn_nil]
  refine wpAny_pure ?_
  try dsimp only
  refine wpAny_bind ?_
  rw [if_neg (by simp)]
  rw [List.nil_append]
  refine wpAny_bind (wpAny_holding (wpAny_subDict (knd := knd) (by show 1 ≤ 15; decide) (wpAny_mono (k h1 dd sm) (fun vs s3 h3 => ?_) fun _ _ e => e)))
  obtain ⟨k0, key, v, rfl, hk, hdu, huS, e1, e2, fin⟩ := h3
  refine ⟨[(k0, v)], ⟨hk, rfl, trivial⟩, e1, fun h4 d4 sm4 => ?_⟩
  have d5 := dictOf_same e2 sm4 hdu
  refine wpAny_bind (wpAny_onRaise (wpAny_holding (merge_pairs hdu huS hval d5 d4 ?_ fun h5 d6 sm5 => ?_)))
  · rw [sizeLine_eq]
    show more.length + 1 ≤ _
    omega
  refine wpAny_pure (wpAny_pure ?_)
  exact fin h4 h5 _ (let ⟨q, _, _, hq, _⟩ := d4; ⟨q, hq⟩) sm4 sm5 d6
theorem mix_noref {P : Program} {w : World} (k : Key) (v : Value) (h : (mixKind P w).is k v = true) (a : Addr) : v ≠ .ref a := by
  have r := relV_key (show keyIs k v = true from h)
  rintro rfl
  cases k <;> (obtain ⟨t, e⟩ := r; cases e)
section
variable {X : Cx} {c : Cfg}
/-- {**x, y: None}, x and y names -/
def tDispX (c : Cfg) (i j : Nat) : TE := fun σ H Q => ∃ (a : Addr) (o : Obj) (ks : List D) (kv us : List V) (y : V) (key : D) (G : Hp), σ[i]? = some (some (.ref a)) ∧ H a = some (xdO a o) ∧ DcO c.w a o ks kv us ∧ (∀ b u, G b = some u → H b = some u) ∧ RpAll c G kv ks ∧ Rp c G y key ∧ σ[j]? = some (some y) ∧ ks.all isKey = true ∧ isKey key = true ∧ ks.length ≤ 100000 ∧
  ∀ d u o3 q, H d = none → H u = none → u ≠ d → DcO c.w d o3 (putKs ks key ks key) (putKs ks key kv y) (putVs ks key us .non) → Q (.ref d) (upd (upd H u (xdO u q)) d (xdO d o3))
theorem pe_dispX (hK : X.K = c.K) (hw : X.w = c.w) {e k v : Expr} {pos : Pos} {i j : Nat} (he : PE X e (tVar i)) (hk : PE X k (tVar j)) (hv : PE X v (tC .non)) : PE X (.Dict [none, some k] [e, v] pos) (tDispX c i j) := ⟨fun pins s σ H Q I h => by
  obtain ⟨a, o, ks, kv, us, y, key, G, si, hD, d1, sub, ka, ky, sj, hks, hkk, hz, fin⟩ := h
  have free : H s.heap.objs.size = none := I.hok.fresh (Nat.le_refl _)
  have hne : s.heap.objs.size ≠ a := fun z => by rw [z, hD] at free; cases free
  have sub' : ∀ {b : Addr} {u : HO}, H b = none → ∀ b' o', G b' = some o' → upd H b u b' = some o' := fun {b u} hb b' o' e => by
    rw [upd_ne (fun z => by have := sub _ _ e; rw [z, hb] at this; cases this)]
    exact sub _ _ e
  rw [arm_eval_Dict]
  refine wpAny_bind (wpAny_standAt ?_)
  show wpAny _ _ (dictDisplay [(none, (do let x ← eval e X.env; standAt pos; pure x)), (some (eval k X.env), (do let x ← eval v X.env; standAt pos; pure x))]) _ _ _
  refine display_star (knd := mixKind X.prog X.w) mix_noref ?_
  have I0 := I.laid (a := s.heap.objs.size) (o := xdO s.heap.objs.size { cls := .type "dict", data := .dict #[] }) (t' := s.toks) (fun _ _ e => Heap.get?_push_of_some _ e) (Nat.le_refl _) (xd_ok (Heap.get?_push_size _ rfl))
  refine wpAny_bind (thn (he.run pins _ σ _ (fun x H1 => x = .ref a ∧ H1 = upd H s.heap.objs.size (xdO s.heap.objs.size { cls := .type "dict", data := .dict #[] })) I0 ⟨_, si, rfl, rfl⟩) fun xv s1 ⟨x, H1, I1, rx, ex, eH⟩ => wpAny_bind (wpAny_standAt (wpAny_pure ?_)))
  subst ex eH
  cases rx
  obtain ⟨kvs, dd, rfl, rfl, e3, e4⟩ := real_mix I1 hK hw (sub' free) (by rw [upd_ne hne.symm]; exact hD) d1 ka hks
  obtain ⟨kvs0, dd0, z1, _⟩ := real_mix I1 hK hw (fun b o (e : (fun _ => none : Hp) b = some o) => nomatch e) upd_same (DcO.new (w := c.w) I.big) (G := fun _ => none) .nil rfl
  have z0 : kvs0 = [] := by cases kvs0 with
    | nil => rfl
    | cons _ _ => cases z1
  subst z0
  refine ⟨a, kvs, rfl, hne, d1.sys, by rw [List.length_map] at hz; omega, dd, dd0, fun h1 dd1 sm => ?_⟩
  obtain ⟨o1, es1, ep1, ho1, hc1, hd1, _⟩ := id dd1
  have I2 := d_write (t' := s1.toks) I1 (by rw [upd_same]; exact True.intro) sm ⟨o1, ho1⟩ (xd_ok ho1)
  rw [upd_upd] at I2
  have sysn : (s.heap.objs.size == sysModules) = false := beq_eq_false_iff_ne.mpr (Ne.symm (Nat.ne_of_lt I.big))
  have D1 : DcO c.w s.heap.objs.size o1 (kvs.map fun p => keyD p.1) (kvs.map fun p => kV p.1) us := DcO.mix sysn hc1 ⟨es1, ep1, hd1⟩ (hw ▸ mixObj_of dd1 ho1) e4 e3
  have freeU : upd H s.heap.objs.size (xdO s.heap.objs.size o1) h1.objs.size = none := I2.hok.fresh (Nat.le_refl _)
  have hnu : s.heap.objs.size ≠ h1.objs.size := fun z => by rw [← z, upd_same] at freeU; cases freeU
  have freeU0 : H h1.objs.size = none := by rw [upd_ne hnu.symm] at freeU; exact freeU
  have I3 := I2.laid (a := h1.objs.size) (o := xdO h1.objs.size { cls := .type "dict", data := .dict #[] }) (t' := s1.toks) (fun _ _ e => Heap.get?_push_of_some _ e) (Nat.le_refl _) (xd_ok (Heap.get?_push_size _ rfl))
  refine evalPairs_cons (thn (hk.run pins _ σ _ (fun x H2 => x = y ∧ H2 = upd (upd H s.heap.objs.size (xdO s.heap.objs.size o1)) h1.objs.size (xdO h1.objs.size { cls := .type "dict", data := .dict #[] })) I3 ⟨_, sj, rfl, rfl⟩) fun yv s2 ⟨y', H2, I4, ry, ey, eH2⟩ =>
    wpAny_bind (thn (hv.run pins _ σ _ (fun x H3 => x = .non ∧ H3 = H2) I4 ⟨rfl, rfl⟩) fun zv s3 ⟨z, H3, I5, rz, ez, eH3⟩ => wpAny_bind (wpAny_standAt (wpAny_pure (evalPairs_nil ?_)))))
  subst ey ez eH3 eH2
  obtain ⟨k0, rfl, rfl⟩ := key_of ky hkk
  have hdN : upd (upd H s.heap.objs.size (xdO s.heap.objs.size o1)) h1.objs.size (xdO h1.objs.size { cls := .type "dict", data := .dict #[] }) s.heap.objs.size = some (xdO s.heap.objs.size o1) := by rw [upd_ne hnu, upd_same]
  have subN : ∀ b o', G b = some o' → upd (upd H s.heap.objs.size (xdO s.heap.objs.size o1)) h1.objs.size (xdO h1.objs.size { cls := .type "dict", data := .dict #[] }) b = some o' := fun b o' e => by
    have eb := sub _ _ e
    rw [upd_ne (fun z => by rw [z, freeU0] at eb; cases eb), upd_ne (fun z => by rw [z, free] at eb; cases eb)]
    exact eb
  obtain ⟨kvs2, dd2, z2, z3, z4, z5⟩ := real_mix I5 hK hw subN hdN D1 ka hks
  obtain ⟨kvs3, dd3, z6, _⟩ := real_mix I5 hK hw (fun b o (e : (fun _ => none : Hp) b = some o) => nomatch e) upd_same (DcO.new (w := c.w) I2.big) (G := fun _ => none) .nil rfl
  have z0 : kvs3 = [] := by cases kvs3 with
    | nil => rfl
    | cons _ _ => cases z6
  subst z0
  have sysu : (h1.objs.size == sysModules) = false := beq_eq_false_iff_ne.mpr (Ne.symm (Nat.ne_of_lt I2.big))
  refine ⟨k0, yv, zv, rfl, kV_is ry, hnu, sysu, dd3, dictOf_mix dd1 ho1 (xd_get I5 hdN), fun h4 h5 tk' hq4 sm4 sm5 dd5 => ?_⟩
  obtain ⟨q, hq⟩ := hq4
  have I6 := d_write (t' := s3.toks) I5 (by rw [upd_same]; exact True.intro) sm4 ⟨q, hq⟩ (xd_ok hq)
  obtain ⟨o3, es3, ep3, ho3, hc3, hd3, _⟩ := id dd5
  have I7 := d_write (t' := tk') I6 (by rw [upd_ne hnu, hdN]; exact True.intro) sm5 ⟨o3, ho3⟩ (xd_ok ho3)
  have eH : upd (upd (upd (upd H s.heap.objs.size (xdO s.heap.objs.size o1)) h1.objs.size (xdO h1.objs.size { cls := .type "dict", data := .dict #[] })) h1.objs.size (xdO h1.objs.size q)) s.heap.objs.size (xdO s.heap.objs.size o3) = upd (upd H h1.objs.size (xdO h1.objs.size q)) s.heap.objs.size (xdO s.heap.objs.size o3) := by
    rw [upd_upd]
    funext b
    by_cases hb : b = s.heap.objs.size
    · subst hb
      rw [upd_same, upd_same]
    · rw [upd_ne hb, upd_ne hb]
      by_cases hb2 : b = h1.objs.size
      · subst hb2
        rw [upd_same, upd_same]
      · rw [upd_ne hb2, upd_ne hb2, upd_ne hb]
  rw [eH] at I7
  obtain ⟨f1, f2, f3⟩ := mix_stored (k0 := k0) rz e3
  have lk : (stored kvs k0 zv).length ≤ sizeLine := by
    have := stored_len kvs k0 zv
    rw [List.length_map] at hz
    rw [sizeLine_eq]
    omega
  have dc := DcO.mix (w := c.w) (a := s.heap.objs.size) sysn hc3 ⟨es3, ep3, hd3⟩ (hw ▸ mixObj_of dd5 ho3) lk f3
  rw [f1, f2] at dc
  exact ⟨.ref s.heap.objs.size, _, I7, rfl, fin _ _ o3 q free freeU0 hnu.symm dc⟩⟩
def mDisp (i j : Nat) : M S := fun ρ => match ρ[i]?, ρ[j]? with
  | some (some (.d (.dct ks ds))), some (some (.d k)) => if ks.all isKey && isKey k && decide (ks.length ≤ 100000) then .ok (.o none (.dct (putKs ks k ks k) (putVs ks k ds .non))) ρ else .stuck
  | _, _ => .stuck
theorem den_disp {W : WX} {i j : Nat} : Den c W (tDispX c i j) (mDisp i j) := fun B ts vs ρ σ H Q r q => by
  unfold mDisp at q
  split at q
  · rename_i ks ds k e1 e2
    split at q
    · rename_i hc
      rw [Bool.and_eq_true, Bool.and_eq_true, decide_eq_true_eq] at hc
      obtain ⟨⟨h1, h2⟩, h3⟩ := hc
      obtain ⟨v, ev, r1⟩ := r.var e1
      obtain ⟨y, ey, r2⟩ := r1.var e2
      obtain ⟨G, O, hv, hy⟩ := r2.two
      obtain ⟨a, o, kv, us, rfl, ⟨hD, d1, _⟩, k1, k2⟩ := dc_whole O.sub hv
      refine ⟨a, o, ks, kv, us, y, k, G, ev, hD, d1, O.sub, k1, hy, ey, h1, h2, h3, fun d u o3 p hd hu hne d3 => ?_⟩
      have q : OkP c B ts vs σ Q (.o none (.dct (putKs ks k ks k) (putVs ks k ds .non))) ρ := q
      have r3 := O.newO (o := xdO d o3) (x := .dct (putKs ks k ks k) (putVs ks k ds .non)) hd fun H' e => ⟨o3, _, _, e, d3, k1.put hy, k2.putV .non⟩
      have r4 := r3.aside (d := u) (o := xdO u p) (by rw [upd_ne hne]; exact hu) rfl
      have eH : upd (upd H d (xdO d o3)) u (xdO u p) = upd (upd H u (xdO u p)) d (xdO d o3) := by
        funext b
        by_cases hb : b = u
        · subst hb
          rw [upd_same, upd_ne hne, upd_same]
        · rw [upd_ne hb]
          by_cases hb2 : b = d
          · subst hb2
            rw [upd_same, upd_same]
          · rw [upd_ne hb2, upd_ne hb2, upd_ne hb]
      rw [eH] at r4
      exact q _ _ r4
    · exact q.elim
  · exact q.elim
theorem q_disp {W : WX} {x y : Str} {pos p1 p2 p3 : Pos} {j1 : Nat} (i j : Nat) (hw : X.w = c.w) (hN : X.N[i]? = some x := by rfl) (hv : Vis X.env.scope x := by first | exact Or.inl rfl | exact Or.inr (Or.inl rfl) | exact Or.inr (Or.inr rfl)) (hN2 : X.N[j]? = some y := by rfl) (hv2 : Vis X.env.scope y := by first | exact Or.inl rfl | exact Or.inr (Or.inl rfl) | exact Or.inr (Or.inr rfl))
    (hd : (x == ("__debug__" : Str)) = false := by decide) (hcd : (x == ("__classdict__" : Str)) = false := by decide) (hd2 : (y == ("__debug__" : Str)) = false := by decide) (hcd2 : (y == ("__classdict__" : Str)) = false := by decide) (hK : X.K = c.K := by rfl) :
    QE X c W (.Dict [none, some (.Name y p2)] [.Name x p1, .Constant .none j1 p3] pos) (tDispX c i j) (mDisp i j) := ⟨pe_dispX hK hw (pe_var hN hv hd hcd) (pe_var hN2 hv2 hd2 hcd2) pe_non, den_disp⟩
end
end Fx
/-! {k: v} -/
namespace Fx
open PySem PySem.Spec PyProof.Rows L2
section
variable {X : Cx} {c : Cfg}
def tDis1X (c : Cfg) (tk tv : TE) : TE := fun σ H Q => ∀ d o0, H d = none → DcO c.w d o0 [] [] [] → tk σ (upd H d (xdO d o0)) fun y H1 => tv σ H1 fun z H2 => ∃ (o2 : Obj) (key : D) (G : Hp), H2 d = some (xdO d o2) ∧ DcO c.w d o2 [] [] [] ∧ (∀ b u, G b = some u → H2 b = some u) ∧ Rp c G y key ∧ homog [] key = true ∧
  ∀ o1, DcO c.w d o1 [key] [y] [z] → Q (.ref d) (upd H2 d (xdO d o1))
theorem pe_dis1X (hK : X.K = c.K) (hw : X.w = c.w) (hu : X.A.units + 10 < cLine) {k v : Expr} {pos : Pos} {tk tv : TE} (hk : PE X k tk) (hv : PE X v tv) : PE X (.Dict [some k] [v] pos) (tDis1X c tk tv) := ⟨fun pins s σ H Q I h => by
  have free : H s.heap.objs.size = none := I.hok.fresh (Nat.le_refl _)
  rw [arm_eval_Dict]
  refine wpAny_bind (wpAny_standAt ?_)
  have e1 := dictDisplay_pairs [(eval k X.env, (do let x ← eval v X.env; standAt pos; pure x : Sem Value))] (by simp) (by show 1 < 17; decide)
  show wpAny _ _ (dictDisplay [(some (eval k X.env), (do let x ← eval v X.env; standAt pos; pure x))]) _ _ _
  have e2 : dictDisplay [(some (eval k X.env), (do let x ← eval v X.env; standAt pos; pure x))] = (do let d ← subDict [(eval k X.env, (do let x ← eval v X.env; standAt pos; pure x : Sem Value))]; pure (.ref d)) := e1
  rw [e2]
  refine wpAny_bind ?_
  unfold subDict
  refine wpAny_bind (wpAny_alloc ?_)
  refine wpAny_bind (wpAny_holding ?_)
  rw [if_pos (by show 1 ≤ 15; decide)]
  have I0 := I.laid (a := s.heap.objs.size) (o := xdO s.heap.objs.size { cls := .type "dict", data := .dict #[] }) (t' := s.toks) (fun _ _ e => Heap.get?_push_of_some _ e) (Nat.le_refl _) (xd_ok (Heap.get?_push_size _ rfl))
  have d0 : DcO c.w s.heap.objs.size { cls := .type "dict", data := .dict #[] } [] [] [] := DcO.new I.big
  refine wpAny_bind (evalPairs_cons (thn (hk.run pins _ σ _ _ I0 (h _ _ free d0)) fun yv s2 ⟨y, H2, I2, ry, more⟩ => wpAny_bind (thn (hv.run pins _ σ _ _ I2 more) fun zv s3 ⟨z, H3, I3, rz, o2, key, G, hD, d2, sub, hky, hm, fin⟩ => wpAny_bind (wpAny_standAt (wpAny_pure (evalPairs_nil ?_))))))
  refine wpAny_holding (wpAny_bind ?_)
  rw [List.forIn_cons]
  refine wpAny_bind (wpAny_bind ?_)
  refine x_dictSet hu I3 hK hw sub hD d2 .nil hky hm (by rw [sizeLine_eq]; show 0 < _; decide) ry rz fun s4 o4 I4 d4 => ?_
  refine wpAny_pure ?_
  dsimp only
  rw [List.forIn_nil]
  refine wpAny_pure (wpAny_pure (wpAny_pure (wpAny_pure ?_)))
  exact ⟨.ref s.heap.objs.size, _, I4, rfl, fin o4 d4⟩⟩
def mDis1 (fk fv : M S) : M S := fun ρ => (dv fk ρ).then fun k ρ1 => (dv fv ρ1).then fun y ρ2 => if homog [] k then .ok (.o none (.dct [k] [y])) ρ2 else .stuck
theorem den_dis1 {W : WX} {tk tv : TE} {fk fv : M S} (hk : Den c W tk fk) (hv : Den c W tv fv) : Den c W (tDis1X c tk tv) (mDis1 fk fv) := fun B ts vs ρ σ H Q r q d o0 hd d0 => by
  unfold mDis1 at q
  rw [post_then] at q
  have r0 : Rep c B (some (.o none (.dct [] [])) :: ts) (some (.ref d) :: vs) ρ σ (upd H d (xdO d o0)) := Rep.newO (ds := []) (us := []) r rfl hd fun G H' e _ => ⟨o0, [], [], e, d0, .nil, .nil⟩
  refine hk.dv r0 (q.imp (fun k ρ1 q y H1 r1 => ?_) fun _ _ h => h.drop)
  rw [post_then] at q
  refine hv.dv r1 (q.imp (fun x ρ2 q z H2 r2 => ?_) fun _ _ h => h.drop.drop)
  have q2 : Post (OkP c B ts vs σ Q) (ErrP c W B ts vs σ) (if homog [] k then .ok (.o none (.dct [k] [x])) ρ2 else .stuck) := q
  split at q2
  · rename_i hm
    obtain ⟨G, o1, o2, kk, h1, h2⟩ := r2
    cases h1 with
    | d hz h1 =>
      cases h1 with
      | d hy h1 =>
        cases h1 with
        | o hc hb h1 =>
          obtain ⟨ob, kv, us, ha, hd2, k1, k2⟩ := hc
          cases k1
          cases k2
          have nd := kk.nd
          rw [List.cons_append, List.nodup_cons] at nd
          refine ⟨ob, k, G, ha, hd2, kk.sub, hy, hm, fun o3 d3 => q2 _ _ ?_⟩
          exact ⟨G, d :: _, o2, kk.write List.mem_cons_self ha (dct_cell hd2), .o ⟨o3, _, _, upd_same, d3, .cons hy .nil, .cons hz .nil⟩ hb (h1.mono (fun _ _ e => e) fun p hp => upd_ne fun z => nd.1 (z ▸ List.mem_append_left _ hp)), h2.mono (fun _ _ e => e) fun p hp => upd_ne fun z => nd.1 (z ▸ List.mem_append_right _ hp)⟩
  · exact q2.elim
theorem q_dis1 {W : WX} {k v : Expr} {pos : Pos} {kk : Nat} {tk tv : TE} {fk fv : M S} (hr : Room kk X.A) (hw : X.w = c.w) (hk : QE X c W k tk fk) (hv : QE X c W v tv fv) (hK : X.K = c.K := by rfl) : QE X c W (.Dict [some k] [v] pos) (tDis1X c tk tv) (mDis1 fk fv) :=
  ⟨pe_dis1X hK hw (by have := un66 hr; omega) hk.1 hv.1, den_dis1 hk.2 hv.2⟩
end
end Fx
/-! xs.index(x), xs.count(x) of a list of data -/
namespace Fx
open PySem PySem.Spec PyProof.Rows L2 PySem.SeqAt
/-- a list of data and a datum -/
def ListOf (K : PySem.W.Frag) (H : Hp) (x : V) (xs : List V) (ds : List PyData) (d : PyData) : Prop := ∃ (a : Addr) (ys : List V) (y : V), x = .ref a ∧ xs = [y] ∧ SqL K H a ys ∧ Dp K H x (.list ds) ∧ Dp K H y d ∧ d.plain = true ∧ PyData.plainAll ds = true ∧ d.depth ≤ 64
def rIdxL (K : PySem.W.Frag) : V → List V → Hp → VK → Prop := fun x xs H Q => ∃ ds d j, ListOf K H x xs ds d ∧ ds.length ≤ sizeLine ∧ dataPlace ds d = some j ∧ Q (.int (j : Nat)) H
section
variable {X : Cx}
theorem ListOf.reads {pins : List (Addr × Obj)} {s : Shared} {σ : L2.St} {H : Hp} {x : V} {xs : List V} {v : Value} {us : List Value} {ds : List PyData} {d : PyData} (I : Inv X pins σ H s) (rx : RelV x v) (rs : Vals xs us) (h : ListOf X.K H x xs ds d) :
    ∃ (a : Addr) (u : Value) (its : Array Value) (as bs : List Addr), v = .ref a ∧ us = [u] ∧ s.heap.IsList a its ∧ ReadsAll s.heap its.toList ds as ∧ Reads s.heap u d bs ∧ d.plain = true ∧ PyData.plainAll ds = true ∧ d.depth ≤ 64 := by
  obtain ⟨a, ys, y, rfl, rfl, sq, hx, hy, p1, p2, p3⟩ := h
  obtain ⟨u, rfl, ru⟩ := vals1 rs
  cases rx
  obtain ⟨bs, rd⟩ := Dp.reads I d _ _ hy ru
  obtain ⟨as, rl⟩ := Dp.reads I _ _ _ hx rfl
  cases rl with
  | list k1 k2 k3 k4 =>
    rename_i ob vs n _
    refine ⟨a, u, vs, _, bs, rfl, rfl, ⟨ob, k1, k2, n, k3⟩, k4, rd, p1, p2, p3⟩
theorem mt_idxL (hu : X.A.units + 66 < cLine) : MtR X "list.index" (rIdxL X.K) := by
  rintro pins s σ H x xs v us Q I rx rs ⟨ds, d, j, h, few, hp, q⟩
  obtain ⟨a, u, its, as, bs, rfl, rfl, hl, ra, rd, p1, p2, p3⟩ := h.reads I rx rs
  obtain ⟨⟨cls, dd, data, sl⟩, ho, hc, n, hd⟩ := hl
  simp only at hc hd
  subst hc hd
  obtain ⟨hj, hit, hno⟩ := hit_at ra p2 hp
  have sz := len_at ra
  rw [sizeLine_eq] at few
  exact call_meets PySem.F.slot_list_index ⟨_, ho, rfl⟩ PySem.F.entry_list_index (PySem.F.args_list_index_2 _ _) (list_indexAt a its n dd sl u (fun y => PyData.eqv (readOf s.heap y) d) j hj (by omega) hit hno)
    ⟨ho, items_plain ra rd p2 p1 (by have : min (PyData.depthAll ds) d.depth ≤ d.depth := Nat.min_le_right _ _; show X.A.units + 1 + _ < _; omega), ⟨.int (j : Nat), H, I.tok _, ⟨_, rfl⟩, q⟩⟩
end
/-! ### on data -/
end Fx
/-! xs.count(x), xs.index(x), xs a name that goes on to change -/
namespace Fx
open PySem PySem.Spec PyProof.Rows L2 PySem.SeqAt
def mIdxO (i : Nat) (ff : M S) : M S := fun ρ => if peekL ρ i then (dv ff ρ).then fun y ρ1 => match peek ρ1 i with
    | some (.lst ds) => if pl60 y && plA 60 ds && small ds.length then (match placeD ds y with
      | some j => .ok (.d (.int (j : Nat))) ρ1
      | none => .stuck) else .stuck
    | _ => .stuck
  else .stuck
section
variable {c : Cfg} {W : WX} {tf : TE} {ff : M S} {i : Nat}
theorem listOfO {B : Base} {ts ρ : En} {vs : List (Option V)} {σ : L2.St} {H : Hp} {ds : List D} {y : D} {a : Addr} {w : V} (r : Rep c B (some (.d y) :: ts) (some w :: vs) ρ σ H) (ev : σ[i]? = some (some (.ref a))) (e : peek ρ i = some (.lst ds)) (hp : (pl60 y && plA 60 ds) = true) : ListOf c.K H (.ref a) [w] (toPs ds) (toP y) := by
  rw [Bool.and_eq_true] at hp
  obtain ⟨a1, us, G, o1, o2, ev1, ha, ka, k, h1, h2⟩ := r.peekL e
  rw [ev] at ev1
  cases ev1
  cases h1 with
  | d hy _ => exact ⟨a, us, w, rfl, rfl, SqL.of ha, .lst (SqL.of ha) (RpAll.dp k.sub hp.2 ka), hy.dp k.sub hp.1, (pl60_shaped hp.1).1, (plA_plain hp.2).1, Nat.le_trans (pl60_shaped hp.1).2 (by decide)⟩
theorem den_idxO (k : Den c W tf ff) : Den c W (tBM c.K "list" (rIdxL c.K) (tVar i) (tCons tf tNil)) (mIdxO i ff) := fun B ts vs ρ σ H Q r q => by
  unfold mIdxO at q
  split at q
  · rename_i hp
    unfold peekL at hp
    split at hp
    · rename_i ds0 e0
      obtain ⟨a0, us0, _, _, _, ev, ha0, _⟩ := r.peekL e0
      rw [post_then] at q
      refine ⟨.ref a0, ev, .inl ⟨rfl, us0, SqL.of ha0⟩, k.dv r (q.imp1 fun y ρ1 q1 w H1 r1 => ?_)⟩
      split at q1
      · rename_i ds e1
        by_cases hz : (pl60 y && plA 60 ds && small ds.length) = true
        case neg => rw [if_neg hz] at q1; exact q1.elim
        rw [if_pos hz] at q1
        rw [Bool.and_eq_true] at hz
        cases e : placeD ds y with
        | none => rw [e] at q1; exact q1.elim
        | some j =>
          rw [e] at q1
          have fw := small_line hz.2
          refine ⟨toPs ds, toP y, j, listOfO r1 ev e1 hz.1, by rw [toPs_map, List.length_map]; omega, ?_, q1 _ _ (Rep.repl (ds := [y]) (us := [w]) r1 rfl fun _ _ => .int _)⟩
          unfold dataPlace
          rw [toPs_map, List.findIdx?_map]
          exact e
      · exact q1.elim
    · cases hp
  · exact q.elim
variable {X : Cx} {f : Expr} {x : Str} {p apos cpos : Pos} {k : Nat}
theorem q_idxO (i : Nat) (hu : X.A.units + 66 < cLine) (hf : QE X c W f tf ff) (hN : X.N[i]? = some x := by rfl) (hv : Vis X.env.scope x := by first | exact Or.inl rfl | exact Or.inr (Or.inl rfl) | exact Or.inr (Or.inr rfl)) (hd : (x == ("__debug__" : Str)) = false := by decide)
    (hcd : (x == ("__classdict__" : Str)) = false := by decide) (hbase : attributeBase (.Name x p) "index" X.env (eval (.Name x p) X.env) = eval (.Name x p) X.env := by rfl)
    (hfew : ((backTo cpos (starEach [f] X.env)).all (fun y => !y.1) && (backToKw cpos (keywordEach [] X.env)).all (fun y => y.1.isSome) && decide ([f].length + ([] : List Keyword).length + (if ([] : List Keyword).isEmpty then 0 else 1) < 30)) = true := by rfl) (hline : (apos.endLine == cpos.line) = true := by rfl)
    (hs : starEach [f] X.env = (false, eval f X.env) :: starEach [] X.env := by rfl) (hplain : (backTo cpos (starEach [] X.env)).any (·.1) = false := by rfl) (hK : X.K = c.K := by rfl) :
    QE X c W (.Call (.Attribute (.Name x p) "index" apos) [f] [] cpos) (tBM c.K "list" (rIdxL c.K) (tVar i) (tCons tf tNil)) (mIdxO i ff) :=
  ⟨hK ▸ pe_bm PySem.F.plainAttrs_list PySem.F.slot_list_index PySem.F.type_list_index (mt_idxL hu) (pe_var hN hv hd hcd) (pa_cons hf.1 pa_nil hs) hbase hfew hline hs hplain, den_idxO hf.2⟩
end
end Fx
/-! sorted of a list of data that can be compared: tuples, none empty -/
namespace Fx
open PySem PySem.Spec PyProof.Rows L2
open PySem.W (AllAlike Sortable dataLe sorted_data EachIs)
/-! ### on data -/
def tupsB (ds : List D) : Bool := ds.all fun
  | .tup (_ :: _) => true
  | _ => false
end Fx
/-! sorted of a tuple of data that can be compared -/
namespace PySem.W
open PySem PySem.Calls PyProof.Rows
end PySem.W
/-! min(x, default=d) of a list or tuple of data that can be compared -/
namespace Fx
open PySem PySem.Spec PyProof.Rows L2 PySem.SeqAt
open PySem.W (AlikeAll minD alike dataLt min_list_default min_tuple_default readsAll_at)
theorem plain_at : ∀ {xs : List PyData}, PyData.plainAll xs = true → ∀ j, j < xs.length → (xs.getD j .none).plain = true
  | [], _, j, hj => by simp at hj
  | x :: xs, h, j, hj => by
    simp only [PyData.plainAll, Bool.and_eq_true] at h
    cases j with
    | zero => simpa using h.1
    | succ j => simpa using plain_at h.2 j (by simpa using hj)
theorem min_plain : ∀ {xs : List PyData} {a : PyData}, a.plain = true → PyData.plainAll xs = true → (minD a xs).plain = true
  | [], _, h, _ => h
  | x :: xs, a, h, h2 => by
    simp only [PyData.plainAll, Bool.and_eq_true] at h2
    show (minD (if dataLt x a then x else a) xs).plain = true
    refine min_plain ?_ h2.2
    split
    · exact h2.1
    · exact h
section
variable {X : Cx}
def rMinK (K : PySem.W.Frag) : List V → List V → Hp → VK → Prop := fun vs zs H Q => ∃ (p : Addr) (ys : List V) (ds : List PyData) (w : V), vs = [V.ref p] ∧ zs = [w] ∧ (SqL K H p ys ∨ SqT K H p ys) ∧ DpAll K H ys ds ∧ AlikeAll ds ∧ PyData.plainAll ds = true ∧ PyData.depthAll ds ≤ 64 ∧
  (ds = [] → Q w H) ∧ ∀ (d : PyData) (r : List PyData) (i : Nat) (y : V), ds = d :: r → ys[i]? = some y → ds[i]? = some (minD d r) → Q y H
theorem cr_minK (hc : X.calm = true) (hu : X.A.units + 66 < cLine) : CallRK X (.builtin "min") [Str.ofString "default"] (rMinK X.K) := by
  rintro pins s σ H vs zs us ws Q I r1 r2 ⟨p, ys, ds, w, rfl, rfl, hs, hd, ha, hp, hz, q0, q⟩
  obtain ⟨u, rfl, ru⟩ := vals1 r1
  cases ru
  obtain ⟨t, rfl, rt⟩ := vals1 r2
  have none0 : ds = [] → ∀ h' tk, (∀ b o, s.heap.get? b = some o → h'.get? b = some o) → EP X pins σ Q t { s with heap := h', toks := tk } := fun e h' tk k => ⟨w, H, I.kept k, rt, q0 e⟩
  have some1 : ∀ (its : List Value) (as : List Addr), Vals ys its → ReadsAll s.heap its ds as → ∀ (d : PyData) (r : List PyData) (i : Nat) v h' tk bs, ds = d :: r → its.toArray[i]? = some v → Reads h' v (minD d r) bs → (∀ b o, s.heap.get? b = some o → h'.get? b = some o) → EP X pins σ Q v { s with heap := h', toks := tk } := by
    intro its as rv rs d r i v h' tk bs ed hv rd k
    have hv' : its[i]? = some v := by rw [← hv, List.getElem?_toArray]
    obtain ⟨cs, c1, _⟩ := readsAll_at rs i v hv'
    have l1 : i < its.length := (List.getElem?_eq_some_iff.mp hv').1
    have l2 : ys.length = its.length := rv.length
    have l3 : its.length = ds.length := ReadsAll.length _ _ _ rs
    have ly : ys[i]? = some (ys[i]'(by omega)) := List.getElem?_eq_getElem (by omega)
    obtain ⟨w', ew, rw'⟩ := rv.get ly
    rw [hv'] at ew
    cases ew
    have e1 := readOf_plain (plain_at hp i (by omega)) (Reads.keeps k c1)
    have pm : (minD d r).plain = true := by
      rw [ed] at hp
      simp only [PyData.plainAll, Bool.and_eq_true] at hp
      exact min_plain hp.1 hp.2
    have e2 := readOf_plain pm rd
    rw [e1] at e2
    refine ⟨_, H, I.kept k, rw', q d r i _ ed ly ?_⟩
    have li : i < ds.length := by omega
    rw [List.getElem?_eq_getElem li, ← e2, List.getD_eq_getElem?_getD, List.getElem?_eq_getElem li]
    rfl
  rcases hs with hs | hs
  · obtain ⟨its, rv, pl, _⟩ := I.list hs
    obtain ⟨as, rs⟩ := Dp.readsAll I _ _ _ hd rv
    exact min_list_default (I.ok.hd hc) pl.isList rs ha (by omega) none0 (some1 its as rv rs)
  · obtain ⟨its, rv, pl, _⟩ := I.tuple hs
    obtain ⟨as, rs⟩ := Dp.readsAll I _ _ _ hd rv
    exact min_tuple_default (I.ok.hd hc) (show s.heap.IsTuple p its.toArray from pl) rs ha (by omega) none0 (some1 its as rv rs)
end
/-! ### on data -/
def minOr (ds : List D) (y : D) : Option S := match ds with
  | [] => ok1 y
  | d :: r => if plA 60 (d :: r) && alikeB (d :: r) then ok1 (minDD d r) else none
def mMinK (fe fd : M S) : M S := fun ρ => (dv fe ρ).then fun x ρ1 => (dv fd ρ1).then fun y ρ2 => match itemsD x with
  | some ds => match minOr ds y with
    | some s => .ok s ρ2
    | none => .stuck
  | none => .stuck
section
variable {c : Cfg} {W : WX} {te td : TE} {fe fd : M S}
theorem den_minK (h : Den c W te fe) (k : Den c W td fd) : Den c W (tCKw (rMinK c.K) (tCons te tNil) (tCons td tNil)) (mMinK fe fd) := fun B ts vs ρ σ H Q r q => by
  unfold mMinK at q
  rw [post_then] at q
  refine h.dv r (q.imp1 fun x ρ1 q v H1 r1 => ?_)
  rw [post_then] at q
  refine k.dv r1 (q.imp (fun y ρ2 q w H2 r2 => ?_) fun _ _ h => h.drop)
  obtain ⟨G, O, h1, h2⟩ := r2.two
  cases e : itemsD x with
  | none => rw [e] at q; exact q.elim
  | some ds =>
    rw [e] at q
    have seq : ∃ a ys, v = .ref a ∧ (SqL c.K H2 a ys ∨ SqT c.K H2 a ys) ∧ RpAll c G ys ds := by
      cases x <;> first | cases e | skip
      · obtain ⟨a, ys, rfl, ha, ka⟩ := h1.tupE
        exact ⟨a, ys, rfl, .inr (SqT.up O.sub ha), ka⟩
      · obtain ⟨a, ys, rfl, ha, ka⟩ := h1.lstE
        exact ⟨a, ys, rfl, .inl (SqL.of (O.sub _ _ ha)), ka⟩
    obtain ⟨a, ys, rfl, hs, ka⟩ := seq
    cases ds with
    | nil =>
      cases ka
      exact ⟨a, [], [], w, rfl, rfl, hs, .nil, ⟨(fun x hx => by cases hx), (fun x hx => by cases hx)⟩, rfl, by decide, fun _ => q _ _ (O.val h2), (fun d r i y e _ _ => by cases e)⟩
    | cons d r =>
      have q : Post (OkP c B ts vs σ Q) (ErrP c W B ts vs σ) (match (if plA 60 (d :: r) && alikeB (d :: r) then ok1 (minDD d r) else none) with
        | some s => .ok s ρ2
        | none => .stuck) := q
      by_cases hp : (plA 60 (d :: r) && alikeB (d :: r)) = true
      case neg => rw [if_neg hp] at q; exact q.elim
      rw [if_pos hp] at q
      rw [Bool.and_eq_true] at hp
      have pp := plA_plain hp.1
      refine ⟨a, ys, toPs (d :: r), w, rfl, rfl, hs, RpAll.dp O.sub hp.1 ka, alike_of hp.1 hp.2, pp.1, by omega, fun e => by simp [toPs] at e, fun d' r' i y ed hy hm => ?_⟩
      have hpa := List.all_eq_true.mp (plA_all.symm.trans hp.1)
      simp only [toPs, List.cons.injEq] at ed
      obtain ⟨rfl, rfl⟩ := ed
      rw [toPs_map, toPs_map, ← toP_minDD, List.getElem?_map] at hm
      cases e2 : (d :: r)[i]? with
      | none => rw [e2] at hm; cases hm
      | some z =>
        rw [e2] at hm
        have e4 := toP_inj (hpa z (List.mem_of_getElem? e2)) (hpa _ (minDD_mem r d)) (by simpa using hm)
        obtain ⟨z', ez, hz⟩ := ka.getV hy
        rw [e2] at ez
        cases ez
        rw [e4] at hz
        exact q _ _ (O.val hz)
end
section
variable {X : Cx} {c : Cfg} {W : WX} {e d : Expr} {te td : TE} {fe fd : M S} {k : Nat} {p pos kp : Pos}
theorem q_minK (hr : Room k X.A) (hm : X.mg "min" = none) (he : QE X c W e te fe) (hd : QE X c W d td fd) (hc : X.calm = true := by rfl) (hg : Gl X "min" := by rfl) (hK : X.K = c.K := by rfl)
    (hs : starEach [e] X.env = (false, eval e X.env) :: starEach [] X.env := by rfl) (hs2 : backTo pos (starEach [e] X.env) = (false, eval e X.env) :: backTo pos (starEach [] X.env) := by rfl) (hpl : (backTo pos (starEach [] X.env)).any (·.1) = false := by rfl) (hpl2 : (backTo pos (starEach [e] X.env)).any (·.1) = false := by rfl)
    (hall : (backToKw pos (keywordEach [⟨some "default", d, kp⟩] X.env)).all (·.1.isSome) = true := by rfl) (hnone : (backToKw pos (keywordEach [⟨some "default", d, kp⟩] X.env)).any (·.1.isNone) = false := by rfl) (hks : (backToKw pos (keywordEach [⟨some "default", d, kp⟩] X.env)).filterMap (·.1) = [Str.ofString "default"] := by rfl) :
    QE X c W (.Call (.Name "min" p) [e] [⟨some "default", d, kp⟩] pos) (tCKw (rMinK c.K) (tCons te tNil) (tCons td tNil)) (mMinK fe fd) :=
  ⟨pe_callBK (hK ▸ cr_minK hc (un66 hr)) hg hm (by decide +kernel) (pa_cons he.1 pa_nil hs) (pk_cons hd.1 pk_nil) (by decide) (by decide) hs2 hpl2 hall hnone hks, den_minK he.2 hd.2⟩
end
end Fx
/-! sorted(xs, key=f), f a def of the program or what may be called so; keys that can be compared -/
namespace Fx
open PySem PySem.Spec PyProof.Rows L2
open PySem.W (AllAlike Sortable dataLe EachIs dataLt KeepsBut copyHeap sortVals SortsAt dataKind)
/-- the heap without the object at a -/
def without (h : Heap) (a : Addr) : Heap := { h with objs := h.objs.setIfInBounds a { cls := .none, data := .freed } }
theorem without_self {h : Heap} {a : Addr} : (without h a).get? a = none := by
  unfold without Heap.get?
  by_cases ha : a < h.objs.size
  · rw [Array.getElem?_setIfInBounds_self_of_lt ha]
  · rw [Array.getElem?_eq_none (by rw [Array.size_setIfInBounds]; exact Nat.le_of_not_lt ha)]
theorem without_ne {h : Heap} {a b : Addr} (hb : b ≠ a) : (without h a).get? b = h.get? b := by
  unfold without Heap.get?
  rw [Array.getElem?_setIfInBounds_ne (fun z => hb z.symm)]
/-- what is called for each item: one after another -/
def keysQ (sp1 : V → Hp → VK → Prop) : List V → Hp → (List V → Hp → Prop) → Prop
  | [], H, Q => Q [] H
  | x :: xs, H, Q => sp1 x H fun k H1 => keysQ sp1 xs H1 fun ks H2 => Q (k :: ks) H2
abbrev leK : V × PyData → V × PyData → Bool := dataLe false fun b => b.2
def KTail (K : PySem.W.Frag) (xs : List V) (Q : VK) (ks : List V) (H1 : Hp) : Prop := ∃ bs : List (V × PyData), (bs.map fun b => b.1) = xs ∧ DpAll K H1 ks (bs.map fun b => b.2) ∧ AllAlike (bs.map fun b => b.2) ∧ Sortable (bs.map fun b => b.2) ∧
  (∀ b ∈ bs, b.2.depth ≤ 64) ∧ ∀ p, H1 p = none → Q (.ref p) (upd H1 p (.lst ((bs.mergeSort leK).map fun b => b.1)))
def rSortK (K : PySem.W.Frag) (f : Addr) (sp1 : V → Hp → VK → Prop) : List V → List V → Hp → VK → Prop := fun vs zs H Q => ∃ (a : Addr) (xs : List V), vs = [V.ref a] ∧ zs = [V.ref f] ∧ SqL K H a xs ∧ keysQ sp1 xs H (KTail K xs Q)
section
variable {X : Cx} {pins : List (Addr × Obj)} {σ : L2.St} {H : Hp} {s : Shared}
/-- what may be called for a key -/
def KeyAt (X : Cx) (σ : L2.St) (f : Addr) (sp1 : V → Hp → VK → Prop) : Prop := ∀ (pins : List (Addr × Obj)) (s : Shared) (H : Hp) (x : V) (u : Value) (Q : VK) (E : Value → Shared → Prop), Inv X pins σ H s → RelV x u → sp1 x H Q → wpAny (model X.prog X.w) X.A.in1.in1 (call (.ref f) [u]) (EP X pins σ Q) E s
def KeyCall (X : Cx) (f : Addr) (sp1 : V → Hp → VK → Prop) : Prop := ∀ σ, KeyAt X σ f sp1
theorem key_def {k : Nat} {f : Addr} {fd : FuncData} {ps : List Str} {sp : Sp} (F : FnOk X.prog X.w X.K X.mg X.base CX0 k f fd ps sp) (hr : Room (k + 2) X.A) (hb : Binds X.K fd ps []) : KeyCall X f fun x H Q => sp [x] H Q E0 := by
  intro σ pins s H x u Q E I r h
  have r2 : Vals [x] [u] := .cons r .nil
  have hl : [u].length = ps.length := by
    have := F.len _ _ _ _ h
    exact this
  refine wpAny_call (codeAny_mono (F.run X.A.in1.in1 X.stack s H ⟨[u], []⟩ [u] [x] Q E0 hr.in1.in1 I.env0.in1.in1 (hb s [u] I.kIn hl) r2 h) fun r s' hq => ?_)
  cases r with
  | error e => exact hq.elim
  | ok fl =>
    cases fl with
    | ret u => exact I.after hq
    | next => exact False.elim hq
    | brk => exact False.elim hq
    | cont => exact False.elim hq
theorem eachOf {ks : List V} {us : List Value} {ds : List PyData} (I : Inv X pins σ H s) : DpAll X.K H ks ds → Vals ks us → EachIs (fun v d => ∃ as, Reads s.heap v d as) us ds := by
  intro hd hv
  induction hv generalizing ds with
  | nil =>
    cases ds with
    | nil => exact .nil
    | cons d ds => cases hd
  | cons r rs ih =>
    cases ds with
    | nil => cases hd
    | cons d ds =>
      cases hd with
      | cons h1 h2 => exact .cons (Dp.reads I _ _ _ h1 r) (ih h2)
theorem eachV : ∀ {bs : List (V × PyData)} {us : List Value}, Vals (bs.map fun b => b.1) us → EachIs (fun v b => RelV b.1 v) us bs
  | [], _, .nil => .nil
  | b :: bs, _, .cons r k => .cons r (eachV k)
theorem valsV : ∀ {bs : List (V × PyData)} {vs : List Value}, EachIs (fun v b => RelV b.1 v) vs bs → Vals (bs.map fun b => b.1) vs
  | _, _, .nil => .nil
  | _, _, .cons r k => .cons r (valsV k)
theorem sortK_at {f : Addr} {sp1 : V → Hp → VK → Prop} {vs zs : List V} {us ws : List Value} {Q : VK} (kc : KeyAt X σ f sp1) (hu : X.A.units + 66 < cLine) (I : Inv X pins σ H s) (r1 : Vals vs us) (r2 : Vals zs ws) (hsp : rSortK X.K f sp1 vs zs H Q) : wpAny (model X.prog X.w) X.A (call (.builtin "sorted") us ([Str.ofString "key"].zip ws)) (EP X pins σ Q) X.xe s := by
  obtain ⟨a, xs, rfl, rfl, hs, hq⟩ := hsp
  obtain ⟨u, rfl, ru⟩ := vals1 r1
  cases ru
  obtain ⟨t, rfl, rt⟩ := vals1 r2
  cases rt
  obtain ⟨its, rv, pl, hl⟩ := I.list hs
  have hL : its.length ≤ sizeLine := by rw [← rv.length]; exact hl
  show wpAny _ _ (call (.builtin "sorted") [.ref a] [(Str.ofString "key", .ref f)]) _ _ s
  refine PySem.W.sorted_of_sort pl.isList hL (PyProof.Rows.ksk_s1 _ _) (fun _ => PyProof.Rows.ksk_l1 _ _) fun E' => ?_
  rw [PyProof.Rows.ksk_t1]
  generalize hb : s.heap.objs.size + 1 = b
  have ho : (copyHeap s.heap its).get? b = some (seqObj "list" its.toArray 0) := by
    rw [← hb]
    exact PySem.W.copyHeap_at s.heap its
  have hbn : s.heap.objs.size ≤ b := by omega
  obtain ⟨e1, ho1⟩ : ∃ e1, ((copyHeap s.heap its).update b (Obj.mapSeq fun _ => (#[] : Array Value))).get? b = some (seqObj "list" #[] e1) := ⟨_, get?_update_seq ho fun _ => #[]⟩
  have hbs : b < (copyHeap s.heap its).objs.size := Heap.lt_size ho
  unfold PyProof.Rows.ksk_tree
  refine wpAny_bind (listItems_at ho rfl ?_)
  refine wpAny_bind (listUpdate_at ho rfl ?_ (by rw [List.size_toArray]; exact hL) (Nat.zero_le _))
  refine wpAny_bind (seqEpoch_at ho1 rfl ?_)
  refine wpAny_bind (wpAny_newTuple ?_ hL)
  refine wpAny_bind (wpAny_newList ?_ (Nat.zero_le _))
  refine wpAny_holding ?_
  generalize hkSe : (((copyHeap s.heap its).update b (Obj.mapSeq fun _ => (#[] : Array Value))).push (seqObj "tuple" its.toArray 0)).objs.size = kS
  have hkS : kS = (copyHeap s.heap its).objs.size + 1 := by rw [← hkSe, size_push', Heap.size_update]
  have hkb : kS ≠ b := by omega
  have hkn : s.heap.objs.size ≤ kS := by omega
  have k0 : ∀ x o, s.heap.get? x = some o → ((((copyHeap s.heap its).update b (Obj.mapSeq fun _ => (#[] : Array Value))).push (seqObj "tuple" its.toArray 0)).push (seqObj "list" #[] 0)).get? x = some o := fun x o e => by
    have hx : x ≠ b := Nat.ne_of_lt (Nat.lt_of_lt_of_le (Heap.lt_size e) hbn)
    refine Heap.get?_push_of_some _ (Heap.get?_push_of_some _ ?_)
    rw [Heap.get?_update_ne _ _ _ _ hx]
    exact PySem.W.copyHeap_old e
  have nk0 : ((((copyHeap s.heap its).update b (Obj.mapSeq fun _ => (#[] : Array Value))).push (seqObj "tuple" its.toArray 0)).push (seqObj "list" #[] 0)).get? kS = some (seqObj "list" #[] 0) := by
    rw [← hkSe]
    exact Heap.get?_push_size _ rfl
  have na0 : ((((copyHeap s.heap its).update b (Obj.mapSeq fun _ => (#[] : Array Value))).push (seqObj "tuple" its.toArray 0)).push (seqObj "list" #[] 0)).get? b = some (seqObj "list" #[] e1) := Heap.get?_push_of_some _ (Heap.get?_push_of_some _ ho1)
  generalize ((((copyHeap s.heap its).update b (Obj.mapSeq fun _ => (#[] : Array Value))).push (seqObj "tuple" its.toArray 0)).push (seqObj "list" #[] 0)) = hN at k0 nk0 na0
  -- what holds at the two lists that are on the way
  have fp : ∀ (H' : Hp) (y : Addr), s.heap.objs.size ≤ y → H' y = none → FpOk X pins H' y := fun H' y hy hn => I.fpOk hy hn
  have notcell : ∀ (xs : Array Value) (n : Nat) v, (seqObj "list" xs n).data ≠ .cell v := fun xs n v z => by cases z
  have mkPins : ∀ {s' : Shared} {H' : Hp} {kA : Array Value} {e : Nat}, Inv X pins σ H' s' → s'.heap.get? kS = some (seqObj "list" kA e) → s'.heap.get? b = some (seqObj "list" #[] e1) → H' kS = none → H' b = none → Inv X ((kS, seqObj "list" kA e) :: (b, seqObj "list" #[] e1) :: pins) σ H' s' := fun {s' H' kA e} I' h1 h2 h3 h4 => by
    have f1 := fp H' kS hkn h3
    have f2 := fp H' b hbn h4
    refine I'.pins_of fun p hp => ?_
    rcases List.mem_cons.mp hp with rfl | hp
    · exact ⟨h1, h3, f1.2.1, f1.2.2.1, notcell _ _⟩
    rcases List.mem_cons.mp hp with rfl | hp
    · exact ⟨h2, h4, f2.2.1, f2.2.2.1, notcell _ _⟩
    · exact I'.pin p (List.mem_append_right _ hp)
  have I0 : Inv X ((kS, seqObj "list" #[] 0) :: (b, seqObj "list" #[] e1) :: pins) σ H { s with heap := hN } := mkPins (s' := { s with heap := hN }) (I.kept (t' := s.toks) k0) nk0 na0 (I.hok.fresh hkn) (I.hok.fresh hbn)
  show wpAny _ _ (PyProof.Rows.ksk_rest b (.ref f) false its.toArray e1 (.ref kS)) _ _ { s with heap := hN }
  unfold PyProof.Rows.ksk_rest
  refine wpAny_bind (wpAny_rule ?_)
  first
    | rw [List.forIn_toArray]
    | (rw [← Array.forIn_toList]; simp only [List.toList_toArray])
    | rw [← Array.forIn_toList]
  refine wpAny_bind (PyProof.Rows.ksk_fold (fun i s' => ∃ (H' : Hp) (ks : List V) (kA : Array Value) (e : Nat), Inv X ((kS, seqObj "list" kA e) :: (b, seqObj "list" #[] e1) :: pins) σ H' s' ∧ Vals ks kA.toList ∧ ks.length = i ∧
      keysQ sp1 (xs.drop i) H' fun ks2 H1 => KTail X.K xs Q (ks ++ ks2) H1) its 0 _
    ⟨H, [], #[], 0, I0, .nil, rfl, by rw [List.drop_zero]; exact hq⟩ ?step ?done)
  case step =>
    rintro j x s' hx ⟨H', ks, kA, e, I', rk, hkl, hqq⟩
    simp only [Nat.zero_add] at hkl hqq ⊢
    have hj : j < its.length := (List.getElem?_eq_some_iff.mp hx).1
    have hjx : j < xs.length := by rw [rv.length]; exact hj
    obtain ⟨u, eu, ru⟩ := rv.get (List.getElem?_eq_getElem hjx)
    rw [hx] at eu
    cases eu
    rw [List.drop_eq_getElem_cons hjx] at hqq
    refine wpAny_bind (wpAny_attempt (wpAny_mono (kc _ s' H' _ x _ (fun _ _ => False) I' ru hqq) (fun v s2 he => ?_) fun _ _ z => z.elim))
    obtain ⟨k, H1, I1, rkv, q1⟩ := he
    have p1 := I1.pin (kS, seqObj "list" kA e) (List.mem_append_right _ List.mem_cons_self)
    have p2 := I1.pin (b, seqObj "list" #[] e1) (List.mem_append_right _ (List.mem_cons_of_mem _ List.mem_cons_self))
    dsimp only at p1 p2
    have hsz : kA.size = j := by
      have h2 : ks.length = kA.toList.length := rk.length
      rw [hkl, Array.length_toList] at h2
      exact h2.symm
    have s1 := Heap.SameBut.update s2.heap kS (Obj.mapSeq (·.push v))
    obtain ⟨c2, hc2⟩ : ∃ c2, (s2.heap.update kS (Obj.mapSeq (·.push v))).get? kS = some (seqObj "list" (kA.push v) c2) := ⟨_, get?_update_seq p1.1 (·.push v)⟩
    dsimp only
    refine wpAny_bind (listUpdate_at p1.1 rfl ?_ (by omega) (by rw [Array.size_push]; omega))
    have I2 : Inv X pins σ H1 s2 := I1.pins_of fun p hp => I1.pin p (List.mem_append_right _ (List.mem_cons_of_mem _ (List.mem_cons_of_mem _ hp)))
    have I3 : Inv X pins σ H1 { s2 with heap := s2.heap.update kS (Obj.mapSeq (·.push v)), toks := s2.toks } := I2.turnedL (ch := [kS]) (fun y o hy ey => (s1.2 y (fun z => hy (by rw [z]; exact List.mem_cons_self))).trans ey) fun y hy => by
      rw [List.mem_singleton.mp hy]
      exact fp H1 kS hkn p1.2.1
    refine wpAny_pure ⟨rfl, H1, ks ++ [k], kA.push v, c2, mkPins I3 hc2 ((s1.2 b hkb.symm).trans p2.1) p1.2.1 p2.2.1, ?_, by rw [List.length_append, hkl]; rfl, ?_⟩
    · rw [Array.toList_push]
      exact rk.append (.cons rkv .nil)
    · have em : ∀ ks2 : List V, ks ++ [k] ++ ks2 = ks ++ k :: ks2 := fun ks2 => by rw [List.append_assoc]; rfl
      simp only [em]
      exact q1
  case done =>
    rintro s' ⟨H', ks, kA, e, I', rk, hkl, hqq⟩
    rw [Nat.zero_add] at hkl hqq
    rw [List.drop_of_length_le (by rw [rv.length]; exact Nat.le_refl _)] at hqq
    obtain ⟨bs, hbx, hd, hal, hsk, hdp, q⟩ := hqq
    rw [List.append_nil] at hd
    have p1 := I'.pin (kS, seqObj "list" kA e) (List.mem_append_right _ List.mem_cons_self)
    have p2 := I'.pin (b, seqObj "list" #[] e1) (List.mem_append_right _ (List.mem_cons_of_mem _ List.mem_cons_self))
    dsimp only at p1 p2
    have hsz : kA.size = its.length := by
      have h2 : ks.length = kA.toList.length := rk.length
      rw [hkl, Array.length_toList] at h2
      exact h2.symm
    have er := eachOf I' hd rk
    refine wpAny_bind (listItems_at p1.1 rfl ?_)
    have S : SortsAt X.prog X.w X.A.in1.in1 s' (dataKind s'.heap (bs.map fun b => b.2)) kA.toList := SortsAt.data er hal hsk fun d hdm => by
      obtain ⟨c, hc, rfl⟩ := List.mem_map.mp hdm
      have := hdp c hc
      show X.A.units + 1 + 1 + c.2.depth < _
      omega
    refine PySem.W.keyH_end (h₁ := without s'.heap kS) (fun y o hy ey => ?_) without_self p1.1 p2.1 hkb S hsz hL fun h' tk c kp hD => ⟨rfl, ?_⟩
    · by_cases z : y = kS
      · rw [z, without_self] at ey
        cases ey
      · rw [without_ne z] at ey
        exact ey
    have kp' : ∀ y o, y ≠ b → y ≠ kS → s'.heap.get? y = some o → h'.get? y = some o := fun y o h1 h2 ey => kp y o h1 (by rw [without_ne h2]; exact ey)
    have rbs : Vals (bs.map fun b => b.1) its := by rw [hbx]; exact rv
    have eo := PySem.W.keyedOut_each (rev := false) (vs := its) (bs := bs) (R := fun v b => RelV b.1 v) (fun b => b.2) ⟨s'.heap, kA.toList, hal, rfl, er⟩ (eachV rbs)
    have hout := valsV eo
    have I2 : Inv X pins σ H' s' := I'.pins_of fun p hp => I'.pin p (List.mem_append_right _ (List.mem_cons_of_mem _ (List.mem_cons_of_mem _ hp)))
    have f1 := fp H' kS hkn p1.2.1
    have f2 := fp H' b hbn p2.2.1
    have nch : ∀ {y : Addr}, y ∉ [kS, b] → y ≠ b ∧ y ≠ kS := fun {y} hy => ⟨fun z => hy (by rw [z]; simp), fun z => hy (by rw [z]; simp)⟩
    have inH : ∀ {y : Addr} {u : HO}, H' y = some u → y ≠ b ∧ y ≠ kS := fun {y u} ey => ⟨fun z => (by rw [z, p2.2.1] at ey; cases ey), fun z => (by rw [z, p1.2.1] at ey; cases ey)⟩
    have hokT : HOk X.prog X.w H' h' := (I2.turnedL (h' := h') (t' := tk) (ch := [kS, b]) (fun y o hy ey => kp' y o (nch hy).1 (nch hy).2 ey) fun y hy => by
      rcases List.mem_cons.mp hy with rfl | hy
      · exact f1
      · rw [List.mem_singleton.mp hy]
        exact f2).hok
    have I3 : Inv X pins σ (upd H' b (.lst ((bs.mergeSort leK).map fun b => b.1))) { s' with heap := h', toks := tk } := by
      refine I2.step (g' := s'.gens) (d' := s'.drawn) (t' := tk) (ch := [kS, b]) (fun y hy => ?_) (fun y o _ _ hy ey _ => kp' y o (nch hy).1 (nch hy).2 ey) (fun y o _ _ hy ey _ => ⟨o.slots, kp' y o (nch hy).1 (nch hy).2 ey⟩) (fun y o hy _ n => by rw [upd_ne (nch hy).1]; exact n) (fun y o hy ey => ⟨o, kp' y o (nch hy).1 (nch hy).2 ey⟩)
        (fun y ts ey => by rw [upd_ne (inH ey).1]; exact ey) (fun y o u ey => by rw [upd_ne (inH ey).1]; exact ey) (fun y ps ey => ⟨#[], by rw [upd_ne (inH ey).1, ey]; simp⟩) (fun m hm => ?_) (L2.HOk.laidN hokT (fun _ _ z => z) p2.2.1 ?_) I2.bare
      · have := List.mem_cons.mp hy
        have g : FpOk X pins H' y := by
          rcases this with rfl | z
          · exact f1
          · rw [List.mem_singleton.mp z]
            exact f2
        exact ⟨g.2.2.2.1, g.2.1, g.2.2.2.2.1, g.2.2.2.2.2⟩
      · obtain ⟨o, es, ep, ho2, r⟩ := hm
        exact ⟨o, es, ep, kp' _ o (fun z => f2.2.1 z.symm) (fun z => f1.2.1 z.symm) ho2, r⟩
      · refine ⟨?_, _, c, hout, hD⟩
        rw [List.length_map, List.length_mergeSort]
        have := rbs.length
        rw [List.length_map] at this
        omega
    exact ⟨.ref b, _, I3, rfl, q b p2.2.1⟩
theorem cr_sortK {f : Addr} {sp1 : V → Hp → VK → Prop} (kc : KeyCall X f sp1) (hu : X.A.units + 66 < cLine) : CallRK X (.builtin "sorted") [Str.ofString "key"] (rSortK X.K f sp1) := fun pins s σ H vs zs us ws Q I r1 r2 h => sortK_at (kc σ) hu I r1 r2 h
end
end Fx
/-! a stable sort that the kernel computes -/
namespace Fx
open PySem PyProof.Rows
open PySem.W
def insB {β : Type} (le : β → β → Bool) (a : β) : List β → List β
  | [] => [a]
  | b :: l => if le a b then a :: b :: l else b :: insB le a l
def isB {β : Type} (le : β → β → Bool) : List β → List β
  | [] => []
  | a :: l => insB le a (isB le l)
theorem insB_app {β : Type} {le : β → β → Bool} {a : β} : ∀ {l1 l2 : List β}, (∀ b ∈ l1, le a b = false) → (∀ b, l2.head? = some b → le a b = true) → insB le a (l1 ++ l2) = l1 ++ a :: l2
  | [], [], _, _ => rfl
  | [], b :: l2, _, h => by
    show (if le a b then a :: b :: l2 else b :: insB le a l2) = _
    rw [if_pos (h b rfl)]
    rfl
  | b :: l1, l2, h, k => by
    show (if le a b then _ else b :: insB le a (l1 ++ l2)) = _
    rw [h b List.mem_cons_self, insB_app (fun x hx => h x (List.mem_cons_of_mem _ hx)) k]
    rfl
theorem isB_eq {β : Type} {le : β → β → Bool} (tr : ∀ a b c, le a b = true → le b c = true → le a c = true) (tot : ∀ a b, (le a b || le b a) = true) : ∀ l : List β, l.mergeSort le = isB le l
  | [] => by simp [isB]
  | a :: l => by
    obtain ⟨l1, l2, e1, e2, h⟩ := List.mergeSort_cons tr tot a l
    show _ = insB le a (isB le l)
    rw [← isB_eq tr tot l, e2, e1]
    have sp := List.pairwise_mergeSort tr tot (a :: l)
    rw [e1] at sp
    have sp2 := (List.pairwise_append.mp sp).2.1
    rw [List.pairwise_cons] at sp2
    exact (insB_app (fun b hb => by simpa using h b hb) fun b hb => sp2.1 b (List.mem_of_mem_head? hb)).symm
theorem dataSort_isB {β : Type} (k : β → PyData) (l : List β) : l.mergeSort (dataLe false k) = isB (dataLe false k) l := by
  have tot := sortLe_total (listOrd itemOrd) false fun b : β => keyToks (k b)
  exact isB_eq (fun a b c h1 h2 => tot.trans a b c h1 h2) (fun a b => by
    have := tot.total a b
    rcases this with h | h
    · rw [Bool.or_eq_true]; exact .inl h
    · rw [Bool.or_eq_true]; exact .inr h) l
end Fx
/-! sorted(xs, key=f) on data -/
namespace Fx
open PySem PySem.Spec PyProof.Rows L2
open PySem.W (AllAlike Sortable dataLe EachIs)
open C8 (Cal Mak pe_c pe_mk)
def keysOf (F : Fn) : List D → Option (List D)
  | [] => some []
  | d :: ds => match F [.d d] with
    | .ok s _ => match toD s with
      | some k => (keysOf F ds).map (k :: ·)
      | none => none
    | _ => none
def noTupB (ds : List D) : Bool := ds.all fun
  | .tup _ => false
  | .non => false
  | _ => true
def sortBy (ds ks : List D) : List D := (isB (dataLe false fun b : D × D => toP b.2) (ds.zip ks)).map fun b => b.1
def keysOkB (ks : List D) : Bool := plA 60 ks && alikeB ks && (tupsB ks || noTupB ks)
def mSortK (F : Fn) (fe : M S) : M S := fun ρ => (dv fe ρ).then fun x ρ1 => match x with
  | .lst ds => match keysOf F ds with
    | some ks => if keysOkB ks then .ok (.o none (.lst (sortBy ds ks))) ρ1 else .stuck
    | none => .stuck
  | _ => .stuck
theorem keysOf_len {F : Fn} : ∀ {ds ks : List D}, keysOf F ds = some ks → ks.length = ds.length
  | [], ks, h => by cases h; rfl
  | d :: ds, ks, h => by
    unfold keysOf at h
    cases hf : F [.d d] with
    | stuck => rw [hf] at h; cases h
    | err e ρ => rw [hf] at h; cases h
    | ok s ρ =>
      rw [hf] at h
      dsimp only at h
      cases ht : toD s with
      | none => rw [ht] at h; cases h
      | some k =>
        rw [ht] at h
        dsimp only at h
        obtain ⟨ks', e1, rfl⟩ := Option.map_eq_some_iff.mp h
        rw [List.length_cons, List.length_cons, keysOf_len e1]
section
variable {c : Cfg} {B : Base} {W : WX} {ts : En} {vs : List (Option V)} {ρ : En} {σ : L2.St} {H : Hp} {te : TE} {fe : M S} {F : Fn} {f : Addr} {G : Hp}
theorem slPush : ∀ {ds : List D} {us : List V} {es : En} {ws : List (Option V)} {own : Owns}, RpAll c G us ds → Sl c B G H es ws own → Sl c B G H (tmp ds ++ es) (tmv us ++ ws) own
  | _, _, _, _, _, .nil, k => k
  | _, _, _, _, _, .cons (v := v) (d := d) (vs := us) (ds := ds) h t, k => by
    have := slPush t (Sl.d h k)
    simpa [tmp, tmv] using this
theorem bare_of {s : S} {x : D} (h : toD s = some x) : bare s = true := by
  cases s with
  | d y => rfl
  | o b y =>
    cases b with
    | none => rfl
    | some p => cases h
  | q ks ds => cases h
theorem zip3 {α β γ δ : Type} {g : γ → δ} : ∀ {xs : List α} {ds : List β} {ks : List γ}, xs.length = ds.length → ds.length = ks.length → (xs.zip (ds.zip ks)).map (fun z => (z.1, g z.2.2)) = xs.zip (ks.map g) ∧ (xs.zip (ds.zip ks)).map (fun z => z.2) = ds.zip ks
  | [], [], [], _, _ => ⟨rfl, rfl⟩
  | x :: xs, d :: ds, k :: ks, h1, h2 => by
    obtain ⟨a, b⟩ := zip3 (g := g) (xs := xs) (ds := ds) (ks := ks) (by simpa using h1) (by simpa using h2)
    simp only [List.zip_cons_cons, List.map_cons, a, b]
    exact ⟨trivial, trivial⟩
  | [], _ :: _, _, h, _ => by simp at h
  | _ :: _, [], _, h, _ => by simp at h
  | _, [], _ :: _, _, h => by simp at h
  | _, _ :: _, [], _, h => by simp at h
theorem rp3 {γ : Type} : ∀ {xs : List V} {ds : List D} {ks : List γ}, RpAll c G xs ds → ∀ z ∈ xs.zip (ds.zip ks), Rp c G z.1 z.2.1
  | _, _, _, .nil => fun z hz => by simp at hz
  | _, _, [], .cons h k => fun z hz => by simp at hz
  | _, _, _ :: ks, .cons h k => fun z hz => by
    rw [List.zip_cons_cons, List.zip_cons_cons] at hz
    rcases List.mem_cons.mp hz with rfl | hz
    · exact h
    · exact rp3 k z hz
theorem keys_den {ds : List D} {xs : List V} (hl : xs.length = ds.length) : ∀ {rest : List D} {rv : List V} {ks kd : List D} {kv : List V} {H' : Hp} {QQ : List V → Hp → Prop} (i : Nat), ds.drop i = rest → xs.drop i = rv → kv.length = kd.length → Rep c B (tmp (ds ++ kd) ++ ts) (tmv (xs ++ kv) ++ vs) ρ σ H' → keysOf F rest = some ks →
    (∀ kv' H2, kv'.length = ks.length → Rep c B (tmp (ds ++ (kd ++ ks)) ++ ts) (tmv (xs ++ (kv ++ kv')) ++ vs) ρ σ H2 → QQ kv' H2) → keysQ (fun x H Q => spF c F [x] H Q E0) rv H' QQ
  | [], rv, ks, kd, kv, H', QQ, i, e1, e2, hk, r, ek, q => by
    cases ek
    have hi := congrArg List.length e1
    rw [List.length_drop] at hi
    have : rv = [] := by
      rw [← e2]
      exact List.drop_of_length_le (by rw [hl]; simp at hi; omega)
    subst this
    refine q [] H' rfl ?_
    rw [List.append_nil, List.append_nil]
    exact r
  | d :: rest, rv, ks, kd, kv, H', QQ, i, e1, e2, hk, r, ek, q => by
    have hi : i < ds.length := by
      have := congrArg List.length e1
      rw [List.length_drop, List.length_cons] at this
      omega
    have hix : i < xs.length := by omega
    rw [List.drop_eq_getElem_cons hi] at e1
    rw [List.drop_eq_getElem_cons hix] at e2
    subst e2
    have ed : ds[i] = d := (List.cons.inj e1).1
    have er : ds.drop (i + 1) = rest := (List.cons.inj e1).2
    unfold keysOf at ek
    cases hf : F [.d d] with
    | stuck => rw [hf] at ek; cases ek
    | err e ρ' => rw [hf] at ek; cases ek
    | ok s ρ' =>
      rw [hf] at ek
      dsimp only at ek
      cases ht : toD s with
      | none => rw [ht] at ek; cases ek
      | some k =>
        rw [ht] at ek
        dsimp only at ek
        obtain ⟨ks', ek', rfl⟩ := Option.map_eq_some_iff.mp ek
        have rX : Rep c B (tmp [d] ++ (tmp (ds ++ kd) ++ ts)) (tmv [xs[i]] ++ (tmv (xs ++ kv) ++ vs)) ρ σ H' := by
          obtain ⟨G, o1, o2, k, h1, h2⟩ := r
          obtain ⟨a1, a2⟩ := h1.tmp (by rw [List.length_append, List.length_append, hl, hk])
          obtain ⟨w, ew, rw'⟩ := a1.get (i := i) (d := d) (by rw [List.getElem?_append_left hi, List.getElem?_eq_getElem hi, ed])
          rw [List.getElem?_append_left hix, List.getElem?_eq_getElem hix] at ew
          cases ew
          exact ⟨G, o1, o2, k, .d rw' h1, h2⟩
        show spF c F [xs[i]] H' _ E0
        refine ⟨⟨fun _ => none, B.pin⟩, erE (tmp (ds ++ kd) ++ ts) ++ erE ρ, (tmv (xs ++ kv) ++ vs) ++ σ, [.d d], rX.enter (ds := [d]) (us := [xs[i]]) rfl, ?_⟩
        rw [hf]
        intro v σ' H1 r'
        have r2 := (Rep.leave (bare_of ht) r r').toD ht
        refine keys_den hl (i + 1) er rfl (kd := kd ++ [k]) (kv := kv ++ [v]) (by rw [List.length_append, List.length_append, hk]; rfl) ?_ ek' fun kv' H2 hkv r3 => ?_
        · have : some (S.d k) :: (tmp (ds ++ kd) ++ ts) = tmp (ds ++ (kd ++ [k])) ++ ts := by simp [tmp]
          rw [← this]
          have : some v :: (tmv (xs ++ kv) ++ vs) = tmv (xs ++ (kv ++ [v])) ++ vs := by simp [tmv]
          rw [← this]
          exact r2
        · refine q (v :: kv') H2 (by rw [List.length_cons, List.length_cons, hkv]) ?_
          rw [List.append_assoc, List.append_assoc] at r3
          exact r3
/-- sorted(e, key=f) of a list -/
def tSortK (K : PySem.W.Frag) (sp1 : V → Hp → VK → Prop) (te : TE) : TE := fun σ H Q => te σ H fun v H1 => ∃ (a : Addr) (xs : List V), v = .ref a ∧ SqL K H1 a xs ∧ keysQ sp1 xs H1 (KTail K xs Q)
theorem den_sortK (h : Den c W te fe) : Den c W (tSortK c.K (fun x H Q => spF c F [x] H Q E0) te) (mSortK F fe) := fun B ts vs ρ σ H Q r q => by
  unfold mSortK at q
  rw [post_then] at q
  refine h.dv r (q.imp1 fun x ρ1 q v H1 r1 => ?_)
  cases x with
  | lst ds =>
    dsimp only at q
    cases hk : keysOf F ds with
    | none => rw [hk] at q; exact q.elim
    | some ks =>
      rw [hk] at q
      dsimp only at q
      by_cases hp : keysOkB ks = true
      case neg => rw [if_neg hp] at q; exact q.elim
      rw [if_pos hp] at q
      unfold keysOkB at hp
      rw [Bool.and_eq_true, Bool.and_eq_true] at hp
      obtain ⟨⟨hp, hal⟩, htu⟩ := hp
      have hkl := keysOf_len hk
      obtain ⟨a, xs, rfl, hs, hl, r2⟩ : ∃ (a : Addr) (xs : List V), v = .ref a ∧ SqL c.K H1 a xs ∧ xs.length = ds.length ∧ Rep c B (tmp ds ++ ts) (tmv xs ++ vs) ρ1 σ H1 := by
        obtain ⟨G, o1, o2, k, h1, h2⟩ := r1
        cases h1 with
        | d hr ht =>
          obtain ⟨a, xs, rfl, ha, ka⟩ := hr.lstE
          exact ⟨a, xs, rfl, SqL.of (k.sub _ _ ha), ka.length, G, o1, o2, k, slPush ka ht, h2⟩
      refine ⟨a, xs, rfl, hs, ?_⟩
      refine keys_den (ts := ts) (vs := vs) (ρ := ρ1) (σ := σ) (B := B) hl 0 rfl rfl (kd := []) (kv := []) rfl (by rw [List.append_nil, List.append_nil]; exact r2) hk fun kv H2 hkv r3 => ?_
      rw [List.nil_append, List.nil_append] at r3
      have hall : (xs ++ kv).length = (ds ++ ks).length := by rw [List.length_append, List.length_append, hl, hkv]
      obtain ⟨G, sub, ra⟩ := r3.read hall
      have rx : RpAll c G xs ds := by
        have := ra.take ds.length
        rw [List.take_left', List.take_left'] at this
        · exact this
        · rfl
        · exact hl
      have rk : RpAll c G kv ks := by
        have := ra.drop ds.length
        rw [List.drop_left', List.drop_left'] at this
        · exact this
        · rfl
        · exact hl
      have e1 : (xs.zip (ks.map toP)).map (fun b => b.1) = xs := by
        rw [List.map_fst_zip]
        rw [List.length_map]
        omega
      have e2 : (xs.zip (ks.map toP)).map (fun b => b.2) = toPs ks := by
        rw [List.map_snd_zip, toPs_map]
        rw [List.length_map]
        omega
      have hpa := List.all_eq_true.mp (plA_all.symm.trans hp)
      refine ⟨xs.zip (ks.map toP), e1, by rw [e2]; exact RpAll.dp sub hp rk, by rw [e2]; exact (alike_of hp hal).1, ?_, fun b hb => ?_, fun p hn => ?_⟩
      · rw [e2, toPs_map]
        rw [Bool.or_eq_true] at htu
        rcases htu with htu | htu
        · refine .inl fun d hd => ?_
          obtain ⟨x, hx, rfl⟩ := List.mem_map.mp hd
          have := List.all_eq_true.mp htu x hx
          cases x <;> first | cases this | skip
          rename_i es
          cases es with
          | nil => cases this
          | cons y ys => exact ⟨toP y, toPs ys, by simp [toP, toPs]⟩
        · refine .inr fun d hd => ?_
          obtain ⟨x, hx, rfl⟩ := List.mem_map.mp hd
          have h1 := List.all_eq_true.mp htu x hx
          have h2 := hpa x hx
          cases x <;> first | (cases h1; done) | (simp [pl] at h2; done) | (simp [toP]; done)
      · have := (List.of_mem_zip (show (b.1, b.2) ∈ _ from hb)).2
        obtain ⟨x, hx, ex⟩ := List.mem_map.mp this
        rw [← ex]
        exact Nat.le_trans (pl60_shaped (hpa x hx)).2 (by decide)
      · refine q _ _ (r3.newO hall hn fun G' H' e' ra' => ?_)
        have rx' : RpAll c G' xs ds := by
          have := ra'.take ds.length
          rw [List.take_left', List.take_left'] at this
          · exact this
          · rfl
          · exact hl
        refine ⟨_, e', ?_⟩
        obtain ⟨m1, m2⟩ := zip3 (g := toP) (xs := xs) (ds := ds) (ks := ks) hl hkl.symm
        have s1 : (xs.zip (ks.map toP)).mergeSort leK = ((xs.zip (ds.zip ks)).mergeSort (dataLe false fun z : V × D × D => toP z.2.2)).map fun z => (z.1, toP z.2.2) := by
          rw [← m1]
          exact (List.map_mergeSort (r := dataLe false fun z : V × D × D => toP z.2.2) (s := leK) (f := fun z : V × D × D => (z.1, toP z.2.2)) fun a _ b _ => rfl).symm
        have s2 : sortBy ds ks = ((xs.zip (ds.zip ks)).mergeSort (dataLe false fun z : V × D × D => toP z.2.2)).map fun z => z.2.1 := by
          unfold sortBy
          rw [← dataSort_isB]
          have : (ds.zip ks).mergeSort (dataLe false fun b : D × D => toP b.2) = ((xs.zip (ds.zip ks)).mergeSort (dataLe false fun z : V × D × D => toP z.2.2)).map fun z => z.2 := by
            conv => lhs; rw [← m2]
            exact (List.map_mergeSort (r := dataLe false fun z : V × D × D => toP z.2.2) (s := dataLe false fun b : D × D => toP b.2) (f := fun z : V × D × D => z.2) fun a _ b _ => rfl).symm
          rw [this, List.map_map]
          rfl
        rw [s1, s2, List.map_map]
        have z3 := rp3 (ks := ks) rx'
        have key : ∀ l : List (V × D × D), (∀ z ∈ l, Rp c G' z.1 z.2.1) → RpAll c G' (l.map ((fun b => b.1) ∘ fun z : V × D × D => (z.1, toP z.2.2))) (l.map fun z => z.2.1) := fun l => by
          induction l with
          | nil => exact fun _ => .nil
          | cons z l ih => exact fun hz => .cons (hz z List.mem_cons_self) (ih fun y hy => hz y (List.mem_cons_of_mem _ hy))
        exact key _ fun z hz => z3 z (List.mem_mergeSort.mp hz)
  | _ => exact q.elim
end
section
variable {X : Cx} {c : Cfg} {W : WX} {e : Expr} {te : TE} {fe : M S} {F : Fn} {k j : Nat} {x : Str} {p np pos kp : Pos} {sp1 : V → Hp → VK → Prop}
theorem pe_sortK {f : Addr} (kc : KeyCall X f sp1) (hf : PE X (.Name x np) (tC (.ref f))) (hu : X.A.units + 66 < cLine) (hm : X.mg "sorted" = none) (he : PE X e te) (hg : Gl X "sorted")
    (hs : starEach [e] X.env = (false, eval e X.env) :: starEach [] X.env) (hs2 : backTo pos (starEach [e] X.env) = (false, eval e X.env) :: backTo pos (starEach [] X.env)) (hpl2 : (backTo pos (starEach [e] X.env)).any (·.1) = false)
    (hall : (backToKw pos (keywordEach [⟨some "key", .Name x np, kp⟩] X.env)).all (·.1.isSome) = true) (hnone : (backToKw pos (keywordEach [⟨some "key", .Name x np, kp⟩] X.env)).any (·.1.isNone) = false) (hks : (backToKw pos (keywordEach [⟨some "key", .Name x np, kp⟩] X.env)).filterMap (·.1) = [Str.ofString "key"]) :
    PE X (.Call (.Name "sorted" p) [e] [⟨some "key", .Name x np, kp⟩] pos) (tSortK X.K sp1 te) := by
  refine ⟨fun pins s σ H Q I h => ?_⟩
  have ha : PA X [e] (tCons te tNil) := pa_cons he pa_nil hs
  have hk : PK X [⟨some "key", .Name x np, kp⟩] (tCons (tC (.ref f)) tNil) := pk_cons hf pk_nil
  refine wpAny_Call_Name_kw (ld_blt (u := .builtin "sorted") I hg hm (by decide +kernel) ?_ (by decide) (by decide))
  refine PyProof.Rows.callWith_kw (thn (ha.run pos pins s σ H (fun vs H1 => match vs with
    | [v] => ∃ (a : Addr) (xs : List V), v = .ref a ∧ SqL X.K H1 a xs ∧ keysQ sp1 xs H1 (KTail X.K xs Q)
    | _ => False) I h) fun us s1 ⟨vs, H1, I1, r1, q1⟩ => thn (hk.run pos pins s1 σ H1 (fun zs H2 => zs = [.ref f] ∧ H2 = H1) I1 ⟨rfl, rfl⟩) fun ws s2 ⟨zs, H2, I2, r2, ez, eh⟩ => ?_) hs2 hpl2 hall hnone
  rw [hks]
  subst ez eh
  match vs, q1, r1 with
  | [v], q1, r1 =>
    obtain ⟨a, xs, rfl, hs, hq⟩ := q1
    exact cr_sortK kc hu pins s2 σ _ [.ref a] [.ref f] us ws Q I2 r1 r2 ⟨a, xs, rfl, rfl, hs, hq⟩
theorem q_sortK (C : Cal X.prog X.w c.K X.mg X.base k x (spF c F) []) (hr : Room j X.A) (hk : k + 2 ≤ j) (hm : X.mg "sorted" = none) (he : QE X c W e te fe) (hgx : Gl X x := by rfl) (hK : X.K = c.K := by rfl) (hg : Gl X "sorted" := by rfl) (hdb : (x == ("__debug__" : Str)) = false := by decide)
    (hs : starEach [e] X.env = (false, eval e X.env) :: starEach [] X.env := by rfl) (hs2 : backTo pos (starEach [e] X.env) = (false, eval e X.env) :: backTo pos (starEach [] X.env) := by rfl) (hpl2 : (backTo pos (starEach [e] X.env)).any (·.1) = false := by rfl)
    (hall : (backToKw pos (keywordEach [⟨some "key", .Name x np, kp⟩] X.env)).all (·.1.isSome) = true := by rfl) (hnone : (backToKw pos (keywordEach [⟨some "key", .Name x np, kp⟩] X.env)).any (·.1.isNone) = false := by rfl) (hks : (backToKw pos (keywordEach [⟨some "key", .Name x np, kp⟩] X.env)).filterMap (·.1) = [Str.ofString "key"] := by rfl) :
    QE X c W (.Call (.Name "sorted" p) [e] [⟨some "key", .Name x np, kp⟩] pos) (tSortK c.K (fun x H Q => spF c F [x] H Q E0) te) (mSortK F fe) := by
  obtain ⟨f, fd, ps, ds, Fn, hmg, kp', b, d⟩ := (hK ▸ C : Cal X.prog X.w X.K X.mg X.base k x (spF c F) []).ex
  have hd : ds = [] := by cases d; rfl
  subst hd
  have kc : KeyCall X f (fun x H Q => spF c F [x] H Q E0) := key_def Fn (hr.mono hk) b
  exact ⟨hK ▸ pe_sortK kc (pe_glob hgx hmg rfl hdb) (un66 hr) hm he.1 hg hs hs2 hpl2 hall hnone hks, den_sortK he.2⟩
end
end Fx
/-! xs[::-1] of a list -/
namespace Fx
open PySem PySem.Spec PyProof.Rows L2
def mRevL (fe : M S) : M S := fun ρ => (dv fe ρ).then fun x ρ1 => match x with
  | .lst ds => .ok (.o none (.lst ds.reverse)) ρ1
  | _ => .stuck
section
variable {c : Cfg} {W : WX} {te : TE} {fe : M S}
theorem den_revL (h : Den c W te fe) : Den c W (tRevL c.K te) (mRevL fe) := fun B ts vs ρ σ H Q r q => by
  unfold mRevL at q
  rw [post_then] at q
  refine h.dv r (q.imp1 fun x ρ1 q v H1 r1 => ?_)
  cases x <;> first | exact q.elim | skip
  rename_i ds
  obtain ⟨G, O, hv⟩ := r1.one
  obtain ⟨a, us, rfl, ha, ka⟩ := hv.lstE
  exact ⟨a, us, rfl, SqL.of (O.sub _ _ ha), fun p hp => q _ _ (O.newO hp fun H' e => ⟨_, e, ka.rev⟩)⟩
variable {X : Cx} {e : Expr} {k : Nat} {p1 p2 p3 pos : Pos}
theorem q_revL (h : QE X c W e te fe) (hK : X.K = c.K := by rfl) : QE X c W (.Subscript e (.Slice none none (some (.UnaryOp .USub (.Constant (.int 1) k p1) p2)) p3) pos) (tRevL c.K te) (mRevL fe) := ⟨hK ▸ pe_revL h.1, den_revL h.2⟩
end
end Fx
/-! the denotations of routeweb_k44_storms_known -/
namespace Fx.K44
open PySem PySem.Spec PyProof.Rows L2
open C8 (Cal Mak pe_c pe_mk)
open LamX (Tabs TabS TabB ExtN CodeO codeO_ne)
def topS (i : Nat) : Stmt := PySem.Challenge.pw_routeweb_k44_storms_known.main.body.getD i (.Pass ⟨0, 0, 0, 0⟩)
abbrev s_is_number : Stmt := topS 7
abbrev n_is_number : List Str := ["value", "low", "high"]
def b_is_number : M Fl := (mRet (mAndV (mCB gIsi (aCons (mVar 0) (aCons (mC (.ty "int")) aNil))) (mAndV (mNotV (mCB gIsi (aCons (mVar 0) (aCons (mC (.ty "bool")) aNil)))) (mChain gLe gLe (mVar 1) (mVar 0) (mVar 2)))))
def f_is_number : Fn := runF 3 3 b_is_number
abbrev s_is_tuple : Stmt := topS 8
abbrev n_is_tuple : List Str := ["value", "least", "most"]
def b_is_tuple : M Fl := (mRet (mAndV (mCB gIsi (aCons (mVar 0) (aCons (mC (.ty "tuple")) aNil))) (mChain gLe gLe (mVar 1) (mCB gLen (aCons (mVar 0) aNil)) (mVar 2))))
def f_is_tuple : Fn := runF 3 3 b_is_tuple
abbrev s_are_numbers : Stmt := topS 9
abbrev n_are_numbers : List Str := ["value", "low", "high", "item"]
def b_are_numbers : M Fl := (mRet (mAndV (mCB gIsi (aCons (mVar 0) (aCons (mC (.ty "tuple")) aNil))) (mCB gAll (aCons (mLc (iSeq (mVar 0)) (gmName 3) mYes (mCall f_is_number (aCons (mVar 3) (aCons (mVar 1) (aCons (mVar 2) aNil)))) [3]) aNil))))
def f_are_numbers : Fn := runF 3 4 b_are_numbers
abbrev s_are_unlike : Stmt := topS 10
abbrev n_are_unlike : List Str := ["values"]
def b_are_unlike : M Fl := (mRet (mOp gEq (mUn gSetL (mVar 0)) (mCB gLen (aCons (mVar 0) aNil))))
def f_are_unlike : Fn := runF 1 1 b_are_unlike
abbrev s_may_stay : Stmt := topS 15
abbrev n_may_stay : List Str := ["places", "roots", "fixed", "known", "root", "path", "node", "own", "place", "longer", "offered"]
def b_may_stay : M Fl := (mSeq (mAsg (mOp gAdd (mLc (iSeq (mVar 1)) (gmName 4) mYes (mTup (aCons (mVar 4) aNil)) [4]) (mLc (iSeq (mListVals (mVar 2))) (gmName 5) (mTest (mOp gNotN (mVar 5) (mC .non))) (mVar 5) [5])) (gmName 3))
    (mSeq (mFor (iKeysD (mVar 2)) (gmName 6) (mSeq (mAsg (mOp gDget (mVar 0) (mVar 6)) (gmName 7))
    (mSeq (mAsg (mIf (mTest (mOp gIsN (mOp gDget (mVar 2) (mVar 6)) (mC .non))) (mLenD 7) (mOp gDget (mVar 7) (mOp gDget (mVar 2) (mVar 6)))) (gmName 8))
    (mSeq (mAsg (mLc (iSeq (mVar 3)) (gmName 5) mYes (mTup (aCons (mVar 6) (aStar (mVar 5) aNil))) [5]) (gmName 9))
    (mSeq (mAsg (mLc (iSeq (mVar 9)) (gmName 5) (mTest (mInN false (mVar 5) 7)) (mOp gDget (mVar 7) (mVar 5)) [5]) (gmName 10))
    (mIfS (mTest (mOp gLt (mMinK (mVar 10) (mVar 8)) (mVar 8))) (mRet (mC (.bl false))) mNx))))))
    (mRet (mC (.bl true)))))
def f_may_stay : Fn := runF 3 11 b_may_stay
abbrev s_with_path : Stmt := topS 14
abbrev n_with_path : List Str := ["places", "fixed", "path", "after", "cut", "rest"]
def b_with_path : M Fl := (mSeq (mAsgO 3 (mCB gDictC (aCons (mVar 1) aNil)))
    (mSeq (mFor (iRange1 (aCons (mOp gMinus (mCB gLen (aCons (mVar 2) aNil)) (mC (.int 1))) aNil)) (gmName 4) (mSeq (mAsg (mSl (mVar 2) (oSome (mVar 4)) oNone) (gmName 5))
    (mSeq (mIfS (mOr (mTest (mOp (gInD true) (mVar 5) (mOp gDget (mVar 0) (mOp gIx (mVar 5) (mC (.int 0)))))) (mTest (mOp gNe (mGet2N 3 (mOp gIx (mVar 5) (mC (.int 0))) (mVar 5)) (mVar 5)))) (mRet (mC .non)) mNx)
    (mAsg (mVar 5) (gmItemD 3 (mOp gIx (mVar 5) (mC (.int 0))))))))
    (mRetO 3)))
def f_with_path : Fn := runF 3 6 b_with_path
abbrev s_widened : Stmt := topS 13
abbrev n_widened : List Str := ["places", "fixed", "node", "wider", "path", "after"]
def b_widened : M Fl := (mSeq (mAsg (mLc (iKeysD (mOp gDget (mVar 0) (mVar 2))) (gmName 4) mYes (mCall f_with_path (aCons (mVar 0) (aCons (mVar 1) (aCons (mVar 4) aNil)))) [4]) (gmName 3))
    (mRet (mOp gAdd (mLc (iSeq (mVar 3)) (gmName 5) (mTest (mOp gNotN (mVar 5) (mC .non))) (mVar 5) [5]) (mLst (aCons (mDisp 1 2) aNil)))))
def f_widened : Fn := runF 3 6 b_widened
abbrev s_stable_among : Stmt := topS 12
abbrev n_stable_among : List Str := ["lists", "roots", "places", "place", "path", "node", "states", "waiting", "fixed", "unfixed", "wider", "after"]
def b_stable_among : M Fl := (mSeq (mAsg (mDc (iKeysD (mVar 0)) (gmName 5) mYes (mVar 5) (mDc (iEnu (aCons (mOp gDget (mVar 0) (mVar 5)) aNil)) (gmTup 2 (gmCons (gmName 3) (gmCons (gmName 4) gmNil))) mYes (mVar 4) (mVar 3) [3, 4]) [5]) (gmName 2))
    (mSeq (mAsgO 6 (mLst aNil))
    (mSeq (mAsgO 7 (mLst (aCons (mDnew) aNil)))
    (mSeq (mWhile (mTruthO 7) (mSeq (mAsg (mMeth0 7 gPop) (gmName 8))
    (mSeq (mAsg (mLc (iKeysD (mVar 0)) (gmName 5) (mTest (mInN true (mVar 5) 8)) (mVar 5) [5]) (gmName 9))
    (mIfS (mTruth (mVar 9)) (mSeq (mAsg (mCall f_widened (aCons (mVar 2) (aCons (mVar 8) (aCons (mOp gIx (mVar 9) (mC (.int 0))) aNil)))) (gmName 10))
    (mDrop (mMeth1 7 gExt (mLc (iSeq ((mRevL (mVar 10)))) (gmName 11) (mTruth (mCall f_may_stay (aCons (mVar 2) (aCons (mVar 1) (aCons (mVar 11) aNil))))) (mVar 11) [11])))) (mDrop (mMeth1 6 gApp (mCB gTuple (aCons (mLc (iKeysD (mVar 0)) (gmName 5) mYes (mOp gDget (mVar 8) (mVar 5)) [5]) aNil))))))) 1000)
    (mRetO 6)))))
def f_stable_among : Fn := runF 2 12 b_stable_among
abbrev s_left_last : Stmt := topS 18
abbrev n_left_last : List Str := ["heads", "order", "seen", "waiting", "node", "is_left", "head"]
def b_left_last : M Fl := (mSeq (mAsgO 1 (mLst aNil))
    (mSeq (mAsgO 2 (mDnew))
    (mSeq (mAsgO 3 (mLc (iKeysD (mVar 0)) (gmName 4) mYes (mTup (aCons (mVar 4) (aCons (mC (.bl false)) aNil))) [4]))
    (mSeq (mWhile (mTruthO 3) (mSeq (mAsg (mMeth0 3 gPop) (gmTup 2 (gmCons (gmName 4) (gmCons (gmName 5) gmNil))))
    (mIfS (mTruth (mVar 5)) (mDrop (mMeth1 1 gApp (mVar 4))) (mIfS (mTest (mInN true (mVar 4) 2)) (mSeq (mAsg (mC (.bl true)) (gmItemD 2 (mVar 4)))
    (mSeq (mDrop (mMeth1 3 gApp (mTup (aCons (mVar 4) (aCons (mC (.bl true)) aNil)))))
    (mDrop (mMeth1 3 gExt (mLc (iSeq (mOp gDget (mVar 0) (mVar 4))) (gmName 6) mYes (mTup (aCons (mVar 6) (aCons (mC (.bl false)) aNil))) [6]))))) mNx))) 1000)
    (mRetO 1)))))
def f_left_last : Fn := runF 1 7 b_left_last
abbrev s_unseen_from : Stmt := topS 19
abbrev n_unseen_from : List Str := ["heads", "root", "seen", "found", "waiting", "node"]
def b_unseen_from : M Fl := (mSeq (mAsgO 3 (mLst aNil))
    (mSeq (mAsgO 4 (mLst (aCons (mVar 1) aNil)))
    (mSeq (mWhile (mTruthO 4) (mSeq (mAsg (mMeth0 4 gPop) (gmName 5))
    (mIfS (mTest (mInN true (mVar 5) 2)) (mSeq (mAsg (mC (.bl true)) (gmItemD 2 (mVar 5)))
    (mSeq (mDrop (mMeth1 3 gApp (mVar 5)))
    (mDrop (mMeth1 4 gExt (mOp gDget (mVar 0) (mVar 5)))))) mNx)) 1000)
    (mRetO 3))))
def f_unseen_from : Fn := runF 3 6 b_unseen_from
abbrev s_knots_among : Stmt := topS 17
abbrev n_knots_among : List Str := ["heads", "tails", "node", "head", "knots", "seen", "root"]
def b_knots_among : M Fl := (mSeq (mSetDcX 1 (iKeysD (mVar 0)) (gmName 2) mYes (mVar 2) (mLst aNil) [2])
    (mSeq (mFor (iKeysD (mVar 0)) (gmName 2) (mFor (iSeq (mOp gDget (mVar 0) (mVar 2))) (gmName 3) (mDrop (mMethX1 1 (mVar 3) gApp 2))))
    (mSeq (mAsgO 4 (mLst aNil))
    (mSeq (mAsgO 5 (mDnew))
    (mSeq (mFor (iRevS (aCons (mCall f_left_last (aCons (mVar 0) aNil)) aNil)) (gmName 6) (mIfS (mTest (mInN true (mVar 6) 5)) (mDrop (mMeth1 4 gApp (mCallO f_unseen_from 5 2 (aCons (mVarX 1) (aCons (mVar 6) (aOwn 5 aNil)))))) mNx))
    (mRetO 4))))))
def f_knots_among : Fn := runF 1 7 b_knots_among
abbrev s_is_path : Stmt := topS 24
abbrev n_is_path : List Str := ["many", "node", "value"]
def b_is_path : M Fl := (mSeq (mIfS (mOr (mNot (mTest (mCall f_are_numbers (aCons (mVar 2) (aCons (mC (.int 0)) (aCons (mVar 0) aNil)))))) (mTest (mOp gLt (mCB gLen (aCons (mVar 2) aNil)) (mC (.int 2))))) (mRet (mC (.bl false))) mNx)
    (mRet (mAndV (mOp gEq (mOp gIx (mVar 2) (mC (.int 0))) (mVar 1)) (mAndV (mOp gEq (mOp gIx (mVar 2) (mUn gNeg (mC (.int 1)))) (mC (.int 0))) (mCall f_are_unlike (aCons (mVar 2) aNil))))))
def f_is_path : Fn := runF 3 3 b_is_path
abbrev s_check_choices : Stmt := topS 25
abbrev n_check_choices : List Str := ["choices"]
def b_check_choices : M Fl := (mIfS (mNot (mTest (mIsC "Choices" (mVar 0)))) mSt mNx)
def f_check_choices : Fn := runF 1 1 b_check_choices
abbrev s_is_listed : Stmt := topS 26
abbrev n_is_listed : List Str := ["choices", "node", "value"]
def b_is_listed : M Fl := (mRet (mAndV (mCall f_are_numbers (aCons (mVar 2) (aCons (mC (.int 0)) (aCons (mCB gLen (aCons (mFldE "Choices" 0 (mVar 0)) aNil)) aNil)))) (mOp gIn (mVar 2) (mOp gIx (mFldE "Choices" 0 (mVar 0)) (mOp gMinus (mVar 1) (mC (.int 1)))))))
def f_is_listed : Fn := runF 3 3 b_is_listed
abbrev s_check_state : Stmt := topS 27
abbrev n_check_state : List Str := ["choices", "state", "index", "path"]
def b_check_state : M Fl := (mSeq (mIfS (mNot (mTest (mCall f_is_tuple (aCons (mVar 1) (aCons (mCB gLen (aCons (mFldE "Choices" 0 (mVar 0)) aNil)) (aCons (mCB gLen (aCons (mFldE "Choices" 0 (mVar 0)) aNil)) aNil)))))) mSt mNx)
    (mFor (iEnu (aCons (mVar 1) aNil)) (gmTup 2 (gmCons (gmName 2) (gmCons (gmName 3) gmNil))) (mIfS (mAnd (mTest (mOp gNotN (mVar 3) (mC .non))) (mNot (mTest (mCall f_is_listed (aCons (mVar 0) (aCons (mOp gAdd (mVar 2) (mC (.int 1))) (aCons (mVar 3) aNil))))))) mSt mNx)))
def f_check_state : Fn := runF 2 4 b_check_state
abbrev s_taken_in : Stmt := topS 28
abbrev n_taken_in : List Str := ["choices", "node", "state", "path"]
def b_taken_in : M Fl := (mSeq (mFor (iSeq (mOp gIx (mFldE "Choices" 0 (mVar 0)) (mOp gMinus (mVar 1) (mC (.int 1))))) (gmName 3) (mIfS (mOr (mTest (mOp gEq (mOp gIx (mVar 3) (mC (.int 1))) (mC (.int 0)))) (mTest (mOp gEq (mOp gIx (mVar 2) (mOp gMinus (mOp gIx (mVar 3) (mC (.int 1))) (mC (.int 1)))) (mSl (mVar 3) (oSome (mC (.int 1))) oNone)))) (mRet (mVar 3)) mNx))
    (mRet (mC .non)))
def f_taken_in : Fn := runF 3 4 b_taken_in
abbrev s_stable_of : Stmt := topS 29
abbrev n_stable_of : List Str := ["choices", "node", "paths"]
def b_stable_of : M Fl := (mSeq (mDrop (mCall f_check_choices (aCons (mVar 0) aNil)))
    (mRet (mCall f_stable_among (aCons (mDc (iEnuS 1 (aCons (mFldE "Choices" 0 (mVar 0)) aNil)) (gmTup 2 (gmCons (gmName 1) (gmCons (gmName 2) gmNil))) mYes (mVar 1) (mVar 2) [1, 2]) (aCons (mTup (aCons (mC (.int 0)) aNil)) aNil)))))
def f_stable_of : Fn := runF 1 3 b_stable_of
abbrev s_pairs : Stmt := topS 30
abbrev n_pairs : List Str := ["choices", "node", "paths", "path"]
def b_pairs : M Fl := (mRet (mLc2 (iEnuS 1 (aCons (mFldE "Choices" 0 (mVar 0)) aNil)) (gmTup 2 (gmCons (gmName 1) (gmCons (gmName 2) gmNil))) mYes (iSeq (mVar 2)) (gmName 3) mYes (mTup (aCons (mVar 1) (aCons (mVar 3) aNil))) [1, 2, 3] [3]))
def f_pairs : Fn := runF 1 4 b_pairs
abbrev s_disputes : Stmt := topS 31
abbrev n_disputes : List Str := ["choices", "node", "path", "paths", "found", "better", "cut"]
def b_disputes : M Fl := (mSeq (mAsg (mOp gIx (mFldE "Choices" 0 (mVar 0)) (mOp gMinus (mVar 1) (mC (.int 1)))) (gmName 3))
    (mSeq (mAsgO 4 (mLst aNil))
    (mSeq (mFor (iSeq (mSl (mVar 3) oNone (oSome (mOp gAdd (mIdxT (mVar 3) (mVar 2)) (mC (.int 1)))))) (gmName 5) (mFor (iRange2 (aCons (mC (.int 1)) (aCons (mOp gMinus (mCB gLen (aCons (mVar 5) aNil)) (mC (.int 1))) aNil))) (gmName 6) (mIfS (mTest (mOp gIn (mSl (mVar 5) (oSome (mVar 6)) oNone) (mOp gIx (mFldE "Choices" 0 (mVar 0)) (mOp gMinus (mOp gIx (mVar 5) (mVar 6)) (mC (.int 1)))))) (mDrop (mMeth1 4 gApp (mTup (aCons (mOp gIx (mVar 5) (mVar 6)) (aCons (mSl (mVar 5) (oSome (mVar 6)) oNone) (aCons (mSl (mVar 5) oNone (oSome (mOp gAdd (mVar 6) (mC (.int 1))))) aNil)))))) mNx)))
    (mRetO 4))))
def f_disputes : Fn := runF 3 7 b_disputes
abbrev s_numbered : Stmt := topS 32
abbrev n_numbered : List Str := ["choices", "left", "node", "path", "order", "ready", "pair", "after"]
def b_numbered : M Fl := (mSeq (mAsg (mDc (iSeq (mCall f_pairs (aCons (mVar 0) aNil))) (gmTup 2 (gmCons (gmName 2) (gmCons (gmName 3) gmNil))) mYes (mTup (aCons (mVar 2) (aCons (mVar 3) aNil))) (mCall f_disputes (aCons (mVar 0) (aCons (mVar 2) (aCons (mVar 3) aNil)))) [2, 3]) (gmName 1))
    (mSeq (mAsgO 4 (mLst aNil))
    (mWhile (mTest (mC (.bl true))) (mSeq (mAsg (mLc (iKeysD (mVar 1)) (gmName 6) (mNot (mTruth (mLc (iSeq (mOp gDget (mVar 1) (mVar 6))) (gmName 7) (mTest (mInN false (mSl (mVar 7) oNone (oSome (mC (.int 2)))) 1)) (mVar 7) [7]))) (mVar 6) [6]) (gmName 5))
    (mSeq (mIfS (mNot (mTruth (mVar 5))) (mRet (mTup (aCons (mVar 4) (aCons (mCB gListD (aCons (mVar 1) aNil)) aNil)))) mNx)
    (mSeq (mDrop (mMeth1 4 gExt (mVar 5)))
    (mAsg (mDc (iKeysD (mVar 1)) (gmName 6) (mTest (mOp gNotIn (mVar 6) (mVar 5))) (mVar 6) (mOp gDget (mVar 1) (mVar 6)) [6]) (gmName 1))))) 1000)))
def f_numbered : Fn := runF 1 8 b_numbered
abbrev s_wheel : Stmt := topS 33
abbrev n_wheel : List Str := ["choices", "_", "left", "passed", "triples", "pair", "node", "path", "after", "found"]
def b_wheel : M Fl := (mSeq (mDrop (mCall f_check_choices (aCons (mVar 0) aNil)))
    (mSeq (mAsg (mCall f_numbered (aCons (mVar 0) aNil)) (gmTup 2 (gmCons (gmName 1) (gmCons (gmName 2) gmNil))))
    (mSeq (mIfS (mNot (mTruth (mVar 2))) (mRet (mC .non)) mNx)
    (mSeq (mAsgO 3 (mLst aNil))
    (mSeq (mAsgO 4 (mLst aNil))
    (mSeq (mAsg (mOp gIx (mVar 2) (mC (.int 0))) (gmName 5))
    (mSeq (mWhile (mTest (mOpR gNotIn (mVar 5) 3)) (mSeq (mDrop (mMeth1 3 gApp (mVar 5)))
    (mSeq (mAsg (mVar 5) (gmTup 2 (gmCons (gmName 6) (gmCons (gmName 7) gmNil))))
    (mSeq (mAsg (mLc (iSeq (mCall f_disputes (aCons (mVar 0) (aCons (mVar 6) (aCons (mVar 7) aNil))))) (gmName 9) (mTest (mOp gIn (mSl (mVar 9) oNone (oSome (mC (.int 2)))) (mVar 2))) (mVar 9) [9]) (gmName 8))
    (mSeq (mDrop (mMeth1 4 gApp (mTup (aCons (mVar 6) (aCons (mVar 7) (aCons (mOp gIx (mOp gIx (mVar 8) (mC (.int 0))) (mC (.int 2))) aNil))))))
    (mAsg (mSl (mOp gIx (mVar 8) (mC (.int 0))) oNone (oSome (mC (.int 2)))) (gmName 5)))))) 1000)
    (mRet (mCB gTuple (aCons (mSl (mVar 4) (oSome (mIdxO 3 (mVar 5))) oNone) aNil))))))))))
def f_wheel : Fn := runF 1 10 b_wheel
abbrev s_after : Stmt := topS 36
abbrev n_after : List Str := ["choices", "state", "node"]
def b_after : M Fl := (mRet (mTup (aStar (mSl (mVar 1) oNone (oSome (mOp gMinus (mVar 2) (mC (.int 1))))) (aCons (mCall f_taken_in (aCons (mVar 0) (aCons (mVar 2) (aCons (mVar 1) aNil)))) (aStar (mSl (mVar 1) (oSome (mVar 2)) oNone) aNil)))))
def f_after : Fn := runF 3 3 b_after
abbrev s_moves_from : Stmt := topS 37
abbrev n_moves_from : List Str := ["choices", "state", "nodes", "moves", "found", "waiting", "last", "node", "after"]
def b_moves_from : M Fl := (mSeq (mAsg (mCB gRngV (aCons (mC (.int 1)) (aCons (mOp gAdd (mCB gLen (aCons (mFldE "Choices" 0 (mVar 0)) aNil)) (mC (.int 1))) aNil))) (gmName 2))
    (mSeq (mAsgO 3 (mDnew))
    (mSeq (mAsgO 4 (mDis1 (mVar 1) (mC (.bl true))))
    (mSeq (mAsgO 5 (mLst (aCons (mVar 1) aNil)))
    (mSeq (mWhile (mTruthO 5) (mSeq (mAsg (mMeth0 5 gPop) (gmName 6))
    (mSeq (mAsg (mLc (iRngD (mVar 2)) (gmName 7) mYes (mCall f_after (aCons (mVar 0) (aCons (mVar 6) (aCons (mVar 7) aNil)))) [7]) (gmItemD 3 (mVar 6)))
    (mSeq (mFor (iSeq (mDgetN 3 (mVar 6))) (gmName 8) (mIfS (mTest (mInN true (mVar 8) 4)) (mSeq (mAsg (mC (.bl true)) (gmItemD 4 (mVar 8)))
    (mDrop (mMeth1 5 gApp (mVar 8)))) mNx))
    (mIfS (mTest (mOp gGt (mLenD 4) (mC (.int 2000)))) mSt mNx)))) 1000)
    (mRetO 3))))))
def f_moves_from : Fn := runF 2 9 b_moves_from
abbrev s_rank_of : Stmt := topS 38
abbrev n_rank_of : List Str := ["state", "path"]
def b_rank_of : M Fl := (mRet (mLc (iSeq (mVar 0)) (gmName 1) mYes (mTup (aCons (mOp gIsN (mVar 1) (mC .non)) (aCons (mOrT (mVar 1) (mTup aNil)) aNil))) [1]))
def f_rank_of : Fn := runF 1 2 b_rank_of
abbrev s_states_from : Stmt := topS 39
abbrev n_states_from : List Str := ["choices", "state", "moves", "stable", "found", "after"]
def b_states_from : M Fl := (mSeq (mDrop (mCall f_check_choices (aCons (mVar 0) aNil)))
    (mSeq (mDrop (mCall f_check_state (aCons (mVar 0) (aCons (mVar 1) aNil))))
    (mSeq (mAsg (mCall f_moves_from (aCons (mVar 0) (aCons (mVar 1) aNil))) (gmName 2))
    (mSeq (mAsg (mLc (iKeysD (mVar 2)) (gmName 4) (mTest (mCB gAll (aCons (mLc (iSeq (mOp gDget (mVar 2) (mVar 4))) (gmName 5) mYes (mOp gEq (mVar 5) (mVar 4)) [5]) aNil))) (mVar 4) [4]) (gmName 3))
    (mRet (mTup (aCons (mLenD 2) (aCons (mSortK f_rank_of (mVar 3)) aNil))))))))
def f_states_from : Fn := runF 2 6 b_states_from
abbrev s_way : Stmt := topS 42
abbrev n_way : List Str := ["moves", "begin", "goals", "ways", "waiting", "state", "node", "after"]
def b_way : M Fl := (mSeq (mAsgO 3 (mDis1 (mVar 1) (mTup aNil)))
    (mSeq (mAsgO 4 (mLst (aCons (mVar 1) aNil)))
    (mSeq (mWhile (mTest (mInN true (mIxO 4 (mC (.int 0))) 2)) (mSeq (mAsg (mMeth1 4 gPopAt (mC (.int 0))) (gmName 5))
    (mFor (iEnuSG 1 (aCons (mOp gDget (mVar 0) (mVar 5)) aNil)) (gmTup 2 (gmCons (gmName 6) (gmCons (gmName 7) gmNil))) (mIfS (mTest (mInN true (mVar 7) 3)) (mSeq (mAsg (mTup (aStar (mDgetN 3 (mVar 5)) (aCons (mVar 6) aNil))) (gmItemD 3 (mVar 7)))
    (mDrop (mMeth1 4 gApp (mVar 7)))) mNx))) 1000)
    (mRet (mTup (aCons (mDgetN 3 (mIxO 4 (mC (.int 0)))) (aCons (mIxO 4 (mC (.int 0))) aNil)))))))
def f_way : Fn := runF 3 8 b_way
abbrev s_round_trip : Stmt := topS 43
abbrev n_round_trip : List Str := ["moves", "begin", "places", "again", "state", "node", "staying", "way", "place", "_"]
def b_round_trip : M Fl := (mSeq (mAsgO 3 (mLst aNil))
    (mSeq (mAsg (mVar 1) (gmName 4))
    (mSeq (mFor (iEnuSG 1 (aCons (mVar 2) aNil)) (gmTup 2 (gmCons (gmName 5) (gmCons (gmName 6) gmNil))) (mSeq (mAsg (mCall f_way (aCons (mVar 0) (aCons (mVar 4) (aCons (mVar 6) aNil)))) (gmTup 2 (gmCons (gmName 7) (gmCons (gmName 8) gmNil))))
    (mSeq (mAugL 3 (mLst (aStar (mVar 7) (aCons (mVar 5) aNil))))
    (mAsg (mOp gIx (mOp gDget (mVar 0) (mVar 8)) (mOp gMinus (mVar 5) (mC (.int 1)))) (gmName 4)))))
    (mSeq (mAsg (mCall f_way (aCons (mVar 0) (aCons (mVar 4) (aCons (mDis1 (mVar 1) (mC (.bl true))) aNil)))) (gmTup 2 (gmCons (gmName 7) (gmCons (gmName 9) gmNil))))
    (mRet (mTup (aStar (mVar 3) (aStar (mVar 7) aNil))))))))
def f_round_trip : Fn := runF 3 10 b_round_trip
abbrev s_staying : Stmt := topS 41
abbrev n_staying : List Str := ["moves", "knot", "node", "inside", "state"]
def b_staying : M Fl := (mSeq (mAsg (mDc (iSeq (mVar 1)) (gmName 4) mYes (mVar 4) (mC (.bl true)) [4]) (gmName 3))
    (mRet (mDc (iSeq (mVar 1)) (gmName 4) (mTest (mInN false (mOp gIx (mOp gDget (mVar 0) (mVar 4)) (mOp gMinus (mVar 2) (mC (.int 1)))) 3)) (mVar 4) (mC (.bl true)) [4])))
def f_staying : Fn := runF 3 5 b_staying
abbrev s_storm : Stmt := topS 40
abbrev n_storm : List Str := ["choices", "state", "moves", "nodes", "knot", "places", "node", "staying", "first", "begin"]
def b_storm : M Fl := (mSeq (mDrop (mCall f_check_choices (aCons (mVar 0) aNil)))
    (mSeq (mDrop (mCall f_check_state (aCons (mVar 0) (aCons (mVar 1) aNil))))
    (mSeq (mAsg (mCall f_moves_from (aCons (mVar 0) (aCons (mVar 1) aNil))) (gmName 2))
    (mSeq (mAsg (mCB gRngV (aCons (mC (.int 1)) (aCons (mOp gAdd (mCB gLen (aCons (mFldE "Choices" 0 (mVar 0)) aNil)) (mC (.int 1))) aNil))) (gmName 3))
    (mSeq (mFor (iSeq (mCall f_knots_among (aCons (mVar 2) aNil))) (gmName 4) (mSeq (mAsg (mLc (iRngD (mVar 3)) (gmName 6) mYes (mCall f_staying (aCons (mVar 2) (aCons (mVar 4) (aCons (mVar 6) aNil)))) [6]) (gmName 5))
    (mIfS (mAnd (mTest (mOp gGt (mCB gLen (aCons (mVar 4) aNil)) (mC (.int 1)))) (mTest (mCB gAll (aCons (mLc (iSeq (mVar 5)) (gmName 7) mYes (mOp gGt (mLenD 7) (mC (.int 0))) [7]) aNil)))) (mSeq (mAsg (mCall f_way (aCons (mVar 2) (aCons (mVar 1) (aCons (mDis1 (mOp gIx (mVar 4) (mC (.int 0))) (mC (.bl true))) aNil)))) (gmTup 2 (gmCons (gmName 8) (gmCons (gmName 9) gmNil))))
    (mRet (mTup (aCons (mVar 8) (aCons (mCall f_round_trip (aCons (mVar 2) (aCons (mVar 9) (aCons (mVar 5) aNil)))) aNil))))) mNx)))
    (mRet (mC .non)))))))
def f_storm : Fn := runF 2 10 b_storm
abbrev s_law_taken : Stmt := topS 45
abbrev n_law_taken : List Str := ["row", "many", "found", "cell"]
def b_law_taken : M Fl := (mSeq (mIfS (mTest (mOp gGt (mIxO 0 (mC (.int 3))) (mC (.int 0)))) (mSeq (mAsg (mOp gMod (mCB gInt1 (aCons (mIxO 0 (mC (.int 3))) aNil)) (mVar 1)) (gmName 2))
    (mSeq (mAsg (mOp gDiv (mIxO 0 (mC (.int 3))) (mVar 1)) (gmItem 0 (mC (.int 3))))
    (mRet (mVar 2)))) mNx)
    (mSeq (mAsg (mOp gAdd (mIxO 0 (mC (.int 1))) (mC (.int 1))) (gmItem 0 (mC (.int 1))))
    (mSeq (mIfS (mTest (mOp gGt (mIxO 0 (mC (.int 1))) (mCB gLen (aCons (mIxO 0 (mC (.int 0))) aNil)))) (mSeq (mAsg (mOp gMod (mCB gInt1 (aCons (mOp gAdd (mOp gMul (mIxO 0 (mC (.int 2))) (mC (.int 48271))) (mC (.int 11))) aNil)) (mC (.int 2147483647))) (gmItem 0 (mC (.int 2))))
    (mRet (mOp gMod (mCB gInt1 (aCons (mOp gDiv (mIxO 0 (mC (.int 2))) (mC (.int 7))) aNil)) (mVar 1)))) mNx)
    (mSeq (mAsg (mOp gIx (mIxO 0 (mC (.int 0))) (mOp gMinus (mIxO 0 (mC (.int 1))) (mC (.int 1)))) (gmName 3))
    (mSeq (mAsg (mOp gMod (mCB gInt1 (aCons (mOp gAdd (mOp gAdd (mOp gMul (mIxO 0 (mC (.int 2))) (mC (.int 48271))) (mVar 3)) (mC (.int 11))) aNil)) (mC (.int 2147483647))) (gmItem 0 (mC (.int 2))))
    (mSeq (mIfS (mTest (mOp gGe (mVar 3) (mOp gPow (mC (.int 10)) (mC (.int 18))))) (mAsg (mOp gDiv (mVar 3) (mVar 1)) (gmItem 0 (mC (.int 3)))) mNx)
    (mRet (mOp gMod (mCB gInt1 (aCons (mVar 3) aNil)) (mVar 1)))))))))
def f_law_taken : Fn := runF 2 4 b_law_taken
abbrev s_law_pick : Stmt := topS 46
abbrev n_law_pick : List Str := ["row", "things"]
def b_law_pick : M Fl := (mRet (mOp gIx (mVar 1) (mCallO f_law_taken 0 0 (aOwn 0 (aCons (mCB gLen (aCons (mVar 1) aNil)) aNil)))))
def f_law_pick : Fn := runF 2 2 b_law_pick
abbrev s_Choices_init : Stmt := inClass (topS 23) 0
abbrev n_Choices_init : List Str := ["self", "lists", "node", "paths", "index", "path"]
def b_Choices_init : M Fl := (mSeq (mIfS (mNot (mTest (mCall f_is_tuple (aCons (mVar 1) (aCons (mC (.int 0)) (aCons (mC (.int 7)) aNil)))))) mSt mNx)
    (mSeq (mFor (iEnuS 1 (aCons (mVar 1) aNil)) (gmTup 2 (gmCons (gmName 2) (gmCons (gmName 3) gmNil))) (mSeq (mIfS (mNot (mTest (mCall f_is_tuple (aCons (mVar 3) (aCons (mC (.int 0)) (aCons (mC (.int 10)) aNil)))))) mSt mNx)
    (mFor (iEnu (aCons (mVar 3) aNil)) (gmTup 2 (gmCons (gmName 4) (gmCons (gmName 5) gmNil))) (mIfS (mOr (mNot (mTest (mCall f_is_path (aCons (mCB gLen (aCons (mVar 1) aNil)) (aCons (mVar 2) (aCons (mVar 5) aNil)))))) (mTest (mOp gIn (mVar 5) (mSl (mVar 3) oNone (oSome (mVar 4)))))) mSt mNx))))
    (mSetF "Choices" 0 0 (mVar 1))))
def f_Choices_init : Fn := runF 2 6 b_Choices_init
abbrev s_law : Stmt := topS 47
abbrev n_law : List Str := ["script", "row", "two", "good", "bad", "naughty", "fresh", "many", "found", "state"]
def b_law : M Fl := (mSeq (mAsgO 1 (mLst (aCons (mVar 0) (aCons (mC (.int 0)) (aCons (mC (.int 3544)) (aCons (mC (.int 0)) aNil))))))
    (mSeq (mAsg (mMake "Choices" 1 f_Choices_init (aCons (mTup (aCons (mTup (aCons (mTup (aCons (mC (.int 1)) (aCons (mC (.int 2)) (aCons (mC (.int 0)) aNil)))) (aCons (mTup (aCons (mC (.int 1)) (aCons (mC (.int 0)) aNil))) aNil))) (aCons (mTup (aCons (mTup (aCons (mC (.int 2)) (aCons (mC (.int 1)) (aCons (mC (.int 0)) aNil)))) (aCons (mTup (aCons (mC (.int 2)) (aCons (mC (.int 0)) aNil))) aNil))) aNil))) aNil)) (gmName 2))
    (mSeq (mAsg (mMake "Choices" 1 f_Choices_init (aCons (mTup (aCons (mTup (aCons (mTup (aCons (mC (.int 1)) (aCons (mC (.int 3)) (aCons (mC (.int 0)) aNil)))) (aCons (mTup (aCons (mC (.int 1)) (aCons (mC (.int 0)) aNil))) aNil))) (aCons (mTup (aCons (mTup (aCons (mC (.int 2)) (aCons (mC (.int 1)) (aCons (mC (.int 0)) aNil)))) (aCons (mTup (aCons (mC (.int 2)) (aCons (mC (.int 0)) aNil))) aNil))) (aCons (mTup (aCons (mTup (aCons (mC (.int 3)) (aCons (mC (.int 0)) aNil))) aNil)) aNil)))) aNil)) (gmName 3))
    (mSeq (mAsg (mMake "Choices" 1 f_Choices_init (aCons (mTup (aCons (mTup (aCons (mTup (aCons (mC (.int 1)) (aCons (mC (.int 2)) (aCons (mC (.int 0)) aNil)))) (aCons (mTup (aCons (mC (.int 1)) (aCons (mC (.int 0)) aNil))) aNil))) (aCons (mTup (aCons (mTup (aCons (mC (.int 2)) (aCons (mC (.int 3)) (aCons (mC (.int 0)) aNil)))) (aCons (mTup (aCons (mC (.int 2)) (aCons (mC (.int 0)) aNil))) aNil))) (aCons (mTup (aCons (mTup (aCons (mC (.int 3)) (aCons (mC (.int 1)) (aCons (mC (.int 0)) aNil)))) (aCons (mTup (aCons (mC (.int 3)) (aCons (mC (.int 0)) aNil))) aNil))) aNil)))) aNil)) (gmName 4))
    (mSeq (mAsg (mMake "Choices" 1 f_Choices_init (aCons (mTup (aCons (mTup (aCons (mTup (aCons (mC (.int 1)) (aCons (mC (.int 2)) (aCons (mC (.int 0)) aNil)))) (aCons (mTup (aCons (mC (.int 1)) (aCons (mC (.int 0)) aNil))) aNil))) (aCons (mTup (aCons (mTup (aCons (mC (.int 2)) (aCons (mC (.int 3)) (aCons (mC (.int 0)) aNil)))) (aCons (mTup (aCons (mC (.int 2)) (aCons (mC (.int 0)) aNil))) aNil))) (aCons (mTup (aCons (mTup (aCons (mC (.int 3)) (aCons (mC (.int 1)) (aCons (mC (.int 0)) aNil)))) (aCons (mTup (aCons (mC (.int 3)) (aCons (mC (.int 4)) (aCons (mC (.int 0)) aNil)))) (aCons (mTup (aCons (mC (.int 3)) (aCons (mC (.int 0)) aNil))) aNil)))) (aCons (mTup (aCons (mTup (aCons (mC (.int 4)) (aCons (mC (.int 0)) aNil))) aNil)) aNil))))) aNil)) (gmName 5))
    (mSeq (mAsg (mLc (iSeq (mLst (aCons (mC (.int 2)) (aCons (mC (.int 3)) (aCons (mC (.int 3)) (aCons (mC (.int 4)) aNil)))))) (gmName 7) mYes (mOp gMulT (mTup (aCons (mC .non) aNil)) (mVar 7)) [7]) (gmName 6))
    (mSeq (mAsg (mLst (aCons (mOp gIsN (mCall f_storm (aCons (mVar 2) (aCons (mOp gIx (mVar 6) (mC (.int 0))) aNil))) (mC .non)) (aCons (mOp gIsN (mCall f_storm (aCons (mVar 3) (aCons (mOp gIx (mVar 6) (mC (.int 1))) aNil))) (mC .non)) (aCons (mOp gIsN (mCall f_storm (aCons (mVar 4) (aCons (mOp gIx (mVar 6) (mC (.int 2))) aNil))) (mC .non)) (aCons (mOp gIsN (mCall f_storm (aCons (mVar 5) (aCons (mOp gIx (mVar 6) (mC (.int 3))) aNil))) (mC .non)) aNil))))) (gmName 8))
    (mSeq (mIfS (mOr (mTest (mOp gNe (mVar 8) (mLst (aCons (mC (.bl true)) (aCons (mC (.bl true)) (aCons (mC (.bl false)) (aCons (mC (.bl true)) aNil))))))) (mOr (mTest (mOp gNe (mCall f_stable_of (aCons (mVar 4) aNil)) (mLst aNil))) (mOr (mTest (mOp gNe (mCB gLen (aCons (mCall f_stable_of (aCons (mVar 5) aNil)) aNil)) (mC (.int 1)))) (mTest (mOp gIsN (mCall f_wheel (aCons (mVar 5) aNil)) (mC .non)))))) (mRet (mC (.bl false))) mNx)
    (mSeq (mIfS (mTest (mOp gNe (mOp gIx (mCall f_states_from (aCons (mVar 2) (aCons (mOp gIx (mVar 6) (mC (.int 0))) aNil))) (mC (.int 1))) (mLst (aCons (mTup (aCons (mTup (aCons (mC (.int 1)) (aCons (mC (.int 0)) aNil))) (aCons (mTup (aCons (mC (.int 2)) (aCons (mC (.int 1)) (aCons (mC (.int 0)) aNil)))) aNil))) (aCons (mTup (aCons (mTup (aCons (mC (.int 1)) (aCons (mC (.int 2)) (aCons (mC (.int 0)) aNil)))) (aCons (mTup (aCons (mC (.int 2)) (aCons (mC (.int 0)) aNil))) aNil))) aNil))))) (mRet (mC (.bl false))) mNx)
    (mSeq (mAsg (mCallO f_law_pick 1 0 (aOwn 1 (aCons (mLst (aCons (mTup (aCons (mTup (aCons (mC (.int 1)) (aCons (mC (.int 2)) (aCons (mC (.int 0)) aNil)))) (aCons (mTup (aCons (mC (.int 2)) (aCons (mC (.int 0)) aNil))) aNil))) (aCons (mTup (aCons (mTup (aCons (mC (.int 1)) (aCons (mC (.int 0)) aNil))) (aCons (mTup (aCons (mC (.int 2)) (aCons (mC (.int 1)) (aCons (mC (.int 0)) aNil)))) aNil))) aNil))) aNil))) (gmName 9))
    (mRet (mAndV (mOp gEq (mCall f_states_from (aCons (mVar 2) (aCons (mVar 9) aNil))) (mTup (aCons (mC (.int 1)) (aCons (mLst (aCons (mVar 9) aNil)) aNil)))) (mOp gIsN (mCall f_storm (aCons (mVar 2) (aCons (mVar 9) aNil))) (mC .non))))))))))))))
def f_law : Fn := runF 1 10 b_law
end Fx.K44
/-! the defs of routeweb_k44_storms_known keep their denotations -/
namespace Fx.K44
open PySem PySem.Spec PyProof.Rows L2
open C8 (Cal Mak pe_c pe_mk)
open LamX (Tabs TabS TabB ExtN CodeO codeO_ne)
theorem sc_is_number : FnScope n_is_number ["value", "low", "high"] (defScope s_is_number) := ⟨rfl, rfl, rfl, by decide +kernel, rfl, by decide +kernel, by decide +kernel⟩
theorem sc_is_tuple : FnScope n_is_tuple ["value", "least", "most"] (defScope s_is_tuple) := ⟨rfl, rfl, rfl, by decide +kernel, rfl, by decide +kernel, by decide +kernel⟩
theorem sc_are_numbers : FnScope n_are_numbers ["value", "low", "high"] (defScope s_are_numbers) := ⟨rfl, rfl, rfl, by decide +kernel, rfl, by decide +kernel, by decide +kernel⟩
theorem sc_are_unlike : FnScope n_are_unlike ["values"] (defScope s_are_unlike) := ⟨rfl, rfl, rfl, by decide +kernel, rfl, by decide +kernel, by decide +kernel⟩
theorem sc_may_stay : FnScope n_may_stay ["places", "roots", "fixed"] (defScope s_may_stay) := ⟨rfl, rfl, rfl, by decide +kernel, rfl, by decide +kernel, by decide +kernel⟩
theorem sc_with_path : FnScope n_with_path ["places", "fixed", "path"] (defScope s_with_path) := ⟨rfl, rfl, rfl, by decide +kernel, rfl, by decide +kernel, by decide +kernel⟩
theorem sc_widened : FnScope n_widened ["places", "fixed", "node"] (defScope s_widened) := ⟨rfl, rfl, rfl, by decide +kernel, rfl, by decide +kernel, by decide +kernel⟩
theorem sc_stable_among : FnScope n_stable_among ["lists", "roots"] (defScope s_stable_among) := ⟨rfl, rfl, rfl, by decide +kernel, rfl, by decide +kernel, by decide +kernel⟩
theorem sc_left_last : FnScope n_left_last ["heads"] (defScope s_left_last) := ⟨rfl, rfl, rfl, by decide +kernel, rfl, by decide +kernel, by decide +kernel⟩
theorem sc_unseen_from : FnScope n_unseen_from ["heads", "root", "seen"] (defScope s_unseen_from) := ⟨rfl, rfl, rfl, by decide +kernel, rfl, by decide +kernel, by decide +kernel⟩
theorem sc_knots_among : FnScope n_knots_among ["heads"] (defScope s_knots_among) := ⟨rfl, rfl, rfl, by decide +kernel, rfl, by decide +kernel, by decide +kernel⟩
theorem sc_is_path : FnScope n_is_path ["many", "node", "value"] (defScope s_is_path) := ⟨rfl, rfl, rfl, by decide +kernel, rfl, by decide +kernel, by decide +kernel⟩
theorem sc_check_choices : FnScope n_check_choices ["choices"] (defScope s_check_choices) := ⟨rfl, rfl, rfl, by decide +kernel, rfl, by decide +kernel, by decide +kernel⟩
theorem sc_is_listed : FnScope n_is_listed ["choices", "node", "value"] (defScope s_is_listed) := ⟨rfl, rfl, rfl, by decide +kernel, rfl, by decide +kernel, by decide +kernel⟩
theorem sc_check_state : FnScope n_check_state ["choices", "state"] (defScope s_check_state) := ⟨rfl, rfl, rfl, by decide +kernel, rfl, by decide +kernel, by decide +kernel⟩
theorem sc_taken_in : FnScope n_taken_in ["choices", "node", "state"] (defScope s_taken_in) := ⟨rfl, rfl, rfl, by decide +kernel, rfl, by decide +kernel, by decide +kernel⟩
theorem sc_stable_of : FnScope n_stable_of ["choices"] (defScope s_stable_of) := ⟨rfl, rfl, rfl, by decide +kernel, rfl, by decide +kernel, by decide +kernel⟩
theorem sc_pairs : FnScope n_pairs ["choices"] (defScope s_pairs) := ⟨rfl, rfl, rfl, by decide +kernel, rfl, by decide +kernel, by decide +kernel⟩
theorem sc_disputes : FnScope n_disputes ["choices", "node", "path"] (defScope s_disputes) := ⟨rfl, rfl, rfl, by decide +kernel, rfl, by decide +kernel, by decide +kernel⟩
theorem sc_numbered : FnScope n_numbered ["choices"] (defScope s_numbered) := ⟨rfl, rfl, rfl, by decide +kernel, rfl, by decide +kernel, by decide +kernel⟩
theorem sc_wheel : FnScope n_wheel ["choices"] (defScope s_wheel) := ⟨rfl, rfl, rfl, by decide +kernel, rfl, by decide +kernel, by decide +kernel⟩
theorem sc_after : FnScope n_after ["choices", "state", "node"] (defScope s_after) := ⟨rfl, rfl, rfl, by decide +kernel, rfl, by decide +kernel, by decide +kernel⟩
theorem sc_moves_from : FnScope n_moves_from ["choices", "state"] (defScope s_moves_from) := ⟨rfl, rfl, rfl, by decide +kernel, rfl, by decide +kernel, by decide +kernel⟩
theorem sc_rank_of : FnScope n_rank_of ["state"] (defScope s_rank_of) := ⟨rfl, rfl, rfl, by decide +kernel, rfl, by decide +kernel, by decide +kernel⟩
theorem sc_states_from : FnScope n_states_from ["choices", "state"] (defScope s_states_from) := ⟨rfl, rfl, rfl, by decide +kernel, rfl, by decide +kernel, by decide +kernel⟩
theorem sc_way : FnScope n_way ["moves", "begin", "goals"] (defScope s_way) := ⟨rfl, rfl, rfl, by decide +kernel, rfl, by decide +kernel, by decide +kernel⟩
theorem sc_round_trip : FnScope n_round_trip ["moves", "begin", "places"] (defScope s_round_trip) := ⟨rfl, rfl, rfl, by decide +kernel, rfl, by decide +kernel, by decide +kernel⟩
theorem sc_staying : FnScope n_staying ["moves", "knot", "node"] (defScope s_staying) := ⟨rfl, rfl, rfl, by decide +kernel, rfl, by decide +kernel, by decide +kernel⟩
theorem sc_storm : FnScope n_storm ["choices", "state"] (defScope s_storm) := ⟨rfl, rfl, rfl, by decide +kernel, rfl, by decide +kernel, by decide +kernel⟩
theorem sc_law_taken : FnScope n_law_taken ["row", "many"] (defScope s_law_taken) := ⟨rfl, rfl, rfl, by decide +kernel, rfl, by decide +kernel, by decide +kernel⟩
theorem sc_law_pick : FnScope n_law_pick ["row", "things"] (defScope s_law_pick) := ⟨rfl, rfl, rfl, by decide +kernel, rfl, by decide +kernel, by decide +kernel⟩
theorem sc_Choices_init : FnScope n_Choices_init ["self", "lists"] (defScope s_Choices_init) := ⟨rfl, rfl, rfl, by decide +kernel, rfl, by decide +kernel, by decide +kernel⟩
theorem sc_law : FnScope n_law ["script"] (defScope s_law) := ⟨rfl, rfl, rfl, by decide +kernel, rfl, by decide +kernel, by decide +kernel⟩
/-- what the text tells -/
structure Tx (P : Program) (w : World) (c : Cfg) (mg : Str → Option Value) (base : Heap) : Prop where
  b_all : mg "all" = none
  b_bool : mg "bool" = none
  b_dict : mg "dict" = none
  b_enumerate : mg "enumerate" = none
  b_int : mg "int" = none
  b_isinstance : mg "isinstance" = none
  b_len : mg "len" = none
  b_list : mg "list" = none
  b_min : mg "min" = none
  b_range : mg "range" = none
  b_reversed : mg "reversed" = none
  b_set : mg "set" = none
  b_sorted : mg "sorted" = none
  b_tuple : mg "tuple" = none
  w_ : w = c.w
  c_MOST_LISTS : ∃ t, mg "MOST_LISTS" = some (Value.int 7 t)
  c_MOST_PATHS : ∃ t, mg "MOST_PATHS" = some (Value.int 10 t)
  c_MOST_STATES : ∃ t, mg "MOST_STATES" = some (Value.int 2000 t)
  f_Choices_lists : FldOk c "Choices" "_lists" 0
  l_Choices : (c.flds "Choices").length ≤ 100
  n_Choices : (c.flds "Choices").length = 1
  i_Choices : ClsOk c "Choices"
  g_Choices : mg "Choices" = some (.ref (c.cls "Choices"))
  p_Choices_lists : Prp P w c mg base 1 "Choices" "lists" "_lists" 0
section
variable {P : Program} {w : World} {c : Cfg} {mg : Str → Option Value} {base : Heap}
theorem ok_is_number {f : Addr} {fd : FuncData} (T : Tx P w c mg base) (F : Fun c.K "is_number" "is_number" s_is_number f fd)  : FnOk P w c.K mg base L2.CX0 1 f fd ["value", "low", "high"] (spF c f_is_number) := by
  exact fn_den (k := 0) (N := n_is_number) (ps := ["value", "low", "high"]) (body := b_is_number) F sc_is_number fun cdv A outer s H E hr => QSs.out (by exact (ss_one (s_ret (q_and (q_blt b_isi T.b_isinstance (a_cons (qv 0) (a_cons (qty T.b_int) a_nil))) (q_and (q_not (q_blt b_isi T.b_isinstance (a_cons (qv 0) (a_cons (qty T.b_bool) a_nil)))) (q_one (q_chain (r_le) (r_le) (qv 1) (qv 0) (qv 2))))))))
theorem ok_is_tuple {f : Addr} {fd : FuncData} (T : Tx P w c mg base) (F : Fun c.K "is_tuple" "is_tuple" s_is_tuple f fd)  : FnOk P w c.K mg base L2.CX0 1 f fd ["value", "least", "most"] (spF c f_is_tuple) := by
  exact fn_den (k := 0) (N := n_is_tuple) (ps := ["value", "least", "most"]) (body := b_is_tuple) F sc_is_tuple fun cdv A outer s H E hr => QSs.out (by exact (ss_one (s_ret (q_and (q_blt b_isi T.b_isinstance (a_cons (qv 0) (a_cons (qty T.b_tuple) a_nil))) (q_one (q_chain (r_le) (r_le) (qv 1) (q_blt b_len T.b_len (a_cons (qv 0) a_nil)) (qv 2)))))))
theorem ok_are_numbers {f : Addr} {fd : FuncData} (T : Tx P w c mg base) (F : Fun c.K "are_numbers" "are_numbers" s_are_numbers f fd) (C_is_number : Cal P w c.K mg base 1 "is_number" (spF c f_is_number) []) : FnOk P w c.K mg base L2.CX0 2 f fd ["value", "low", "high"] (spF c f_are_numbers) := by
  exact fn_den (k := 1) (N := n_are_numbers) (ps := ["value", "low", "high"]) (body := b_are_numbers) F sc_are_numbers fun cdv A outer s H E hr => QSs.out (by exact (ss_one (s_ret (q_and (q_blt b_isi T.b_isinstance (a_cons (qv 0) (a_cons (qty T.b_tuple) a_nil))) (q_one (q_blt b_all T.b_all (a_cons (q_lc (own := [("item", 3)]) sc_are_numbers.nd (i_seq (qv 0)) (blkOk_by (own := [("item", 3)]) (N := n_are_numbers) (sc := defScope s_are_numbers) (by decide +kernel)) (fun _ _ _ _ _ => (by exact (g_name 3 sc_are_numbers.nd))) (fun _ _ _ _ _ => (by exact ts_nil)) (fun _ _ _ _ _ => (by exact (q_call C_is_number hr (by omega) (a_cons (qv 3) (a_cons (qv 1) (a_cons (qv 2) a_nil))))))) a_nil)))))))
theorem ok_are_unlike {f : Addr} {fd : FuncData} (T : Tx P w c mg base) (F : Fun c.K "are_unlike" "are_unlike" s_are_unlike f fd)  : FnOk P w c.K mg base L2.CX0 1 f fd ["values"] (spF c f_are_unlike) := by
  exact fn_den (k := 0) (N := n_are_unlike) (ps := ["values"]) (body := b_are_unlike) F sc_are_unlike fun cdv A outer s H E hr => QSs.out (by exact (ss_one (s_ret (q_cmp (r_eq hr) (q_setL T.b_len T.b_set (qv 0)) (q_blt b_len T.b_len (a_cons (qv 0) a_nil))))))
theorem ok_may_stay {f : Addr} {fd : FuncData} (T : Tx P w c mg base) (F : Fun c.K "_may_stay" "_may_stay" s_may_stay f fd)  : FnOk P w c.K mg base L2.CX0 1 f fd ["places", "roots", "fixed"] (spF c f_may_stay) := by
  exact fn_den (k := 0) (N := n_may_stay) (ps := ["places", "roots", "fixed"]) (body := b_may_stay) F sc_may_stay fun cdv A outer s H E hr => QSs.out (by exact (ss_cons (s_set 3 sc_may_stay.nd (q_add (q_lc (own := [("root", 4)]) sc_may_stay.nd (i_seq (qv 1)) (blkOk_by (own := [("root", 4)]) (N := n_may_stay) (sc := defScope s_may_stay) (by decide +kernel)) (fun _ _ _ _ _ => (by exact (g_name 4 sc_may_stay.nd))) (fun _ _ _ _ _ => (by exact ts_nil)) (fun _ _ _ _ _ => (by exact (q_tup (a_cons (qv 4) a_nil))))) (q_lc (own := [("path", 5)]) sc_may_stay.nd (i_seq (q_listVals T.w_ T.b_list (qv 2))) (blkOk_by (own := [("path", 5)]) (N := n_may_stay) (sc := defScope s_may_stay) (by decide +kernel)) (fun _ _ _ _ _ => (by exact (g_name 5 sc_may_stay.nd))) (fun _ _ _ _ _ => (by exact (ts_one (t_cmp (r_nis) (qv 5) (qnon))))) (fun _ _ _ _ _ => (by exact (qv 5))))))
      (ss_cons (s_for PassesOwn.never (i_keysD T.w_ (qv 2)) (g_name 6 sc_may_stay.nd) (ss_cons (s_set 7 sc_may_stay.nd (q_dget hr T.w_ (qv 0) (qv 6)))
      (ss_cons (s_set 8 sc_may_stay.nd (q_if (t_cmp (r_is) (q_dget hr T.w_ (qv 2) (qv 6)) (qnon)) (q_lenD 7 T.w_ T.b_len) (q_dget hr T.w_ (qv 7) (q_dget hr T.w_ (qv 2) (qv 6)))))
      (ss_cons (s_setLc (own := [("path", 5)]) 9 sc_may_stay.nd (i_seq (qv 3)) (blkOk_by (own := [("path", 5)]) (N := n_may_stay) (sc := defScope s_may_stay) (by decide +kernel)) (fun _ _ _ _ _ => (by exact (g_name 5 sc_may_stay.nd))) (fun _ _ _ _ _ => (by exact ts_nil)) (fun _ _ _ _ _ => (by exact (q_tup (a_cons (qv 6) (a_star (qv 5) a_nil))))) (hw := sw_true rfl rfl rfl (by decide +kernel)))
      (ss_cons (s_setLc (own := [("path", 5)]) 10 sc_may_stay.nd (i_seq (qv 9)) (blkOk_by (own := [("path", 5)]) (N := n_may_stay) (sc := defScope s_may_stay) (by decide +kernel)) (fun _ _ _ _ _ => (by exact (g_name 5 sc_may_stay.nd))) (fun _ _ _ _ _ => (by exact (ts_one (t_inN 7 hr T.w_ (qv 5))))) (fun _ _ _ _ _ => (by exact (q_dget hr T.w_ (qv 7) (qv 5)))) (hw := sw_true rfl rfl rfl (by decide +kernel)))
      (ss_one (s_if (t_cmp (r_lt) (q_minK hr T.b_min (qv 10) (qv 8)) (qv 8)) (ss_one (s_ret (qbl))) ss_nil)))))))
      (ss_one (s_ret (qbl))))))
theorem ok_with_path {f : Addr} {fd : FuncData} (T : Tx P w c mg base) (F : Fun c.K "_with_path" "_with_path" s_with_path f fd)  : FnOk P w c.K mg base L2.CX0 1 f fd ["places", "fixed", "path"] (spF c f_with_path) := by
  exact fn_den (k := 0) (N := n_with_path) (ps := ["places", "fixed", "path"]) (body := b_with_path) F sc_with_path fun cdv A outer s H E hr => QSs.out (by exact (ss_cons (s_setO 3 sc_with_path.nd (q_blt (b_dictC T.w_) T.b_dict (a_cons (qv 1) a_nil)))
      (ss_cons (s_for PassesOwn.never (i_range1 T.b_range (a_cons (q_sub (q_blt b_len T.b_len (a_cons (qv 2) a_nil)) (qint)) a_nil)) (g_name 4 sc_with_path.nd) (ss_cons (s_set 5 sc_with_path.nd (q_sl (qv 2) (o_some (qv 4)) o_none))
      (ss_cons (s_if (QW.t (w_or (t_cmp (r_ninX hr T.w_) (qv 5) (q_dget hr T.w_ (qv 0) (q_ix (qv 5) (qint))) (by with_unfolding_all rfl)) (w_or1 (t_cmp (r_ne hr) (q_get2N 3 hr T.w_ (q_ix (qv 5) (qint)) (qv 5)) (qv 5))))) (ss_one (s_ret (qnon))) ss_nil)
      (ss_one (s_asg (qv 5) (g_itemD 3 hr T.w_ (q_ix (qv 5) (qint))))))))
      (ss_one (s_retO 3)))))
theorem ok_widened {f : Addr} {fd : FuncData} (T : Tx P w c mg base) (F : Fun c.K "_widened" "_widened" s_widened f fd) (C_with_path : Cal P w c.K mg base 1 "_with_path" (spF c f_with_path) []) : FnOk P w c.K mg base L2.CX0 2 f fd ["places", "fixed", "node"] (spF c f_widened) := by
  exact fn_den (k := 1) (N := n_widened) (ps := ["places", "fixed", "node"]) (body := b_widened) F sc_widened fun cdv A outer s H E hr => QSs.out (by exact (ss_cons (s_setLc (own := [("path", 4)]) 3 sc_widened.nd (i_keysD T.w_ (q_dget hr T.w_ (qv 0) (qv 2))) (blkOk_by (own := [("path", 4)]) (N := n_widened) (sc := defScope s_widened) (by decide +kernel)) (fun _ _ _ _ _ => (by exact (g_name 4 sc_widened.nd))) (fun _ _ _ _ _ => (by exact ts_nil)) (fun _ _ _ _ _ => (by exact (q_call C_with_path hr (by omega) (a_cons (qv 0) (a_cons (qv 1) (a_cons (qv 4) a_nil)))))) (hw := sw_true rfl rfl rfl (by decide +kernel)))
      (ss_one (s_ret (q_add (q_lc (own := [("after", 5)]) sc_widened.nd (i_seq (qv 3)) (blkOk_by (own := [("after", 5)]) (N := n_widened) (sc := defScope s_widened) (by decide +kernel)) (fun _ _ _ _ _ => (by exact (g_name 5 sc_widened.nd))) (fun _ _ _ _ _ => (by exact (ts_one (t_cmp (r_nis) (qv 5) (qnon))))) (fun _ _ _ _ _ => (by exact (qv 5)))) (q_lst (a_cons (q_disp 1 2 T.w_) a_nil)))))))
theorem ok_stable_among {f : Addr} {fd : FuncData} (T : Tx P w c mg base) (F : Fun c.K "stable_among" "stable_among" s_stable_among f fd) (C_may_stay : Cal P w c.K mg base 1 "_may_stay" (spF c f_may_stay) []) (C_widened : Cal P w c.K mg base 2 "_widened" (spF c f_widened) []) : FnOk P w c.K mg base L2.CX0 3 f fd ["lists", "roots"] (spF c f_stable_among) := by
  exact fn_den (k := 2) (N := n_stable_among) (ps := ["lists", "roots"]) (body := b_stable_among) F sc_stable_among fun cdv A outer s H E hr => QSs.out (by exact (ss_cons (s_set 2 sc_stable_among.nd (q_dc hr T.w_ (own := [("node", 5)]) sc_stable_among.nd (i_keysD T.w_ (qv 0)) (blkOk_by (own := [("node", 5)]) (N := n_stable_among) (sc := defScope s_stable_among) (by decide +kernel)) (fun _ _ _ _ _ => (by exact (g_name 5 sc_stable_among.nd))) (fun _ _ _ _ _ => (by exact ts_nil)) (fun _ _ _ _ _ => (by exact (qv 5))) (fun _ _ _ _ _ => (by exact (q_dc hr T.w_ (own := [("place", 3), ("path", 4)]) sc_stable_among.nd (i_enum T.b_enumerate (a_cons (q_dget hr T.w_ (qv 0) (qv 5)) a_nil)) (blkOk_by (own := [("place", 3), ("path", 4)]) (N := n_stable_among) (by first | kernel_rfl | rfl | with_unfolding_all rfl)) (fun _ _ _ _ _ => (by exact (g_tup 2 (gs_cons (g_name 3 sc_stable_among.nd) (gs_cons (g_name 4 sc_stable_among.nd) gs_nil))))) (fun _ _ _ _ _ => (by exact ts_nil)) (fun _ _ _ _ _ => (by exact (qv 4))) (fun _ _ _ _ _ => (by exact (qv 3))))))))
      (ss_cons (s_setO 6 sc_stable_among.nd (q_lst a_nil))
      (ss_cons (s_setO 7 sc_stable_among.nd (q_lst (a_cons (q_dnew T.w_) a_nil)))
      (ss_cons (s_while 1000 PassesOwn.never (t_truO 7) (ss_cons (s_set 8 sc_stable_among.nd (q_pop 7))
      (ss_cons (s_setLc (own := [("node", 5)]) 9 sc_stable_among.nd (i_keysD T.w_ (qv 0)) (blkOk_by (own := [("node", 5)]) (N := n_stable_among) (sc := defScope s_stable_among) (by decide +kernel)) (fun _ _ _ _ _ => (by exact (g_name 5 sc_stable_among.nd))) (fun _ _ _ _ _ => (by exact (ts_one (t_ninN 8 hr T.w_ (qv 5))))) (fun _ _ _ _ _ => (by exact (qv 5))) (hw := sw_true rfl rfl rfl (by decide +kernel)))
      (ss_one (s_if (t_tru (qv 9)) (ss_cons (s_set 10 sc_stable_among.nd (q_call C_widened hr (by omega) (a_cons (qv 2) (a_cons (qv 8) (a_cons (q_ix (qv 9) (qint)) a_nil)))))
      (ss_one (s_expr (q_extend 7 (q_lc (own := [("after", 11)]) sc_stable_among.nd (i_seq (q_revL (qv 10))) (blkOk_by (own := [("after", 11)]) (N := n_stable_among) (sc := defScope s_stable_among) (by decide +kernel)) (fun _ _ _ _ _ => (by exact (g_name 11 sc_stable_among.nd))) (fun _ _ _ _ _ => (by exact (ts_one (t_tru (q_call C_may_stay hr (by omega) (a_cons (qv 2) (a_cons (qv 1) (a_cons (qv 11) a_nil)))))))) (fun _ _ _ _ _ => (by exact (qv 11)))))))) (ss_one (s_expr (q_append 6 (q_blt b_tuple T.b_tuple (a_cons (q_lc (own := [("node", 5)]) sc_stable_among.nd (i_keysD T.w_ (qv 0)) (blkOk_by (own := [("node", 5)]) (N := n_stable_among) (sc := defScope s_stable_among) (by decide +kernel)) (fun _ _ _ _ _ => (by exact (g_name 5 sc_stable_among.nd))) (fun _ _ _ _ _ => (by exact ts_nil)) (fun _ _ _ _ _ => (by exact (q_dget hr T.w_ (qv 8) (qv 5))))) a_nil))))))))))
      (ss_one (s_retO 6)))))))
theorem ok_left_last {f : Addr} {fd : FuncData} (T : Tx P w c mg base) (F : Fun c.K "_left_last" "_left_last" s_left_last f fd)  : FnOk P w c.K mg base L2.CX0 1 f fd ["heads"] (spF c f_left_last) := by
  exact fn_den (k := 0) (N := n_left_last) (ps := ["heads"]) (body := b_left_last) F sc_left_last fun cdv A outer s H E hr => QSs.out (by exact (ss_cons (s_setO 1 sc_left_last.nd (q_lst a_nil))
      (ss_cons (s_setO 2 sc_left_last.nd (q_dnew T.w_))
      (ss_cons (s_setLcO (own := [("node", 4)]) 3 sc_left_last.nd (i_keysD T.w_ (qv 0)) (blkOk_by (own := [("node", 4)]) (N := n_left_last) (sc := defScope s_left_last) (by decide +kernel)) (fun _ _ _ _ _ => (by exact (g_name 4 sc_left_last.nd))) (fun _ _ _ _ _ => (by exact ts_nil)) (fun _ _ _ _ _ => (by exact (q_tup (a_cons (qv 4) (a_cons (qbl) a_nil))))) (hw := sw_true rfl rfl rfl (by decide +kernel)))
      (ss_cons (s_while 1000 PassesOwn.never (t_truO 3) (ss_cons (s_asg (q_pop 3) (g_tup 2 (gs_cons (g_name 4 sc_left_last.nd) (gs_cons (g_name 5 sc_left_last.nd) gs_nil))))
      (ss_one (s_if (t_tru (qv 5)) (ss_one (s_expr (q_append 1 (qv 4)))) (ss_one (s_if (t_ninN 2 hr T.w_ (qv 4)) (ss_cons (s_asg (qbl) (g_itemD 2 hr T.w_ (qv 4)))
      (ss_cons (s_expr (q_append 3 (q_tup (a_cons (qv 4) (a_cons (qbl) a_nil)))))
      (ss_one (s_expr (q_extend 3 (q_lc (own := [("head", 6)]) sc_left_last.nd (i_seq (q_dget hr T.w_ (qv 0) (qv 4))) (blkOk_by (own := [("head", 6)]) (N := n_left_last) (sc := defScope s_left_last) (by decide +kernel)) (fun _ _ _ _ _ => (by exact (g_name 6 sc_left_last.nd))) (fun _ _ _ _ _ => (by exact ts_nil)) (fun _ _ _ _ _ => (by exact (q_tup (a_cons (qv 6) (a_cons (qbl) a_nil))))))))))) ss_nil))))))
      (ss_one (s_retO 1)))))))
theorem ok_unseen_from {f : Addr} {fd : FuncData} (T : Tx P w c mg base) (F : Fun c.K "_unseen_from" "_unseen_from" s_unseen_from f fd)  : FnOk P w c.K mg base L2.CX0 1 f fd ["heads", "root", "seen"] (spF c f_unseen_from) := by
  exact fn_den (k := 0) (N := n_unseen_from) (ps := ["heads", "root", "seen"]) (body := b_unseen_from) F sc_unseen_from fun cdv A outer s H E hr => QSs.out (by exact (ss_cons (s_setO 3 sc_unseen_from.nd (q_lst a_nil))
      (ss_cons (s_setO 4 sc_unseen_from.nd (q_lst (a_cons (qv 1) a_nil)))
      (ss_cons (s_while 1000 PassesOwn.never (t_truO 4) (ss_cons (s_set 5 sc_unseen_from.nd (q_pop 4))
      (ss_one (s_if (t_ninN 2 hr T.w_ (qv 5)) (ss_cons (s_asg (qbl) (g_itemD 2 hr T.w_ (qv 5)))
      (ss_cons (s_expr (q_append 3 (qv 5)))
      (ss_one (s_expr (q_extend 4 (q_dget hr T.w_ (qv 0) (qv 5))))))) ss_nil))))
      (ss_one (s_retO 3))))))
theorem ok_knots_among {f : Addr} {fd : FuncData} (T : Tx P w c mg base) (F : Fun c.K "knots_among" "knots_among" s_knots_among f fd) (C_left_last : Cal P w c.K mg base 1 "_left_last" (spF c f_left_last) []) (C_unseen_from : Cal P w c.K mg base 1 "_unseen_from" (spF c f_unseen_from) []) : FnOk P w c.K mg base L2.CX0 2 f fd ["heads"] (spF c f_knots_among) := by
  exact fn_den (k := 1) (N := n_knots_among) (ps := ["heads"]) (body := b_knots_among) F sc_knots_among fun cdv A outer s H E hr => QSs.out (by exact (ss_cons (s_setDcX 1 hr T.w_ (own := [("node", 2)]) sc_knots_among.nd (i_keysD T.w_ (qv 0)) (blkOk_by (own := [("node", 2)]) (N := n_knots_among) (sc := defScope s_knots_among) (by decide +kernel)) (fun _ _ _ _ _ => (by exact (g_name 2 sc_knots_among.nd))) (fun _ _ _ _ _ => (by exact ts_nil)) (fun _ _ _ _ _ => (by exact (qv 2))) (fun _ _ _ _ _ => (by exact (q_lst a_nil))) (hsw := swD rfl rfl rfl (by decide +kernel)))
      (ss_cons (s_for PassesOwn.never (i_keysD T.w_ (qv 0)) (g_name 2 sc_knots_among.nd) (ss_one (s_for PassesOwn.never (i_seq (q_dget hr T.w_ (qv 0) (qv 2))) (g_name 3 sc_knots_among.nd) (ss_one (s_expr (q_appendX 1 2 hr T.w_ (qv 3)))))))
      (ss_cons (s_setO 4 sc_knots_among.nd (q_lst a_nil))
      (ss_cons (s_setO 5 sc_knots_among.nd (q_dnew T.w_))
      (ss_cons (s_for PassesOwn.never (i_rev T.b_reversed (a_cons (q_call C_left_last hr (by omega) (a_cons (qv 0) a_nil)) a_nil)) (g_name 6 sc_knots_among.nd) (ss_one (s_if (t_ninN 5 hr T.w_ (qv 6)) (ss_one (s_expr (q_append 4 (q_callO C_unseen_from hr (by omega) (c_cons (qvX 1) (c_cons (qv 6) (c_own 5 a_nil))))))) ss_nil)))
      (ss_one (s_retO 4))))))))
theorem ok_is_path {f : Addr} {fd : FuncData} (T : Tx P w c mg base) (F : Fun c.K "is_path" "is_path" s_is_path f fd) (C_are_numbers : Cal P w c.K mg base 2 "are_numbers" (spF c f_are_numbers) []) (C_are_unlike : Cal P w c.K mg base 1 "are_unlike" (spF c f_are_unlike) []) : FnOk P w c.K mg base L2.CX0 3 f fd ["many", "node", "value"] (spF c f_is_path) := by
  exact fn_den (k := 2) (N := n_is_path) (ps := ["many", "node", "value"]) (body := b_is_path) F sc_is_path fun cdv A outer s H E hr => QSs.out (by exact (ss_cons (s_if (QW.t (w_or (t_not (t_val (q_call C_are_numbers hr (by omega) (a_cons (qv 2) (a_cons (qint) (a_cons (qv 0) a_nil)))))) (w_or1 (t_cmp (r_lt) (q_blt b_len T.b_len (a_cons (qv 2) a_nil)) (qint))))) (ss_one (s_ret (qbl))) ss_nil)
      (ss_one (s_ret (q_and (q_cmp (r_eq hr) (q_ix (qv 2) (qint)) (qv 1)) (q_and (q_cmp (r_eq hr) (q_ix (qv 2) (q_neg (qint))) (qint)) (q_one (q_call C_are_unlike hr (by omega) (a_cons (qv 2) a_nil)))))))))
theorem ok_check_choices {f : Addr} {fd : FuncData} (T : Tx P w c mg base) (F : Fun c.K "check_choices" "check_choices" s_check_choices f fd)  : FnOk P w c.K mg base L2.CX0 1 f fd ["choices"] (spF c f_check_choices) := by
  exact fn_den (k := 0) (N := n_check_choices) (ps := ["choices"]) (body := b_check_choices) F sc_check_choices fun cdv A outer s H E hr => QSs.out (by exact (ss_one (s_if (t_not (t_val (q_isC "Choices" T.i_Choices T.g_Choices T.b_isinstance (qv 0)))) ss_never ss_nil)))
theorem ok_is_listed {f : Addr} {fd : FuncData} (T : Tx P w c mg base) (F : Fun c.K "_is_listed" "_is_listed" s_is_listed f fd) (C_are_numbers : Cal P w c.K mg base 2 "are_numbers" (spF c f_are_numbers) []) : FnOk P w c.K mg base L2.CX0 3 f fd ["choices", "node", "value"] (spF c f_is_listed) := by
  exact fn_den (k := 2) (N := n_is_listed) (ps := ["choices", "node", "value"]) (body := b_is_listed) F sc_is_listed fun cdv A outer s H E hr => QSs.out (by exact (ss_one (s_ret (q_and (q_call C_are_numbers hr (by omega) (a_cons (qv 2) (a_cons (qint) (a_cons (q_blt b_len T.b_len (a_cons (q_pr T.p_Choices_lists hr (by omega) (qv 0)) a_nil)) a_nil)))) (q_one (q_cmp (r_in hr) (qv 2) (q_ix (q_pr T.p_Choices_lists hr (by omega) (qv 0)) (q_sub (qv 1) (qint))) (by with_unfolding_all rfl)))))))
theorem ok_check_state {f : Addr} {fd : FuncData} (T : Tx P w c mg base) (F : Fun c.K "check_state" "check_state" s_check_state f fd) (C_is_tuple : Cal P w c.K mg base 1 "is_tuple" (spF c f_is_tuple) []) (C_is_listed : Cal P w c.K mg base 3 "_is_listed" (spF c f_is_listed) []) : FnOk P w c.K mg base L2.CX0 4 f fd ["choices", "state"] (spF c f_check_state) := by
  exact fn_den (k := 3) (N := n_check_state) (ps := ["choices", "state"]) (body := b_check_state) F sc_check_state fun cdv A outer s H E hr => QSs.out (by exact (ss_cons (s_if (t_not (t_val (q_call C_is_tuple hr (by omega) (a_cons (qv 1) (a_cons (q_blt b_len T.b_len (a_cons (q_pr T.p_Choices_lists hr (by omega) (qv 0)) a_nil)) (a_cons (q_blt b_len T.b_len (a_cons (q_pr T.p_Choices_lists hr (by omega) (qv 0)) a_nil)) a_nil)))))) ss_never ss_nil)
      (ss_one (s_for PassesOwn.never (i_enum T.b_enumerate (a_cons (qv 1) a_nil)) (g_tup 2 (gs_cons (g_name 2 sc_check_state.nd) (gs_cons (g_name 3 sc_check_state.nd) gs_nil))) (ss_one (s_if (QW.t (w_and (t_cmp (r_nis) (qv 3) (qnon)) (w_and1 (t_not (t_val (q_call C_is_listed hr (by omega) (a_cons (qv 0) (a_cons (q_add (qv 2) (qint)) (a_cons (qv 3) a_nil))))))))) ss_never ss_nil))))))
theorem ok_taken_in {f : Addr} {fd : FuncData} (T : Tx P w c mg base) (F : Fun c.K "taken_in" "taken_in" s_taken_in f fd)  : FnOk P w c.K mg base L2.CX0 3 f fd ["choices", "node", "state"] (spF c f_taken_in) := by
  exact fn_den (k := 2) (N := n_taken_in) (ps := ["choices", "node", "state"]) (body := b_taken_in) F sc_taken_in fun cdv A outer s H E hr => QSs.out (by exact (ss_cons (s_for PassesOwn.never (i_seq (q_ix (q_pr T.p_Choices_lists hr (by omega) (qv 0)) (q_sub (qv 1) (qint)))) (g_name 3 sc_taken_in.nd) (ss_one (s_if (QW.t (w_or (t_cmp (r_eq hr) (q_ix (qv 3) (qint)) (qint)) (w_or1 (t_cmp (r_eq hr) (q_ix (qv 2) (q_sub (q_ix (qv 3) (qint)) (qint))) (q_sl (qv 3) (o_some (qint)) o_none))))) (ss_one (s_ret (qv 3))) ss_nil)))
      (ss_one (s_ret (qnon)))))
theorem ok_stable_of {f : Addr} {fd : FuncData} (T : Tx P w c mg base) (F : Fun c.K "stable_of" "stable_of" s_stable_of f fd) (C_stable_among : Cal P w c.K mg base 3 "stable_among" (spF c f_stable_among) []) (C_check_choices : Cal P w c.K mg base 1 "check_choices" (spF c f_check_choices) []) : FnOk P w c.K mg base L2.CX0 4 f fd ["choices"] (spF c f_stable_of) := by
  exact fn_den (k := 3) (N := n_stable_of) (ps := ["choices"]) (body := b_stable_of) F sc_stable_of fun cdv A outer s H E hr => QSs.out (by exact (ss_cons (s_expr (q_call C_check_choices hr (by omega) (a_cons (qv 0) a_nil)))
      (ss_one (s_ret (q_call C_stable_among hr (by omega) (a_cons (q_dc hr T.w_ (own := [("node", 1), ("paths", 2)]) sc_stable_of.nd (i_enumS (k := 1) T.b_enumerate (a_cons (q_pr T.p_Choices_lists hr (by omega) (qv 0)) a_nil)) (blkOk_by (own := [("node", 1), ("paths", 2)]) (N := n_stable_of) (sc := defScope s_stable_of) (by decide +kernel)) (fun _ _ _ _ _ => (by exact (g_tup 2 (gs_cons (g_name 1 sc_stable_of.nd) (gs_cons (g_name 2 sc_stable_of.nd) gs_nil))))) (fun _ _ _ _ _ => (by exact ts_nil)) (fun _ _ _ _ _ => (by exact (qv 1))) (fun _ _ _ _ _ => (by exact (qv 2)))) (a_cons (q_tup (a_cons (qint) a_nil)) a_nil)))))))
theorem ok_pairs {f : Addr} {fd : FuncData} (T : Tx P w c mg base) (F : Fun c.K "_pairs" "_pairs" s_pairs f fd)  : FnOk P w c.K mg base L2.CX0 3 f fd ["choices"] (spF c f_pairs) := by
  exact fn_den (k := 2) (N := n_pairs) (ps := ["choices"]) (body := b_pairs) F sc_pairs fun cdv A outer s H E hr => QSs.out (by exact (ss_one (s_ret (q_lc2 (own := [("node", 1), ("paths", 2), ("path", 3)]) (vs1 := [3]) sc_pairs.nd (i_enumS (k := 1) T.b_enumerate (a_cons (q_pr T.p_Choices_lists hr (by omega) (qv 0)) a_nil)) (blkOk_by (own := [("node", 1), ("paths", 2), ("path", 3)]) (N := n_pairs) (sc := defScope s_pairs) (by decide +kernel)) (fun _ _ _ _ _ => (by exact (g_tup 2 (gs_cons (g_name 1 sc_pairs.nd) (gs_cons (g_name 2 sc_pairs.nd) gs_nil))))) (fun _ _ _ _ _ => (by exact ts_nil)) (fun _ _ _ _ _ => (by exact (i_seq (qv 2)))) (fun _ _ _ _ _ => (by exact (g_name 3 sc_pairs.nd))) (fun _ _ _ _ _ => (by exact ts_nil)) (fun _ _ _ _ _ => (by exact (q_tup (a_cons (qv 1) (a_cons (qv 3) a_nil)))))))))
theorem ok_disputes {f : Addr} {fd : FuncData} (T : Tx P w c mg base) (F : Fun c.K "_disputes" "_disputes" s_disputes f fd)  : FnOk P w c.K mg base L2.CX0 3 f fd ["choices", "node", "path"] (spF c f_disputes) := by
  exact fn_den (k := 2) (N := n_disputes) (ps := ["choices", "node", "path"]) (body := b_disputes) F sc_disputes fun cdv A outer s H E hr => QSs.out (by exact (ss_cons (s_set 3 sc_disputes.nd (q_ix (q_pr T.p_Choices_lists hr (by omega) (qv 0)) (q_sub (qv 1) (qint))))
      (ss_cons (s_setO 4 sc_disputes.nd (q_lst a_nil))
      (ss_cons (s_for PassesOwn.never (i_seq (q_sl (qv 3) o_none (o_some (q_add (q_idxT hr (qv 3) (qv 2)) (qint))))) (g_name 5 sc_disputes.nd) (ss_one (s_for PassesOwn.never (i_range2 T.b_range (a_cons (qint) (a_cons (q_sub (q_blt b_len T.b_len (a_cons (qv 5) a_nil)) (qint)) a_nil))) (g_name 6 sc_disputes.nd) (ss_one (s_if (t_cmp (r_in hr) (q_sl (qv 5) (o_some (qv 6)) o_none) (q_ix (q_pr T.p_Choices_lists hr (by omega) (qv 0)) (q_sub (q_ix (qv 5) (qv 6)) (qint))) (by with_unfolding_all rfl)) (ss_one (s_expr (q_append 4 (q_tup (a_cons (q_ix (qv 5) (qv 6)) (a_cons (q_sl (qv 5) (o_some (qv 6)) o_none) (a_cons (q_sl (qv 5) o_none (o_some (q_add (qv 6) (qint)))) a_nil))))))) ss_nil)))))
      (ss_one (s_retO 4))))))
theorem ok_numbered {f : Addr} {fd : FuncData} (T : Tx P w c mg base) (F : Fun c.K "_numbered" "_numbered" s_numbered f fd) (C_pairs : Cal P w c.K mg base 3 "_pairs" (spF c f_pairs) []) (C_disputes : Cal P w c.K mg base 3 "_disputes" (spF c f_disputes) []) : FnOk P w c.K mg base L2.CX0 4 f fd ["choices"] (spF c f_numbered) := by
  exact fn_den (k := 3) (N := n_numbered) (ps := ["choices"]) (body := b_numbered) F sc_numbered fun cdv A outer s H E hr => QSs.out (by exact (ss_cons (s_set 1 sc_numbered.nd (q_dc hr T.w_ (own := [("node", 2), ("path", 3)]) sc_numbered.nd (i_seq (q_call C_pairs hr (by omega) (a_cons (qv 0) a_nil))) (blkOk_by (own := [("node", 2), ("path", 3)]) (N := n_numbered) (sc := defScope s_numbered) (by decide +kernel)) (fun _ _ _ _ _ => (by exact (g_tup 2 (gs_cons (g_name 2 sc_numbered.nd) (gs_cons (g_name 3 sc_numbered.nd) gs_nil))))) (fun _ _ _ _ _ => (by exact ts_nil)) (fun _ _ _ _ _ => (by exact (q_tup (a_cons (qv 2) (a_cons (qv 3) a_nil))))) (fun _ _ _ _ _ => (by exact (q_call C_disputes hr (by omega) (a_cons (qv 0) (a_cons (qv 2) (a_cons (qv 3) a_nil))))))))
      (ss_cons (s_setO 4 sc_numbered.nd (q_lst a_nil))
      (ss_one (s_while 1000 PassesOwn.never (t_val (qbl)) (ss_cons (s_set 5 sc_numbered.nd (q_lc (own := [("pair", 6)]) sc_numbered.nd (i_keysD T.w_ (qv 1)) (blkOk_by (own := [("pair", 6)]) (N := n_numbered) (sc := defScope s_numbered) (by decide +kernel)) (fun _ _ _ _ _ => (by exact (g_name 6 sc_numbered.nd))) (fun _ _ _ _ _ => (by exact (ts_one (t_not (t_tru (q_lc (own := [("after", 7)]) sc_numbered.nd (i_seq (q_dget hr T.w_ (qv 1) (qv 6))) (blkOk_by (own := [("after", 7)]) (N := n_numbered) (by first | kernel_rfl | rfl | with_unfolding_all rfl)) (fun _ _ _ _ _ => (by exact (g_name 7 sc_numbered.nd))) (fun _ _ _ _ _ => (by exact (ts_one (t_inN 1 hr T.w_ (q_sl (qv 7) o_none (o_some (qint))))))) (fun _ _ _ _ _ => (by exact (qv 7))))))))) (fun _ _ _ _ _ => (by exact (qv 6)))))
      (ss_cons (s_if (t_not (t_tru (qv 5))) (ss_one (s_ret (q_tup (a_cons (qv 4) (a_cons (q_blt (b_listD T.w_) T.b_list (a_cons (qv 1) a_nil)) a_nil))))) ss_nil)
      (ss_cons (s_expr (q_extend 4 (qv 5)))
      (ss_one (s_set 1 sc_numbered.nd (q_dc hr T.w_ (own := [("pair", 6)]) sc_numbered.nd (i_keysD T.w_ (qv 1)) (blkOk_by (own := [("pair", 6)]) (N := n_numbered) (sc := defScope s_numbered) (by decide +kernel)) (fun _ _ _ _ _ => (by exact (g_name 6 sc_numbered.nd))) (fun _ _ _ _ _ => (by exact (ts_one (t_cmp (r_nin hr) (qv 6) (qv 5) (by with_unfolding_all rfl))))) (fun _ _ _ _ _ => (by exact (qv 6))) (fun _ _ _ _ _ => (by exact (q_dget hr T.w_ (qv 1) (qv 6)))))))))))))))
theorem ok_wheel {f : Addr} {fd : FuncData} (T : Tx P w c mg base) (F : Fun c.K "wheel" "wheel" s_wheel f fd) (C_check_choices : Cal P w c.K mg base 1 "check_choices" (spF c f_check_choices) []) (C_disputes : Cal P w c.K mg base 3 "_disputes" (spF c f_disputes) []) (C_numbered : Cal P w c.K mg base 4 "_numbered" (spF c f_numbered) []) : FnOk P w c.K mg base L2.CX0 5 f fd ["choices"] (spF c f_wheel) := by
  exact fn_den (k := 4) (N := n_wheel) (ps := ["choices"]) (body := b_wheel) F sc_wheel fun cdv A outer s H E hr => QSs.out (by exact (ss_cons (s_expr (q_call C_check_choices hr (by omega) (a_cons (qv 0) a_nil)))
      (ss_cons (s_asg (q_call C_numbered hr (by omega) (a_cons (qv 0) a_nil)) (g_tup 2 (gs_cons (g_name 1 sc_wheel.nd) (gs_cons (g_name 2 sc_wheel.nd) gs_nil))))
      (ss_cons (s_if (t_not (t_tru (qv 2))) (ss_one (s_ret (qnon))) ss_nil)
      (ss_cons (s_setO 3 sc_wheel.nd (q_lst a_nil))
      (ss_cons (s_setO 4 sc_wheel.nd (q_lst a_nil))
      (ss_cons (s_set 5 sc_wheel.nd (q_ix (qv 2) (qint)))
      (ss_cons (s_while 1000 PassesOwn.never (t_cmpR (f_nin hr) (qv 5) 3) (ss_cons (s_expr (q_append 3 (qv 5)))
      (ss_cons (s_asg (qv 5) (g_tup 2 (gs_cons (g_name 6 sc_wheel.nd) (gs_cons (g_name 7 sc_wheel.nd) gs_nil))))
      (ss_cons (s_setLc (own := [("found", 9)]) 8 sc_wheel.nd (i_seq (q_call C_disputes hr (by omega) (a_cons (qv 0) (a_cons (qv 6) (a_cons (qv 7) a_nil))))) (blkOk_by (own := [("found", 9)]) (N := n_wheel) (sc := defScope s_wheel) (by decide +kernel)) (fun _ _ _ _ _ => (by exact (g_name 9 sc_wheel.nd))) (fun _ _ _ _ _ => (by exact (ts_one (t_cmp (r_in hr) (q_sl (qv 9) o_none (o_some (qint))) (qv 2) (by with_unfolding_all rfl))))) (fun _ _ _ _ _ => (by exact (qv 9))) (hw := sw_true rfl rfl rfl (by decide +kernel)))
      (ss_cons (s_expr (q_append 4 (q_tup (a_cons (qv 6) (a_cons (qv 7) (a_cons (q_ix (q_ix (qv 8) (qint)) (qint)) a_nil))))))
      (ss_one (s_set 5 sc_wheel.nd (q_sl (q_ix (qv 8) (qint)) o_none (o_some (qint))))))))))
      (ss_one (s_ret (q_blt b_tuple T.b_tuple (a_cons (q_sl (qv 4) (o_some (q_idxO 3 (un66 hr) (qv 5))) o_none) a_nil))))))))))))
theorem ok_after {f : Addr} {fd : FuncData} (T : Tx P w c mg base) (F : Fun c.K "_after" "_after" s_after f fd) (C_taken_in : Cal P w c.K mg base 3 "taken_in" (spF c f_taken_in) []) : FnOk P w c.K mg base L2.CX0 4 f fd ["choices", "state", "node"] (spF c f_after) := by
  exact fn_den (k := 3) (N := n_after) (ps := ["choices", "state", "node"]) (body := b_after) F sc_after fun cdv A outer s H E hr => QSs.out (by exact (ss_one (s_ret (q_tup (a_star (q_sl (qv 1) o_none (o_some (q_sub (qv 2) (qint)))) (a_cons (q_call C_taken_in hr (by omega) (a_cons (qv 0) (a_cons (qv 2) (a_cons (qv 1) a_nil)))) (a_star (q_sl (qv 1) (o_some (qv 2)) o_none) a_nil)))))))
theorem ok_moves_from {f : Addr} {fd : FuncData} (T : Tx P w c mg base) (F : Fun c.K "_moves_from" "_moves_from" s_moves_from f fd) (C_after : Cal P w c.K mg base 4 "_after" (spF c f_after) []) : FnOk P w c.K mg base L2.CX0 5 f fd ["choices", "state"] (spF c f_moves_from) := by
  exact fn_den (k := 4) (N := n_moves_from) (ps := ["choices", "state"]) (body := b_moves_from) F sc_moves_from fun cdv A outer s H E hr => QSs.out (by exact (ss_cons (s_set 2 sc_moves_from.nd (q_blt b_rngV T.b_range (a_cons (qint) (a_cons (q_add (q_blt b_len T.b_len (a_cons (q_pr T.p_Choices_lists hr (by omega) (qv 0)) a_nil)) (qint)) a_nil))))
      (ss_cons (s_setO 3 sc_moves_from.nd (q_dnew T.w_))
      (ss_cons (s_setO 4 sc_moves_from.nd (q_dis1 hr T.w_ (qv 1) (qbl)))
      (ss_cons (s_setO 5 sc_moves_from.nd (q_lst (a_cons (qv 1) a_nil)))
      (ss_cons (s_while 1000 PassesOwn.never (t_truO 5) (ss_cons (s_set 6 sc_moves_from.nd (q_pop 5))
      (ss_cons (s_asg (q_lc (own := [("node", 7)]) sc_moves_from.nd (i_rngV (qv 2)) (blkOk_by (own := [("node", 7)]) (N := n_moves_from) (sc := defScope s_moves_from) (by decide +kernel)) (fun _ _ _ _ _ => (by exact (g_name 7 sc_moves_from.nd))) (fun _ _ _ _ _ => (by exact ts_nil)) (fun _ _ _ _ _ => (by exact (q_call C_after hr (by omega) (a_cons (qv 0) (a_cons (qv 6) (a_cons (qv 7) a_nil))))))) (g_itemD 3 hr T.w_ (qv 6)))
      (ss_cons (s_for PassesOwn.never (i_seq (q_dgetN 3 hr T.w_ (qv 6))) (g_name 8 sc_moves_from.nd) (ss_one (s_if (t_ninN 4 hr T.w_ (qv 8)) (ss_cons (s_asg (qbl) (g_itemD 4 hr T.w_ (qv 8)))
      (ss_one (s_expr (q_append 5 (qv 8))))) ss_nil)))
      (ss_one (s_if (t_cmp (r_gt) (q_lenD 4 T.w_ T.b_len) (qk T.c_MOST_STATES)) ss_never ss_nil))))))
      (ss_one (s_retO 3))))))))
theorem ok_rank_of {f : Addr} {fd : FuncData} (T : Tx P w c mg base) (F : Fun c.K "_rank_of" "_rank_of" s_rank_of f fd)  : FnOk P w c.K mg base L2.CX0 1 f fd ["state"] (spF c f_rank_of) := by
  exact fn_den (k := 0) (N := n_rank_of) (ps := ["state"]) (body := b_rank_of) F sc_rank_of fun cdv A outer s H E hr => QSs.out (by exact (ss_one (s_ret (q_lc (own := [("path", 1)]) sc_rank_of.nd (i_seq (qv 0)) (blkOk_by (own := [("path", 1)]) (N := n_rank_of) (sc := defScope s_rank_of) (by decide +kernel)) (fun _ _ _ _ _ => (by exact (g_name 1 sc_rank_of.nd))) (fun _ _ _ _ _ => (by exact ts_nil)) (fun _ _ _ _ _ => (by exact (q_tup (a_cons (q_cmp (r_is) (qv 1) (qnon)) (a_cons (q_orT (qv 1) (q_one (q_tup a_nil))) a_nil)))))))))
theorem ok_states_from {f : Addr} {fd : FuncData} (T : Tx P w c mg base) (F : Fun c.K "states_from" "states_from" s_states_from f fd) (C_check_choices : Cal P w c.K mg base 1 "check_choices" (spF c f_check_choices) []) (C_check_state : Cal P w c.K mg base 4 "check_state" (spF c f_check_state) []) (C_moves_from : Cal P w c.K mg base 5 "_moves_from" (spF c f_moves_from) []) (C_rank_of : Cal P w c.K mg base 1 "_rank_of" (spF c f_rank_of) []) : FnOk P w c.K mg base L2.CX0 6 f fd ["choices", "state"] (spF c f_states_from) := by
  exact fn_den (k := 5) (N := n_states_from) (ps := ["choices", "state"]) (body := b_states_from) F sc_states_from fun cdv A outer s H E hr => QSs.out (by exact (ss_cons (s_expr (q_call C_check_choices hr (by omega) (a_cons (qv 0) a_nil)))
      (ss_cons (s_expr (q_call C_check_state hr (by omega) (a_cons (qv 0) (a_cons (qv 1) a_nil))))
      (ss_cons (s_set 2 sc_states_from.nd (q_call C_moves_from hr (by omega) (a_cons (qv 0) (a_cons (qv 1) a_nil))))
      (ss_cons (s_setLc (own := [("found", 4)]) 3 sc_states_from.nd (i_keysD T.w_ (qv 2)) (blkOk_by (own := [("found", 4)]) (N := n_states_from) (sc := defScope s_states_from) (by decide +kernel)) (fun _ _ _ _ _ => (by exact (g_name 4 sc_states_from.nd))) (fun _ _ _ _ _ => (by exact (ts_one (t_val (q_blt b_all T.b_all (a_cons (q_lc (own := [("after", 5)]) sc_states_from.nd (i_seq (q_dget hr T.w_ (qv 2) (qv 4))) (blkOk_by (own := [("after", 5)]) (N := n_states_from) (by first | kernel_rfl | rfl | with_unfolding_all rfl)) (fun _ _ _ _ _ => (by exact (g_name 5 sc_states_from.nd))) (fun _ _ _ _ _ => (by exact ts_nil)) (fun _ _ _ _ _ => (by exact (q_cmp (r_eq hr) (qv 5) (qv 4))))) a_nil)))))) (fun _ _ _ _ _ => (by exact (qv 4))) (hw := sw_true rfl rfl rfl (by decide +kernel)))
      (ss_one (s_ret (q_tup (a_cons (q_lenD 2 T.w_ T.b_len) (a_cons (q_sortK C_rank_of hr (by omega) T.b_sorted (qv 3)) a_nil))))))))))
theorem ok_way {f : Addr} {fd : FuncData} (T : Tx P w c mg base) (F : Fun c.K "_way" "_way" s_way f fd)  : FnOk P w c.K mg base L2.CX0 1 f fd ["moves", "begin", "goals"] (spF c f_way) := by
  exact fn_den (k := 0) (N := n_way) (ps := ["moves", "begin", "goals"]) (body := b_way) F sc_way fun cdv A outer s H E hr => QSs.out (by exact (ss_cons (s_setO 3 sc_way.nd (q_dis1 hr T.w_ (qv 1) (q_tup a_nil)))
      (ss_cons (s_setO 4 sc_way.nd (q_lst (a_cons (qv 1) a_nil)))
      (ss_cons (s_while 1000 PassesOwn.never (t_ninN 2 hr T.w_ (q_ixO 4 (qint))) (ss_cons (s_set 5 sc_way.nd (q_popAt 4 (qint)))
      (ss_one (s_for PassesOwn.never (i_enumSG (k := 1) T.b_enumerate (a_cons (q_dget hr T.w_ (qv 0) (qv 5)) a_nil)) (g_tup 2 (gs_cons (g_name 6 sc_way.nd) (gs_cons (g_name 7 sc_way.nd) gs_nil))) (ss_one (s_if (t_ninN 3 hr T.w_ (qv 7)) (ss_cons (s_asg (q_tup (a_star (q_dgetN 3 hr T.w_ (qv 5)) (a_cons (qv 6) a_nil))) (g_itemD 3 hr T.w_ (qv 7)))
      (ss_one (s_expr (q_append 4 (qv 7))))) ss_nil))))))
      (ss_one (s_ret (q_tup (a_cons (q_dgetN 3 hr T.w_ (q_ixO 4 (qint))) (a_cons (q_ixO 4 (qint)) a_nil)))))))))
theorem ok_round_trip {f : Addr} {fd : FuncData} (T : Tx P w c mg base) (F : Fun c.K "_round_trip" "_round_trip" s_round_trip f fd) (C_way : Cal P w c.K mg base 1 "_way" (spF c f_way) []) : FnOk P w c.K mg base L2.CX0 2 f fd ["moves", "begin", "places"] (spF c f_round_trip) := by
  exact fn_den (k := 1) (N := n_round_trip) (ps := ["moves", "begin", "places"]) (body := b_round_trip) F sc_round_trip fun cdv A outer s H E hr => QSs.out (by exact (ss_cons (s_setO 3 sc_round_trip.nd (q_lst a_nil))
      (ss_cons (s_set 4 sc_round_trip.nd (qv 1))
      (ss_cons (s_for PassesOwn.never (i_enumSG (k := 1) T.b_enumerate (a_cons (qv 2) a_nil)) (g_tup 2 (gs_cons (g_name 5 sc_round_trip.nd) (gs_cons (g_name 6 sc_round_trip.nd) gs_nil))) (ss_cons (s_asg (q_call C_way hr (by omega) (a_cons (qv 0) (a_cons (qv 4) (a_cons (qv 6) a_nil)))) (g_tup 2 (gs_cons (g_name 7 sc_round_trip.nd) (gs_cons (g_name 8 sc_round_trip.nd) gs_nil))))
      (ss_cons (s_augL 3 sc_round_trip.nd (q_lst (a_star (qv 7) (a_cons (qv 5) a_nil))))
      (ss_one (s_set 4 sc_round_trip.nd (q_ix (q_dget hr T.w_ (qv 0) (qv 8)) (q_sub (qv 5) (qint))))))))
      (ss_cons (s_asg (q_call C_way hr (by omega) (a_cons (qv 0) (a_cons (qv 4) (a_cons (q_dis1 hr T.w_ (qv 1) (qbl)) a_nil)))) (g_tup 2 (gs_cons (g_name 7 sc_round_trip.nd) (gs_cons (g_name 9 sc_round_trip.nd) gs_nil))))
      (ss_one (s_ret (q_tup (a_star (qv 3) (a_star (qv 7) a_nil))))))))))
theorem ok_staying {f : Addr} {fd : FuncData} (T : Tx P w c mg base) (F : Fun c.K "_staying" "_staying" s_staying f fd)  : FnOk P w c.K mg base L2.CX0 1 f fd ["moves", "knot", "node"] (spF c f_staying) := by
  exact fn_den (k := 0) (N := n_staying) (ps := ["moves", "knot", "node"]) (body := b_staying) F sc_staying fun cdv A outer s H E hr => QSs.out (by exact (ss_cons (s_set 3 sc_staying.nd (q_dc hr T.w_ (own := [("state", 4)]) sc_staying.nd (i_seq (qv 1)) (blkOk_by (own := [("state", 4)]) (N := n_staying) (sc := defScope s_staying) (by decide +kernel)) (fun _ _ _ _ _ => (by exact (g_name 4 sc_staying.nd))) (fun _ _ _ _ _ => (by exact ts_nil)) (fun _ _ _ _ _ => (by exact (qv 4))) (fun _ _ _ _ _ => (by exact (qbl)))))
      (ss_one (s_ret (q_dc hr T.w_ (own := [("state", 4)]) sc_staying.nd (i_seq (qv 1)) (blkOk_by (own := [("state", 4)]) (N := n_staying) (sc := defScope s_staying) (by decide +kernel)) (fun _ _ _ _ _ => (by exact (g_name 4 sc_staying.nd))) (fun _ _ _ _ _ => (by exact (ts_one (t_inN 3 hr T.w_ (q_ix (q_dget hr T.w_ (qv 0) (qv 4)) (q_sub (qv 2) (qint))))))) (fun _ _ _ _ _ => (by exact (qv 4))) (fun _ _ _ _ _ => (by exact (qbl))))))))
theorem ok_storm {f : Addr} {fd : FuncData} (T : Tx P w c mg base) (F : Fun c.K "storm" "storm" s_storm f fd) (C_knots_among : Cal P w c.K mg base 2 "knots_among" (spF c f_knots_among) []) (C_check_choices : Cal P w c.K mg base 1 "check_choices" (spF c f_check_choices) []) (C_check_state : Cal P w c.K mg base 4 "check_state" (spF c f_check_state) []) (C_moves_from : Cal P w c.K mg base 5 "_moves_from" (spF c f_moves_from) []) (C_way : Cal P w c.K mg base 1 "_way" (spF c f_way) []) (C_round_trip : Cal P w c.K mg base 2 "_round_trip" (spF c f_round_trip) []) (C_staying : Cal P w c.K mg base 1 "_staying" (spF c f_staying) []) : FnOk P w c.K mg base L2.CX0 6 f fd ["choices", "state"] (spF c f_storm) := by
  exact fn_den (k := 5) (N := n_storm) (ps := ["choices", "state"]) (body := b_storm) F sc_storm fun cdv A outer s H E hr => QSs.out (by exact (ss_cons (s_expr (q_call C_check_choices hr (by omega) (a_cons (qv 0) a_nil)))
      (ss_cons (s_expr (q_call C_check_state hr (by omega) (a_cons (qv 0) (a_cons (qv 1) a_nil))))
      (ss_cons (s_set 2 sc_storm.nd (q_call C_moves_from hr (by omega) (a_cons (qv 0) (a_cons (qv 1) a_nil))))
      (ss_cons (s_set 3 sc_storm.nd (q_blt b_rngV T.b_range (a_cons (qint) (a_cons (q_add (q_blt b_len T.b_len (a_cons (q_pr T.p_Choices_lists hr (by omega) (qv 0)) a_nil)) (qint)) a_nil))))
      (ss_cons (s_for PassesOwn.never (i_seq (q_call C_knots_among hr (by omega) (a_cons (qv 2) a_nil))) (g_name 4 sc_storm.nd) (ss_cons (s_setLc (own := [("node", 6)]) 5 sc_storm.nd (i_rngV (qv 3)) (blkOk_by (own := [("node", 6)]) (N := n_storm) (sc := defScope s_storm) (by decide +kernel)) (fun _ _ _ _ _ => (by exact (g_name 6 sc_storm.nd))) (fun _ _ _ _ _ => (by exact ts_nil)) (fun _ _ _ _ _ => (by exact (q_call C_staying hr (by omega) (a_cons (qv 2) (a_cons (qv 4) (a_cons (qv 6) a_nil)))))) (hw := sw_true rfl rfl rfl (by decide +kernel)))
      (ss_one (s_if (QW.t (w_and (t_cmp (r_gt) (q_blt b_len T.b_len (a_cons (qv 4) a_nil)) (qint)) (w_and1 (t_val (q_blt b_all T.b_all (a_cons (q_lc (own := [("staying", 7)]) sc_storm.nd (i_seq (qv 5)) (blkOk_by (own := [("staying", 7)]) (N := n_storm) (sc := defScope s_storm) (by decide +kernel)) (fun _ _ _ _ _ => (by exact (g_name 7 sc_storm.nd))) (fun _ _ _ _ _ => (by exact ts_nil)) (fun _ _ _ _ _ => (by exact (q_cmp (r_gt) (q_lenD 7 T.w_ T.b_len) (qint))))) a_nil)))))) (ss_cons (s_asg (q_call C_way hr (by omega) (a_cons (qv 2) (a_cons (qv 1) (a_cons (q_dis1 hr T.w_ (q_ix (qv 4) (qint)) (qbl)) a_nil)))) (g_tup 2 (gs_cons (g_name 8 sc_storm.nd) (gs_cons (g_name 9 sc_storm.nd) gs_nil))))
      (ss_one (s_ret (q_tup (a_cons (qv 8) (a_cons (q_call C_round_trip hr (by omega) (a_cons (qv 2) (a_cons (qv 9) (a_cons (qv 5) a_nil)))) a_nil)))))) ss_nil))))
      (ss_one (s_ret (qnon)))))))))
theorem ok_law_taken {f : Addr} {fd : FuncData} (T : Tx P w c mg base) (F : Fun c.K "_law_taken" "_law_taken" s_law_taken f fd)  : FnOk P w c.K mg base L2.CX0 1 f fd ["row", "many"] (spF c f_law_taken) := by
  exact fn_den (k := 0) (N := n_law_taken) (ps := ["row", "many"]) (body := b_law_taken) F sc_law_taken fun cdv A outer s H E hr => QSs.out (by exact (ss_cons (s_if (t_cmp (r_gt) (q_ixO 0 (qint)) (qint)) (ss_cons (s_set 2 sc_law_taken.nd (q_mod (q_blt b_int T.b_int (a_cons (q_ixO 0 (qint)) a_nil)) (qv 1)))
      (ss_cons (s_asg (q_fdiv (q_ixO 0 (qint)) (qv 1)) (g_item 0 (qint)))
      (ss_one (s_ret (qv 2))))) ss_nil)
      (ss_cons (s_asg (q_add (q_ixO 0 (qint)) (qint)) (g_item 0 (qint)))
      (ss_cons (s_if (t_cmp (r_gt) (q_ixO 0 (qint)) (q_blt b_len T.b_len (a_cons (q_ixO 0 (qint)) a_nil))) (ss_cons (s_asg (q_mod (q_blt b_int T.b_int (a_cons (q_add (q_mul (q_ixO 0 (qint)) (qint)) (qint)) a_nil)) (qint)) (g_item 0 (qint)))
      (ss_one (s_ret (q_mod (q_blt b_int T.b_int (a_cons (q_fdiv (q_ixO 0 (qint)) (qint)) a_nil)) (qv 1))))) ss_nil)
      (ss_cons (s_set 3 sc_law_taken.nd (q_ix (q_ixO 0 (qint)) (q_sub (q_ixO 0 (qint)) (qint))))
      (ss_cons (s_asg (q_mod (q_blt b_int T.b_int (a_cons (q_add (q_add (q_mul (q_ixO 0 (qint)) (qint)) (qv 3)) (qint)) a_nil)) (qint)) (g_item 0 (qint)))
      (ss_cons (s_if (t_cmp (r_ge) (qv 3) (q_pow (qint) (qint))) (ss_one (s_asg (q_fdiv (qv 3) (qv 1)) (g_item 0 (qint)))) ss_nil)
      (ss_one (s_ret (q_mod (q_blt b_int T.b_int (a_cons (qv 3) a_nil)) (qv 1)))))))))))
theorem ok_law_pick {f : Addr} {fd : FuncData} (T : Tx P w c mg base) (F : Fun c.K "_law_pick" "_law_pick" s_law_pick f fd) (C_law_taken : Cal P w c.K mg base 1 "_law_taken" (spF c f_law_taken) []) : FnOk P w c.K mg base L2.CX0 2 f fd ["row", "things"] (spF c f_law_pick) := by
  exact fn_den (k := 1) (N := n_law_pick) (ps := ["row", "things"]) (body := b_law_pick) F sc_law_pick fun cdv A outer s H E hr => QSs.out (by exact (ss_one (s_ret (q_ix (qv 1) (q_callO C_law_taken hr (by omega) (c_own 0 (a_cons (q_blt b_len T.b_len (a_cons (qv 1) a_nil)) a_nil)))))))
theorem ok_Choices_init {f : Addr} {fd : FuncData} (T : Tx P w c mg base) (F : Fun c.K "__init__" "Choices.__init__" s_Choices_init f fd) (C_is_tuple : Cal P w c.K mg base 1 "is_tuple" (spF c f_is_tuple) []) (C_is_path : Cal P w c.K mg base 3 "is_path" (spF c f_is_path) []) : FnOk P w c.K mg base L2.CX0 4 f fd ["self", "lists"] (spF c f_Choices_init) := by
  exact fn_den (k := 3) (N := n_Choices_init) (ps := ["self", "lists"]) (body := b_Choices_init) F sc_Choices_init fun cdv A outer s H E hr => QSs.out (by exact (ss_cons (s_if (t_not (t_val (q_call C_is_tuple hr (by omega) (a_cons (qv 1) (a_cons (qint) (a_cons (qk T.c_MOST_LISTS) a_nil)))))) ss_never ss_nil)
      (ss_cons (s_for PassesOwn.never (i_enumS (k := 1) T.b_enumerate (a_cons (qv 1) a_nil)) (g_tup 2 (gs_cons (g_name 2 sc_Choices_init.nd) (gs_cons (g_name 3 sc_Choices_init.nd) gs_nil))) (ss_cons (s_if (t_not (t_val (q_call C_is_tuple hr (by omega) (a_cons (qv 3) (a_cons (qint) (a_cons (qk T.c_MOST_PATHS) a_nil)))))) ss_never ss_nil)
      (ss_one (s_for PassesOwn.never (i_enum T.b_enumerate (a_cons (qv 3) a_nil)) (g_tup 2 (gs_cons (g_name 4 sc_Choices_init.nd) (gs_cons (g_name 5 sc_Choices_init.nd) gs_nil))) (ss_one (s_if (QW.t (w_or (t_not (t_val (q_call C_is_path hr (by omega) (a_cons (q_blt b_len T.b_len (a_cons (qv 1) a_nil)) (a_cons (qv 2) (a_cons (qv 5) a_nil)))))) (w_or1 (t_cmp (r_in hr) (qv 5) (q_sl (qv 3) o_none (o_some (qv 4))) (by with_unfolding_all rfl))))) ss_never ss_nil))))))
      (ss_one (s_fld "Choices" 0 0 T.f_Choices_lists T.l_Choices (qv 1))))))
theorem ok_law {f : Addr} {fd : FuncData} (T : Tx P w c mg base) (F : Fun c.K "law" "law" s_law f fd) (C_stable_of : Cal P w c.K mg base 4 "stable_of" (spF c f_stable_of) []) (C_wheel : Cal P w c.K mg base 5 "wheel" (spF c f_wheel) []) (C_states_from : Cal P w c.K mg base 6 "states_from" (spF c f_states_from) []) (C_storm : Cal P w c.K mg base 6 "storm" (spF c f_storm) []) (C_law_pick : Cal P w c.K mg base 2 "_law_pick" (spF c f_law_pick) []) (M_Choices : Mak P w c.K mg base 4 "Choices" (c.cls "Choices") (spF c f_Choices_init) []) : FnOk P w c.K mg base L2.CX0 7 f fd ["script"] (spF c f_law) := by
  exact fn_den (k := 6) (N := n_law) (ps := ["script"]) (body := b_law) F sc_law fun cdv A outer s H E hr => QSs.out (by exact (ss_cons (s_setO 1 sc_law.nd (q_lst (a_cons (qv 0) (a_cons (qint) (a_cons (qint) (a_cons (qint) a_nil))))))
      (ss_cons (s_set 2 sc_law.nd (q_make "Choices" M_Choices T.n_Choices hr (by omega) (a_cons (q_tup (a_cons (q_tup (a_cons (q_tup (a_cons (qint) (a_cons (qint) (a_cons (qint) a_nil)))) (a_cons (q_tup (a_cons (qint) (a_cons (qint) a_nil))) a_nil))) (a_cons (q_tup (a_cons (q_tup (a_cons (qint) (a_cons (qint) (a_cons (qint) a_nil)))) (a_cons (q_tup (a_cons (qint) (a_cons (qint) a_nil))) a_nil))) a_nil))) a_nil)))
      (ss_cons (s_set 3 sc_law.nd (q_make "Choices" M_Choices T.n_Choices hr (by omega) (a_cons (q_tup (a_cons (q_tup (a_cons (q_tup (a_cons (qint) (a_cons (qint) (a_cons (qint) a_nil)))) (a_cons (q_tup (a_cons (qint) (a_cons (qint) a_nil))) a_nil))) (a_cons (q_tup (a_cons (q_tup (a_cons (qint) (a_cons (qint) (a_cons (qint) a_nil)))) (a_cons (q_tup (a_cons (qint) (a_cons (qint) a_nil))) a_nil))) (a_cons (q_tup (a_cons (q_tup (a_cons (qint) (a_cons (qint) a_nil))) a_nil)) a_nil)))) a_nil)))
      (ss_cons (s_set 4 sc_law.nd (q_make "Choices" M_Choices T.n_Choices hr (by omega) (a_cons (q_tup (a_cons (q_tup (a_cons (q_tup (a_cons (qint) (a_cons (qint) (a_cons (qint) a_nil)))) (a_cons (q_tup (a_cons (qint) (a_cons (qint) a_nil))) a_nil))) (a_cons (q_tup (a_cons (q_tup (a_cons (qint) (a_cons (qint) (a_cons (qint) a_nil)))) (a_cons (q_tup (a_cons (qint) (a_cons (qint) a_nil))) a_nil))) (a_cons (q_tup (a_cons (q_tup (a_cons (qint) (a_cons (qint) (a_cons (qint) a_nil)))) (a_cons (q_tup (a_cons (qint) (a_cons (qint) a_nil))) a_nil))) a_nil)))) a_nil)))
      (ss_cons (s_set 5 sc_law.nd (q_make "Choices" M_Choices T.n_Choices hr (by omega) (a_cons (q_tup (a_cons (q_tup (a_cons (q_tup (a_cons (qint) (a_cons (qint) (a_cons (qint) a_nil)))) (a_cons (q_tup (a_cons (qint) (a_cons (qint) a_nil))) a_nil))) (a_cons (q_tup (a_cons (q_tup (a_cons (qint) (a_cons (qint) (a_cons (qint) a_nil)))) (a_cons (q_tup (a_cons (qint) (a_cons (qint) a_nil))) a_nil))) (a_cons (q_tup (a_cons (q_tup (a_cons (qint) (a_cons (qint) (a_cons (qint) a_nil)))) (a_cons (q_tup (a_cons (qint) (a_cons (qint) (a_cons (qint) a_nil)))) (a_cons (q_tup (a_cons (qint) (a_cons (qint) a_nil))) a_nil)))) (a_cons (q_tup (a_cons (q_tup (a_cons (qint) (a_cons (qint) a_nil))) a_nil)) a_nil))))) a_nil)))
      (ss_cons (s_setLc (own := [("many", 7)]) 6 sc_law.nd (i_seq (q_lst (a_cons (qint) (a_cons (qint) (a_cons (qint) (a_cons (qint) a_nil)))))) (blkOk_by (own := [("many", 7)]) (N := n_law) (sc := defScope s_law) (by decide +kernel)) (fun _ _ _ _ _ => (by exact (g_name 7 sc_law.nd))) (fun _ _ _ _ _ => (by exact ts_nil)) (fun _ _ _ _ _ => (by exact (q_mulT (q_tup (a_cons (qnon) a_nil)) (qv 7)))) (hw := sw_true rfl rfl rfl (by decide +kernel)))
      (ss_cons (s_set 8 sc_law.nd (q_lst (a_cons (q_cmp (r_is) (q_call C_storm hr (by omega) (a_cons (qv 2) (a_cons (q_ix (qv 6) (qint)) a_nil))) (qnon)) (a_cons (q_cmp (r_is) (q_call C_storm hr (by omega) (a_cons (qv 3) (a_cons (q_ix (qv 6) (qint)) a_nil))) (qnon)) (a_cons (q_cmp (r_is) (q_call C_storm hr (by omega) (a_cons (qv 4) (a_cons (q_ix (qv 6) (qint)) a_nil))) (qnon)) (a_cons (q_cmp (r_is) (q_call C_storm hr (by omega) (a_cons (qv 5) (a_cons (q_ix (qv 6) (qint)) a_nil))) (qnon)) a_nil))))))
      (ss_cons (s_if (QW.t (w_or (t_cmp (r_ne hr) (qv 8) (q_lst (a_cons (qbl) (a_cons (qbl) (a_cons (qbl) (a_cons (qbl) a_nil)))))) (w_or (t_cmp (r_ne hr) (q_call C_stable_of hr (by omega) (a_cons (qv 4) a_nil)) (q_lst a_nil)) (w_or (t_cmp (r_ne hr) (q_blt b_len T.b_len (a_cons (q_call C_stable_of hr (by omega) (a_cons (qv 5) a_nil)) a_nil)) (qint)) (w_or1 (t_cmp (r_is) (q_call C_wheel hr (by omega) (a_cons (qv 5) a_nil)) (qnon))))))) (ss_one (s_ret (qbl))) ss_nil)
      (ss_cons (s_if (t_cmp (r_ne hr) (q_ix (q_call C_states_from hr (by omega) (a_cons (qv 2) (a_cons (q_ix (qv 6) (qint)) a_nil))) (qint)) (q_lst (a_cons (q_tup (a_cons (q_tup (a_cons (qint) (a_cons (qint) a_nil))) (a_cons (q_tup (a_cons (qint) (a_cons (qint) (a_cons (qint) a_nil)))) a_nil))) (a_cons (q_tup (a_cons (q_tup (a_cons (qint) (a_cons (qint) (a_cons (qint) a_nil)))) (a_cons (q_tup (a_cons (qint) (a_cons (qint) a_nil))) a_nil))) a_nil)))) (ss_one (s_ret (qbl))) ss_nil)
      (ss_cons (s_set 9 sc_law.nd (q_callO C_law_pick hr (by omega) (c_own 1 (a_cons (q_lst (a_cons (q_tup (a_cons (q_tup (a_cons (qint) (a_cons (qint) (a_cons (qint) a_nil)))) (a_cons (q_tup (a_cons (qint) (a_cons (qint) a_nil))) a_nil))) (a_cons (q_tup (a_cons (q_tup (a_cons (qint) (a_cons (qint) a_nil))) (a_cons (q_tup (a_cons (qint) (a_cons (qint) (a_cons (qint) a_nil)))) a_nil))) a_nil))) a_nil))))
      (ss_one (s_ret (q_and (q_cmp (r_eq hr) (q_call C_states_from hr (by omega) (a_cons (qv 2) (a_cons (qv 9) a_nil))) (q_tup (a_cons (qint) (a_cons (q_lst (a_cons (qv 9) a_nil)) a_nil)))) (q_one (q_cmp (r_is) (q_call C_storm hr (by omega) (a_cons (qv 2) (a_cons (qv 9) a_nil))) (qnon)))))))))))))))))
end
end Fx.K44
/-! running denotations: what a run that goes well gives -/
namespace Fx
open PySem
namespace R
/-- the run goes well and gives what P tells -/
def OKr {α : Type} (m : Out α) (P : α → En → Prop) : Prop := Post P (fun _ _ => False) m
/-- a call goes well -/
def OKFr (o : Out S) (K : S → Prop) : Prop := OKr o fun s _ => K s
section
variable {α β : Type} {P Q : α → En → Prop}
theorem ok_ok {a : α} {ρ : En} : OKr (.ok a ρ) P ↔ P a ρ := Iff.rfl
theorem ok_stuck : OKr (.stuck : Out α) P ↔ False := Iff.rfl
theorem ok_then {m : Out α} {f : α → En → Out β} {P : β → En → Prop} : OKr (m.then f) P ↔ OKr m fun a ρ => OKr (f a ρ) P := post_then
theorem ok_ite {c : Prop} [Decidable c] {a b : Out α} : OKr (if c then a else b) P ↔ (c → OKr a P) ∧ (¬c → OKr b P) := by
  split
  · rename_i h
    exact ⟨fun k => ⟨fun _ => k, fun n => absurd h n⟩, fun k => k.1 h⟩
  · rename_i h
    exact ⟨fun k => ⟨fun n => absurd n h, fun _ => k⟩, fun k => k.2 h⟩
theorem OKr.imp {m : Out α} (h : OKr m P) (k : ∀ a ρ, P a ρ → Q a ρ) : OKr m Q := Post.imp h k fun _ _ h => h
theorem OKr.at {m : Out α} (h : OKr m P) : ∃ a ρ, m = .ok a ρ ∧ P a ρ := by
  cases m with
  | ok a ρ => exact ⟨a, ρ, rfl, h⟩
  | err e ρ => exact h.elim
  | stuck => exact h.elim
theorem ok_calm {m : Out α} : OKr m.calm P ↔ OKr m P := by
  cases m <;> exact Iff.rfl
theorem OKFr.imp {o : Out S} {K K' : S → Prop} (h : OKFr o K) (k : ∀ s, K s → K' s) : OKFr o K' := OKr.imp h fun s _ => k s
end
section
variable {ρ : En} {P : S → En → Prop} {PB : Bool → En → Prop} {PA : List D → En → Prop} {PF : Fl → En → Prop} {PU : Unit → En → Prop} {fa fb fe : M S} {fA : M (List D)} {ft fu : M Bool} {F G : M Fl}
/-- a value that stays -/
theorem ok_dv {f : M S} {K : D → En → Prop} : OKr (dv f ρ) K ↔ OKr (f ρ) fun s ρ' => ∃ x, toD s = some x ∧ K x ρ' := by
  unfold dv
  rw [ok_then]
  refine ⟨fun h => h.imp fun s ρ' k => ?_, fun h => h.imp fun s ρ' k => ?_⟩
  · cases e : toD s with
    | none => rw [e] at k; exact k.elim
    | some x => rw [e] at k; exact ⟨x, rfl, k⟩
  · obtain ⟨x, e, k⟩ := k
    rw [e]
    exact k
theorem ex_toD {x : D} {K : D → Prop} : (∃ y, toD (.d x) = some y ∧ K y) ↔ K x := ⟨fun ⟨y, e, k⟩ => by cases e; exact k, fun k => ⟨x, rfl, k⟩⟩
theorem ex_toL {ds : List D} {K : D → Prop} : (∃ y, toD (.o none (.lst ds)) = some y ∧ K y) ↔ K (.lst ds) := ⟨fun ⟨y, e, k⟩ => by cases e; exact k, fun k => ⟨_, rfl, k⟩⟩
theorem ok_c {x : D} : OKr (mC x ρ) P ↔ P (.d x) ρ := Iff.rfl
theorem ok_var {i : Nat} : OKr (mVar i ρ) P ↔ OKr (mVar i ρ) P := Iff.rfl
theorem ok_varD {i : Nat} {x : D} (e : ρ[i]? = some (some (.d x))) : OKr (mVar i ρ) P ↔ P (.d x) ρ := by
  unfold mVar
  rw [e]
  exact Iff.rfl
theorem ok_op {g : D → D → Option S} : OKr (mOp g fa fb ρ) P ↔ OKr (dv fa ρ) fun x ρ1 => OKr (dv fb ρ1) fun y ρ2 => ∃ s, g x y = some s ∧ P s ρ2 := by
  unfold mOp
  rw [ok_then]
  simp only [ok_then]
  constructor
  · exact fun h => h.imp fun x ρ1 h => h.imp fun y ρ2 h => (by
      cases e : g x y with
      | none => rw [e] at h; exact h.elim
      | some s => rw [e] at h; exact ⟨s, rfl, h⟩)
  · exact fun h => h.imp fun x ρ1 h => h.imp fun y ρ2 h => (by
      obtain ⟨s, e, k⟩ := h
      rw [e]
      exact k)
theorem ok_un {g : D → Option S} : OKr (mUn g fa ρ) P ↔ OKr (dv fa ρ) fun x ρ1 => ∃ s, g x = some s ∧ P s ρ1 := by
  unfold mUn
  rw [ok_then]
  constructor
  · exact fun h => h.imp fun x ρ1 h => (by
      cases e : g x with
      | none => rw [e] at h; exact h.elim
      | some s => rw [e] at h; exact ⟨s, rfl, h⟩)
  · exact fun h => h.imp fun x ρ1 h => (by
      obtain ⟨s, e, k⟩ := h
      rw [e]
      exact k)
theorem ok_nil : OKr (aNil ρ) PA ↔ PA [] ρ := Iff.rfl
theorem ok_cons {fr : M (List D)} : OKr (aCons fa fr ρ) PA ↔ OKr (dv fa ρ) fun x ρ1 => OKr (fr ρ1) fun ds ρ2 => PA (x :: ds) ρ2 := by
  unfold aCons
  simp only [ok_then, ok_ok]
theorem ok_cb {g : List D → Option S} : OKr (mCB g fA ρ) P ↔ OKr (fA ρ) fun ds ρ1 => ∃ s, g ds = some s ∧ P s ρ1 := by
  unfold mCB
  rw [ok_then]
  constructor
  · exact fun h => h.imp fun x ρ1 h => (by
      cases e : g x with
      | none => rw [e] at h; exact h.elim
      | some s => rw [e] at h; exact ⟨s, rfl, h⟩)
  · exact fun h => h.imp fun x ρ1 h => (by
      obtain ⟨s, e, k⟩ := h
      rw [e]
      exact k)
theorem ok_test : OKr (mTest fa ρ) PB ↔ OKr (dv fa ρ) fun x ρ1 => ∃ b, x = .bl b ∧ PB b ρ1 := by
  unfold mTest
  rw [ok_then]
  refine ⟨fun h => h.imp fun x ρ1 h => ?_, fun h => h.imp fun x ρ1 h => ?_⟩
  · cases x <;> first | exact h.elim | exact ⟨_, rfl, h⟩
  · obtain ⟨b, rfl, h⟩ := h
    exact h
theorem ex_bl {b : Bool} {K : Bool → Prop} : (∃ c, D.bl b = D.bl c ∧ K c) ↔ K b := ⟨fun ⟨c, e, k⟩ => by cases e; exact k, fun k => ⟨b, rfl, k⟩⟩
theorem ok_not : OKr (mNot ft ρ) PB ↔ OKr (ft ρ) fun b ρ1 => PB (!b) ρ1 := by
  unfold mNot
  simp only [ok_then, ok_ok]
theorem ok_and : OKr (mAnd ft fu ρ) PB ↔ OKr (ft ρ) fun b ρ1 => (b = true → OKr (fu ρ1) PB) ∧ (¬b = true → PB false ρ1) := by
  unfold mAnd
  simp only [ok_then, ok_ok, ok_ite]
theorem ok_or : OKr (mOr ft fu ρ) PB ↔ OKr (ft ρ) fun b ρ1 => (b = true → PB true ρ1) ∧ (¬b = true → OKr (fu ρ1) PB) := by
  unfold mOr
  simp only [ok_then, ok_ok, ok_ite]
theorem ok_andV : OKr (mAndV fa fb ρ) P ↔ OKr (mTest fa ρ) fun b ρ1 => (b = true → OKr (fb ρ1) P) ∧ (¬b = true → P (.d (.bl false)) ρ1) := by
  unfold mAndV
  simp only [ok_then, ok_ok, ok_ite]
theorem ok_orV : OKr (mOrV fa fb ρ) P ↔ OKr (mTest fa ρ) fun b ρ1 => (b = true → P (.d (.bl true)) ρ1) ∧ (¬b = true → OKr (fb ρ1) P) := by
  unfold mOrV
  simp only [ok_then, ok_ok, ok_ite]
theorem ok_notV : OKr (mNotV fa ρ) P ↔ OKr (mTest fa ρ) fun b ρ1 => P (.d (.bl (!b))) ρ1 := by
  unfold mNotV
  simp only [ok_then, ok_ok]
theorem ok_if : OKr (mIf ft fa fb ρ) P ↔ OKr (ft ρ) fun b ρ1 => (b = true → OKr (fa ρ1) P) ∧ (¬b = true → OKr (fb ρ1) P) := by
  unfold mIf
  simp only [ok_then, ok_ite]
theorem ok_yes : OKr (mYes ρ) PB ↔ PB true ρ := Iff.rfl
/-! statements -/
theorem ok_seq : OKr (mSeq F G ρ) PF ↔ OKr (F ρ) fun f ρ1 => (f = .nx → OKr (G ρ1) PF) ∧ (f ≠ .nx → PF f ρ1) := by
  unfold mSeq
  rw [ok_then]
  refine ⟨fun h => h.imp fun f ρ1 h => ?_, fun h => h.imp fun f ρ1 h => ?_⟩
  · cases f with
    | nx => exact ⟨fun _ => h, fun n => absurd rfl n⟩
    | rt s => exact ⟨fun e => (by cases e), fun _ => h⟩
    | bk => exact ⟨fun e => (by cases e), fun _ => h⟩
    | ct => exact ⟨fun e => (by cases e), fun _ => h⟩
  · cases f with
    | nx => exact h.1 rfl
    | rt s => exact h.2 (fun e => by cases e)
    | bk => exact h.2 (fun e => by cases e)
    | ct => exact h.2 (fun e => by cases e)
theorem fl_nx {A : Prop} {B : Prop} : ((Fl.nx = Fl.nx → A) ∧ (Fl.nx ≠ Fl.nx → B)) ↔ A := ⟨fun h => h.1 rfl, fun h => ⟨fun _ => h, fun n => absurd rfl n⟩⟩
theorem fl_rt {s : S} {A : Prop} {B : Prop} : ((Fl.rt s = Fl.nx → A) ∧ (Fl.rt s ≠ Fl.nx → B)) ↔ B := ⟨fun h => h.2 (fun e => by cases e), fun h => ⟨fun e => (by cases e), fun _ => h⟩⟩
theorem fl_bk {A : Prop} {B : Prop} : ((Fl.bk = Fl.nx → A) ∧ (Fl.bk ≠ Fl.nx → B)) ↔ B := ⟨fun h => h.2 (fun e => by cases e), fun h => ⟨fun e => (by cases e), fun _ => h⟩⟩
theorem fl_ct {A : Prop} {B : Prop} : ((Fl.ct = Fl.nx → A) ∧ (Fl.ct ≠ Fl.nx → B)) ↔ B := ⟨fun h => h.2 (fun e => by cases e), fun h => ⟨fun e => (by cases e), fun _ => h⟩⟩
theorem ok_nx : OKr (mNx ρ) PF ↔ PF .nx ρ := Iff.rfl
theorem ok_bk : OKr (mBk ρ) PF ↔ PF .bk ρ := Iff.rfl
theorem ok_ct : OKr (mCt ρ) PF ↔ PF .ct ρ := Iff.rfl
theorem ok_st : OKr (mSt ρ) PF ↔ False := Iff.rfl
theorem ok_ret : OKr (mRet fa ρ) PF ↔ OKr (fa ρ) fun s ρ1 => PF (.rt s) ρ1 := by
  unfold mRet
  simp only [ok_then, ok_ok]
theorem ok_retN : OKr (mRetN ρ) PF ↔ PF (.rt (.d .non)) ρ := Iff.rfl
theorem ok_ifS : OKr (mIfS ft F G ρ) PF ↔ OKr (ft ρ) fun b ρ1 => (b = true → OKr (F ρ1) PF) ∧ (¬b = true → OKr (G ρ1) PF) := by
  unfold mIfS
  simp only [ok_then, ok_ite]
theorem ok_drop : OKr (mDrop fa ρ) PF ↔ OKr (fa ρ) fun _ ρ1 => PF .nx ρ1 := by
  unfold mDrop
  simp only [ok_then, ok_ok]
theorem ok_asg {g : D → M Unit} : OKr (mAsg fa g ρ) PF ↔ OKr (dv fa ρ) fun x ρ1 => OKr (g x ρ1) fun _ ρ2 => PF .nx ρ2 := by
  unfold mAsg
  simp only [ok_then, ok_ok]
theorem ok_gname {i : Nat} {x : D} : OKr (gmName i x ρ) PU ↔ PU () (ρ.set i (some (.d x))) := Iff.rfl
theorem ok_call {f : Fn} : OKr (mCall f fA ρ) P ↔ OKr (fA ρ) fun ds ρ1 => OKFr (f (ds.map .d)) fun s => bare s = true ∧ P s ρ1 := by
  unfold mCall
  rw [ok_then]
  refine ⟨fun h => h.imp fun ds ρ1 h => ?_, fun h => h.imp fun ds ρ1 h => ?_⟩
  · cases e : f (ds.map .d) with
    | stuck => rw [e] at h; exact h.elim
    | err _ _ => rw [e] at h; exact h.elim
    | ok s ρ' =>
      rw [e] at h
      dsimp only at h
      rw [ok_ite] at h
      by_cases hb : bare s = true
      · exact ⟨hb, h.1 hb⟩
      · exact (h.2 hb).elim
  · obtain ⟨s, ρ', e, hb, k⟩ := h.at
    rw [e]
    dsimp only
    rw [if_pos hb]
    exact k
theorem okF_runF {np nN : Nat} {body : M Fl} {args : List S} {K : S → Prop} : OKFr (runF np nN body args) K ↔ args.length = np ∧ OKr (body (args.map some ++ List.replicate (nN - np) none)) fun f _ => (∃ s, f = .rt s ∧ K s) ∨ (f = .nx ∧ K (.d .non)) := by
  unfold OKFr runF
  by_cases ha : args.length = np
  · rw [if_pos ha]
    cases e : body (args.map some ++ List.replicate (nN - np) none) with
    | stuck => exact ⟨fun h => h.elim, fun h => h.2.elim⟩
    | err _ _ => exact ⟨fun h => h.elim, fun h => h.2.elim⟩
    | ok f ρ' =>
      cases f with
      | rt s => exact ⟨fun h => ⟨ha, .inl ⟨s, rfl, h⟩⟩, fun h => by
          rcases h.2 with ⟨t, e, k⟩ | ⟨e, k⟩
          · cases e; exact k
          · cases e⟩
      | nx => exact ⟨fun h => ⟨ha, .inr ⟨rfl, h⟩⟩, fun h => by
          rcases h.2 with ⟨t, e, k⟩ | ⟨e, k⟩
          · cases e
          · exact k⟩
      | bk => exact ⟨fun h => h.elim, fun h => by
          rcases h.2 with ⟨t, e, k⟩ | ⟨e, k⟩ <;> cases e⟩
      | ct => exact ⟨fun h => h.elim, fun h => by
          rcases h.2 with ⟨t, e, k⟩ | ⟨e, k⟩ <;> cases e⟩
  · rw [if_neg ha]
    exact ⟨fun h => h.elim, fun h => absurd h.1 ha⟩
theorem ok_runF {np nN : Nat} {body : M Fl} {args : List S} {K : S → En → Prop} (ha : args.length = np) (h : OKr (body (args.map some ++ List.replicate (nN - np) none)) fun f ρ => (∃ s, f = .rt s ∧ K s ρ) ∨ (f = .nx ∧ K (.d .non) ρ)) : OKr (runF np nN body args) K := by
  unfold runF
  rw [if_pos ha]
  obtain ⟨f, ρ', e, h⟩ := h.at
  rw [e]
  rcases h with ⟨t, rfl, k⟩ | ⟨rfl, k⟩
  · exact k
  · exact k
theorem rt_or {s : S} {K : S → Prop} : ((∃ t, Fl.rt s = .rt t ∧ K t) ∨ (Fl.rt s = .nx ∧ K (.d .non))) ↔ K s := by
  constructor
  · rintro (⟨t, e, k⟩ | ⟨e, _⟩)
    · cases e; exact k
    · cases e
  · exact fun h => .inl ⟨s, rfl, h⟩
theorem nx_or {K : S → Prop} : ((∃ t, Fl.nx = .rt t ∧ K t) ∨ (Fl.nx = .nx ∧ K (.d .non))) ↔ K (.d .non) := by
  constructor
  · rintro (⟨t, e, k⟩ | ⟨_, k⟩)
    · cases e
    · exact k
  · exact fun h => .inr ⟨rfl, h⟩
theorem okF_runL {np nN : Nat} {fe : M S} {args : List S} {K : S → Prop} : OKFr (runL np nN fe args) K ↔ args.length = np ∧ OKr (fe (args.map some ++ List.replicate (nN - np) none)) fun s _ => K s := by
  unfold OKFr runL
  by_cases ha : args.length = np
  · rw [if_pos ha]
    exact ⟨fun h => ⟨ha, h⟩, fun h => h.2⟩
  · rw [if_neg ha]
    exact ⟨fun h => h.elim, fun h => absurd h.1 ha⟩
/-! loops by what they keep -/
theorem ok_loop {gm : D → M Unit} {F : M Fl} {I : Nat → En → Prop} {PF : Fl → En → Prop} : ∀ {items : List D} {k : Nat} {ρ : En}, I k ρ →
    (∀ i x ρ, items[i]? = some x → I (k + i) ρ → OKr (gm x ρ) fun _ ρ1 => OKr (F ρ1) fun f ρ2 => (f = .nx ∨ f = .ct → I (k + i + 1) ρ2) ∧ (f = .bk → PF .nx ρ2) ∧ ∀ s, f = .rt s → PF (.rt s) ρ2) →
    (∀ ρ, I (k + items.length) ρ → PF .nx ρ) → OKr (mLoop gm F items ρ) PF
  | [], k, ρ, h, _, e => e ρ h
  | x :: xs, k, ρ, h, st, e => by
    show OKr ((gm x ρ).then fun _ ρ1 => (F ρ1).then fun f ρ2 => _) PF
    rw [ok_then]
    refine (st 0 x ρ rfl h).imp fun _ ρ1 h1 => ?_
    rw [ok_then]
    refine h1.imp fun f ρ2 ⟨a, b, d⟩ => ?_
    have st' : ∀ i y ρ, xs[i]? = some y → I (k + 1 + i) ρ → OKr (gm y ρ) fun _ ρ1 => OKr (F ρ1) fun f ρ2 => (f = .nx ∨ f = .ct → I (k + 1 + i + 1) ρ2) ∧ (f = .bk → PF .nx ρ2) ∧ ∀ s, f = .rt s → PF (.rt s) ρ2 := fun i y ρ hy hi => by
      have := st (i + 1) y ρ (by simpa using hy) (by rw [show k + (i + 1) = k + 1 + i by omega]; exact hi)
      rw [show k + (i + 1) + 1 = k + 1 + i + 1 by omega] at this
      exact this
    have e' : ∀ ρ, I (k + 1 + xs.length) ρ → PF .nx ρ := fun ρ h => e ρ (by rw [List.length_cons, show k + (xs.length + 1) = k + 1 + xs.length by omega]; exact h)
    cases f with
    | nx => exact ok_loop (k := k + 1) (a (.inl rfl)) st' e'
    | ct => exact ok_loop (k := k + 1) (a (.inr rfl)) st' e'
    | bk => exact b rfl
    | rt s => exact d s rfl
theorem ok_for {fI : M (List D)} {gm : D → M Unit} {F : M Fl} {PF : Fl → En → Prop} : OKr (mFor fI gm F ρ) PF ↔ OKr (fI ρ) fun items ρ1 => OKr (mLoop gm F items ρ1) PF := by
  unfold mFor
  rw [ok_then]
theorem ok_comp {gm : D → M Unit} {ft : M Bool} {fe : M S} {own : List Nat} {I : Nat → List D → En → Prop} {PL : List D → En → Prop} : ∀ {items : List D} {k : Nat} {acc : List D} {ρ : En}, I k acc ρ →
    (∀ i x acc ρ, items[i]? = some x → I (k + i) acc ρ → OKr (gm x ρ) fun _ ρ1 => OKr (ft ρ1) fun b ρ2 => (b = true → OKr (dv fe ρ2) fun y ρ3 => small (acc.length + 1) = true ∧ I (k + i + 1) (acc ++ [y]) (wipeE ρ3 own)) ∧ (¬b = true → I (k + i + 1) acc (wipeE ρ2 own))) →
    (∀ acc ρ, I (k + items.length) acc ρ → PL acc ρ) → OKr (mComp gm ft fe own items acc ρ) PL
  | [], k, acc, ρ, h, _, e => e acc ρ h
  | x :: xs, k, acc, ρ, h, st, e => by
    show OKr ((gm x ρ).calm.then fun _ ρ1 => (ft ρ1).calm.then fun b ρ2 => _) PL
    rw [ok_then, ok_calm]
    refine (st 0 x acc ρ rfl h).imp fun _ ρ1 h1 => ?_
    rw [ok_then, ok_calm]
    have st' : ∀ i y acc ρ, xs[i]? = some y → I (k + 1 + i) acc ρ → OKr (gm y ρ) fun _ ρ1 => OKr (ft ρ1) fun b ρ2 => (b = true → OKr (dv fe ρ2) fun y ρ3 => small (acc.length + 1) = true ∧ I (k + 1 + i + 1) (acc ++ [y]) (wipeE ρ3 own)) ∧ (¬b = true → I (k + 1 + i + 1) acc (wipeE ρ2 own)) := fun i y acc ρ hy hi => by
      have := st (i + 1) y acc ρ (by simpa using hy) (by rw [show k + (i + 1) = k + 1 + i by omega]; exact hi)
      rw [show k + (i + 1) + 1 = k + 1 + i + 1 by omega] at this
      exact this
    have e' : ∀ acc ρ, I (k + 1 + xs.length) acc ρ → PL acc ρ := fun acc ρ h => e acc ρ (by rw [List.length_cons, show k + (xs.length + 1) = k + 1 + xs.length by omega]; exact h)
    refine h1.imp fun b ρ2 ⟨a, d⟩ => ?_
    by_cases hb : b = true
    · rw [if_pos hb, ok_then, ok_calm]
      refine (a hb).imp fun y ρ3 ⟨hz, h⟩ => ?_
      rw [if_pos hz]
      exact ok_comp (k := k + 1) h st' e'
    · rw [if_neg hb]
      exact ok_comp (k := k + 1) (d hb) st' e'
theorem ok_lc {fI : M (List D)} {gm : D → M Unit} {ft : M Bool} {fe : M S} {own : List Nat} : OKr (mLc fI gm ft fe own ρ) P ↔ OKr (fI ρ) fun items ρ1 => OKr (mComp gm ft fe own items [] (wipeE ρ1 own)) fun ds ρ2 => P (.o none (.lst ds)) ρ2 := by
  unfold mLc
  simp only [ok_then, ok_ok]
theorem ok_tup : OKr (mTup fA ρ) P ↔ OKr (fA ρ) fun ds ρ1 => small ds.length = true ∧ P (.d (.tup ds)) ρ1 := by
  unfold mTup
  rw [ok_then]
  refine ⟨fun h => h.imp fun ds ρ1 h => ?_, fun h => h.imp fun ds ρ1 h => ?_⟩
  · by_cases hz : small ds.length = true
    · rw [if_pos hz] at h
      exact ⟨hz, h⟩
    · rw [if_neg hz] at h
      exact h.elim
  · rw [if_pos h.1]
    exact h.2
end
end R
/-- the run goes well and gives what P tells -/
@[irreducible] def OK {α : Type} (m : Out α) (P : α → En → Prop) : Prop := R.OKr m P
@[irreducible] def OKF (o : Out S) (K : S → Prop) : Prop := R.OKFr o K
theorem ok_eq : @OK = @R.OKr := by
  funext α m P
  unfold OK
  rfl
theorem okF_eq : @OKF = @R.OKFr := by
  funext o K
  unfold OKF
  rfl
theorem ok_of {α : Type} {m : Out α} {P : α → En → Prop} (h : R.OKr m P) : OK m P := by
  rw [ok_eq]
  exact h
theorem ok_out {α : Type} {m : Out α} {P : α → En → Prop} (h : OK m P) : R.OKr m P := by
  rw [ok_eq] at h
  exact h
section
variable {α β : Type} {P Q : α → En → Prop}
theorem ok_ok {a : α} {ρ : En} : OK (.ok a ρ) P ↔ P a ρ := by
  first | exact R.ok_ok | skip
  all_goals (try simp only [okF_eq, ok_eq] at *)
  all_goals first | exact R.ok_ok | exact R.ok_ok (by assumption) | exact R.ok_ok (by assumption) (by assumption) | exact R.ok_ok (by assumption) (by assumption) (by assumption) | apply R.ok_ok <;> assumption
theorem ok_stuck : OK (.stuck : Out α) P ↔ False := by
  first | exact R.ok_stuck | skip
  all_goals (try simp only [okF_eq, ok_eq] at *)
  all_goals first | exact R.ok_stuck | exact R.ok_stuck (by assumption) | exact R.ok_stuck (by assumption) (by assumption) | exact R.ok_stuck (by assumption) (by assumption) (by assumption) | apply R.ok_stuck <;> assumption
theorem ok_then {m : Out α} {f : α → En → Out β} {P : β → En → Prop} : OK (m.then f) P ↔ OK m fun a ρ => OK (f a ρ) P := by
  first | exact R.ok_then | skip
  all_goals (try simp only [okF_eq, ok_eq] at *)
  all_goals first | exact R.ok_then | exact R.ok_then (by assumption) | exact R.ok_then (by assumption) (by assumption) | exact R.ok_then (by assumption) (by assumption) (by assumption) | apply R.ok_then <;> assumption
theorem ok_ite {c : Prop} [Decidable c] {a b : Out α} : OK (if c then a else b) P ↔ (c → OK a P) ∧ (¬c → OK b P) := by
  first | exact R.ok_ite | skip
  all_goals (try simp only [okF_eq, ok_eq] at *)
  all_goals first | exact R.ok_ite | exact R.ok_ite (by assumption) | exact R.ok_ite (by assumption) (by assumption) | exact R.ok_ite (by assumption) (by assumption) (by assumption) | apply R.ok_ite <;> assumption
theorem OK.imp {m : Out α} (h : OK m P) (k : ∀ a ρ, P a ρ → Q a ρ) : OK m Q := by
  first | exact R.OKr.imp | skip
  all_goals (try simp only [okF_eq, ok_eq] at *)
  all_goals first | exact R.OKr.imp | exact R.OKr.imp (by assumption) | exact R.OKr.imp (by assumption) (by assumption) | exact R.OKr.imp (by assumption) (by assumption) (by assumption) | apply R.OKr.imp <;> assumption
theorem OK.at {m : Out α} (h : OK m P) : ∃ a ρ, m = .ok a ρ ∧ P a ρ := by
  first | exact R.OKr.at | skip
  all_goals (try simp only [okF_eq, ok_eq] at *)
  all_goals first | exact R.OKr.at | exact R.OKr.at (by assumption) | exact R.OKr.at (by assumption) (by assumption) | exact R.OKr.at (by assumption) (by assumption) (by assumption) | apply R.OKr.at <;> assumption
theorem ok_calm {m : Out α} : OK m.calm P ↔ OK m P := by
  first | exact R.ok_calm | skip
  all_goals (try simp only [okF_eq, ok_eq] at *)
  all_goals first | exact R.ok_calm | exact R.ok_calm (by assumption) | exact R.ok_calm (by assumption) (by assumption) | exact R.ok_calm (by assumption) (by assumption) (by assumption) | apply R.ok_calm <;> assumption
theorem OKF.imp {o : Out S} {K K' : S → Prop} (h : OKF o K) (k : ∀ s, K s → K' s) : OKF o K' := by
  first | exact R.OKFr.imp | skip
  all_goals (try simp only [okF_eq, ok_eq] at *)
  all_goals first | exact R.OKFr.imp | exact R.OKFr.imp (by assumption) | exact R.OKFr.imp (by assumption) (by assumption) | exact R.OKFr.imp (by assumption) (by assumption) (by assumption) | apply R.OKFr.imp <;> assumption
end
section
variable {ρ : En} {P : S → En → Prop} {PB : Bool → En → Prop} {PA : List D → En → Prop} {PF : Fl → En → Prop} {PU : Unit → En → Prop} {fa fb fe : M S} {fA : M (List D)} {ft fu : M Bool} {F G : M Fl}
theorem ok_dv {f : M S} {K : D → En → Prop} : OK (dv f ρ) K ↔ OK (f ρ) fun s ρ' => ∃ x, toD s = some x ∧ K x ρ' := by
  first | exact R.ok_dv | skip
  all_goals (try simp only [okF_eq, ok_eq] at *)
  all_goals first | exact R.ok_dv | exact R.ok_dv (by assumption) | exact R.ok_dv (by assumption) (by assumption) | exact R.ok_dv (by assumption) (by assumption) (by assumption) | apply R.ok_dv <;> assumption
theorem ex_toD {x : D} {K : D → Prop} : (∃ y, toD (.d x) = some y ∧ K y) ↔ K x := by
  first | exact R.ex_toD | skip
  all_goals (try simp only [okF_eq, ok_eq] at *)
  all_goals first | exact R.ex_toD | exact R.ex_toD (by assumption) | exact R.ex_toD (by assumption) (by assumption) | exact R.ex_toD (by assumption) (by assumption) (by assumption) | apply R.ex_toD <;> assumption
theorem ex_toL {ds : List D} {K : D → Prop} : (∃ y, toD (.o none (.lst ds)) = some y ∧ K y) ↔ K (.lst ds) := by
  first | exact R.ex_toL | skip
  all_goals (try simp only [okF_eq, ok_eq] at *)
  all_goals first | exact R.ex_toL | exact R.ex_toL (by assumption) | exact R.ex_toL (by assumption) (by assumption) | exact R.ex_toL (by assumption) (by assumption) (by assumption) | apply R.ex_toL <;> assumption
theorem ok_c {x : D} : OK (mC x ρ) P ↔ P (.d x) ρ := by
  first | exact R.ok_c | skip
  all_goals (try simp only [okF_eq, ok_eq] at *)
  all_goals first | exact R.ok_c | exact R.ok_c (by assumption) | exact R.ok_c (by assumption) (by assumption) | exact R.ok_c (by assumption) (by assumption) (by assumption) | apply R.ok_c <;> assumption
theorem ok_var {i : Nat} : OK (mVar i ρ) P ↔ OK (mVar i ρ) P := by
  first | exact R.ok_var | skip
  all_goals (try simp only [okF_eq, ok_eq] at *)
  all_goals first | exact R.ok_var | exact R.ok_var (by assumption) | exact R.ok_var (by assumption) (by assumption) | exact R.ok_var (by assumption) (by assumption) (by assumption) | apply R.ok_var <;> assumption
theorem ok_varD {i : Nat} {x : D} (e : ρ[i]? = some (some (.d x))) : OK (mVar i ρ) P ↔ P (.d x) ρ := by
  first | exact R.ok_varD | skip
  all_goals (try simp only [okF_eq, ok_eq] at *)
  all_goals first | exact R.ok_varD | exact R.ok_varD (by assumption) | exact R.ok_varD (by assumption) (by assumption) | exact R.ok_varD (by assumption) (by assumption) (by assumption) | apply R.ok_varD <;> assumption
theorem ok_op {g : D → D → Option S} : OK (mOp g fa fb ρ) P ↔ OK (dv fa ρ) fun x ρ1 => OK (dv fb ρ1) fun y ρ2 => ∃ s, g x y = some s ∧ P s ρ2 := by
  first | exact R.ok_op | skip
  all_goals (try simp only [okF_eq, ok_eq] at *)
  all_goals first | exact R.ok_op | exact R.ok_op (by assumption) | exact R.ok_op (by assumption) (by assumption) | exact R.ok_op (by assumption) (by assumption) (by assumption) | apply R.ok_op <;> assumption
theorem ok_un {g : D → Option S} : OK (mUn g fa ρ) P ↔ OK (dv fa ρ) fun x ρ1 => ∃ s, g x = some s ∧ P s ρ1 := by
  first | exact R.ok_un | skip
  all_goals (try simp only [okF_eq, ok_eq] at *)
  all_goals first | exact R.ok_un | exact R.ok_un (by assumption) | exact R.ok_un (by assumption) (by assumption) | exact R.ok_un (by assumption) (by assumption) (by assumption) | apply R.ok_un <;> assumption
theorem ok_nil : OK (aNil ρ) PA ↔ PA [] ρ := by
  first | exact R.ok_nil | skip
  all_goals (try simp only [okF_eq, ok_eq] at *)
  all_goals first | exact R.ok_nil | exact R.ok_nil (by assumption) | exact R.ok_nil (by assumption) (by assumption) | exact R.ok_nil (by assumption) (by assumption) (by assumption) | apply R.ok_nil <;> assumption
theorem ok_cons {fr : M (List D)} : OK (aCons fa fr ρ) PA ↔ OK (dv fa ρ) fun x ρ1 => OK (fr ρ1) fun ds ρ2 => PA (x :: ds) ρ2 := by
  first | exact R.ok_cons | skip
  all_goals (try simp only [okF_eq, ok_eq] at *)
  all_goals first | exact R.ok_cons | exact R.ok_cons (by assumption) | exact R.ok_cons (by assumption) (by assumption) | exact R.ok_cons (by assumption) (by assumption) (by assumption) | apply R.ok_cons <;> assumption
theorem ok_cb {g : List D → Option S} : OK (mCB g fA ρ) P ↔ OK (fA ρ) fun ds ρ1 => ∃ s, g ds = some s ∧ P s ρ1 := by
  first | exact R.ok_cb | skip
  all_goals (try simp only [okF_eq, ok_eq] at *)
  all_goals first | exact R.ok_cb | exact R.ok_cb (by assumption) | exact R.ok_cb (by assumption) (by assumption) | exact R.ok_cb (by assumption) (by assumption) (by assumption) | apply R.ok_cb <;> assumption
theorem ok_test : OK (mTest fa ρ) PB ↔ OK (dv fa ρ) fun x ρ1 => ∃ b, x = .bl b ∧ PB b ρ1 := by
  first | exact R.ok_test | skip
  all_goals (try simp only [okF_eq, ok_eq] at *)
  all_goals first | exact R.ok_test | exact R.ok_test (by assumption) | exact R.ok_test (by assumption) (by assumption) | exact R.ok_test (by assumption) (by assumption) (by assumption) | apply R.ok_test <;> assumption
theorem ex_bl {b : Bool} {K : Bool → Prop} : (∃ c, D.bl b = D.bl c ∧ K c) ↔ K b := by
  first | exact R.ex_bl | skip
  all_goals (try simp only [okF_eq, ok_eq] at *)
  all_goals first | exact R.ex_bl | exact R.ex_bl (by assumption) | exact R.ex_bl (by assumption) (by assumption) | exact R.ex_bl (by assumption) (by assumption) (by assumption) | apply R.ex_bl <;> assumption
theorem ok_not : OK (mNot ft ρ) PB ↔ OK (ft ρ) fun b ρ1 => PB (!b) ρ1 := by
  first | exact R.ok_not | skip
  all_goals (try simp only [okF_eq, ok_eq] at *)
  all_goals first | exact R.ok_not | exact R.ok_not (by assumption) | exact R.ok_not (by assumption) (by assumption) | exact R.ok_not (by assumption) (by assumption) (by assumption) | apply R.ok_not <;> assumption
theorem ok_and : OK (mAnd ft fu ρ) PB ↔ OK (ft ρ) fun b ρ1 => (b = true → OK (fu ρ1) PB) ∧ (¬b = true → PB false ρ1) := by
  first | exact R.ok_and | skip
  all_goals (try simp only [okF_eq, ok_eq] at *)
  all_goals first | exact R.ok_and | exact R.ok_and (by assumption) | exact R.ok_and (by assumption) (by assumption) | exact R.ok_and (by assumption) (by assumption) (by assumption) | apply R.ok_and <;> assumption
theorem ok_or : OK (mOr ft fu ρ) PB ↔ OK (ft ρ) fun b ρ1 => (b = true → PB true ρ1) ∧ (¬b = true → OK (fu ρ1) PB) := by
  first | exact R.ok_or | skip
  all_goals (try simp only [okF_eq, ok_eq] at *)
  all_goals first | exact R.ok_or | exact R.ok_or (by assumption) | exact R.ok_or (by assumption) (by assumption) | exact R.ok_or (by assumption) (by assumption) (by assumption) | apply R.ok_or <;> assumption
theorem ok_andV : OK (mAndV fa fb ρ) P ↔ OK (mTest fa ρ) fun b ρ1 => (b = true → OK (fb ρ1) P) ∧ (¬b = true → P (.d (.bl false)) ρ1) := by
  first | exact R.ok_andV | skip
  all_goals (try simp only [okF_eq, ok_eq] at *)
  all_goals first | exact R.ok_andV | exact R.ok_andV (by assumption) | exact R.ok_andV (by assumption) (by assumption) | exact R.ok_andV (by assumption) (by assumption) (by assumption) | apply R.ok_andV <;> assumption
theorem ok_orV : OK (mOrV fa fb ρ) P ↔ OK (mTest fa ρ) fun b ρ1 => (b = true → P (.d (.bl true)) ρ1) ∧ (¬b = true → OK (fb ρ1) P) := by
  first | exact R.ok_orV | skip
  all_goals (try simp only [okF_eq, ok_eq] at *)
  all_goals first | exact R.ok_orV | exact R.ok_orV (by assumption) | exact R.ok_orV (by assumption) (by assumption) | exact R.ok_orV (by assumption) (by assumption) (by assumption) | apply R.ok_orV <;> assumption
theorem ok_notV : OK (mNotV fa ρ) P ↔ OK (mTest fa ρ) fun b ρ1 => P (.d (.bl (!b))) ρ1 := by
  first | exact R.ok_notV | skip
  all_goals (try simp only [okF_eq, ok_eq] at *)
  all_goals first | exact R.ok_notV | exact R.ok_notV (by assumption) | exact R.ok_notV (by assumption) (by assumption) | exact R.ok_notV (by assumption) (by assumption) (by assumption) | apply R.ok_notV <;> assumption
theorem ok_if : OK (mIf ft fa fb ρ) P ↔ OK (ft ρ) fun b ρ1 => (b = true → OK (fa ρ1) P) ∧ (¬b = true → OK (fb ρ1) P) := by
  first | exact R.ok_if | skip
  all_goals (try simp only [okF_eq, ok_eq] at *)
  all_goals first | exact R.ok_if | exact R.ok_if (by assumption) | exact R.ok_if (by assumption) (by assumption) | exact R.ok_if (by assumption) (by assumption) (by assumption) | apply R.ok_if <;> assumption
theorem ok_yes : OK (mYes ρ) PB ↔ PB true ρ := by
  first | exact R.ok_yes | skip
  all_goals (try simp only [okF_eq, ok_eq] at *)
  all_goals first | exact R.ok_yes | exact R.ok_yes (by assumption) | exact R.ok_yes (by assumption) (by assumption) | exact R.ok_yes (by assumption) (by assumption) (by assumption) | apply R.ok_yes <;> assumption
/-! statements -/
theorem ok_seq : OK (mSeq F G ρ) PF ↔ OK (F ρ) fun f ρ1 => (f = .nx → OK (G ρ1) PF) ∧ (f ≠ .nx → PF f ρ1) := by
  first | exact R.ok_seq | skip
  all_goals (try simp only [okF_eq, ok_eq] at *)
  all_goals first | exact R.ok_seq | exact R.ok_seq (by assumption) | exact R.ok_seq (by assumption) (by assumption) | exact R.ok_seq (by assumption) (by assumption) (by assumption) | apply R.ok_seq <;> assumption
theorem fl_nx {A : Prop} {B : Prop} : ((Fl.nx = Fl.nx → A) ∧ (Fl.nx ≠ Fl.nx → B)) ↔ A := by
  first | exact R.fl_nx | skip
  all_goals (try simp only [okF_eq, ok_eq] at *)
  all_goals first | exact R.fl_nx | exact R.fl_nx (by assumption) | exact R.fl_nx (by assumption) (by assumption) | exact R.fl_nx (by assumption) (by assumption) (by assumption) | apply R.fl_nx <;> assumption
theorem fl_rt {s : S} {A : Prop} {B : Prop} : ((Fl.rt s = Fl.nx → A) ∧ (Fl.rt s ≠ Fl.nx → B)) ↔ B := by
  first | exact R.fl_rt | skip
  all_goals (try simp only [okF_eq, ok_eq] at *)
  all_goals first | exact R.fl_rt | exact R.fl_rt (by assumption) | exact R.fl_rt (by assumption) (by assumption) | exact R.fl_rt (by assumption) (by assumption) (by assumption) | apply R.fl_rt <;> assumption
theorem fl_bk {A : Prop} {B : Prop} : ((Fl.bk = Fl.nx → A) ∧ (Fl.bk ≠ Fl.nx → B)) ↔ B := by
  first | exact R.fl_bk | skip
  all_goals (try simp only [okF_eq, ok_eq] at *)
  all_goals first | exact R.fl_bk | exact R.fl_bk (by assumption) | exact R.fl_bk (by assumption) (by assumption) | exact R.fl_bk (by assumption) (by assumption) (by assumption) | apply R.fl_bk <;> assumption
theorem fl_ct {A : Prop} {B : Prop} : ((Fl.ct = Fl.nx → A) ∧ (Fl.ct ≠ Fl.nx → B)) ↔ B := by
  first | exact R.fl_ct | skip
  all_goals (try simp only [okF_eq, ok_eq] at *)
  all_goals first | exact R.fl_ct | exact R.fl_ct (by assumption) | exact R.fl_ct (by assumption) (by assumption) | exact R.fl_ct (by assumption) (by assumption) (by assumption) | apply R.fl_ct <;> assumption
theorem ok_nx : OK (mNx ρ) PF ↔ PF .nx ρ := by
  first | exact R.ok_nx | skip
  all_goals (try simp only [okF_eq, ok_eq] at *)
  all_goals first | exact R.ok_nx | exact R.ok_nx (by assumption) | exact R.ok_nx (by assumption) (by assumption) | exact R.ok_nx (by assumption) (by assumption) (by assumption) | apply R.ok_nx <;> assumption
theorem ok_bk : OK (mBk ρ) PF ↔ PF .bk ρ := by
  first | exact R.ok_bk | skip
  all_goals (try simp only [okF_eq, ok_eq] at *)
  all_goals first | exact R.ok_bk | exact R.ok_bk (by assumption) | exact R.ok_bk (by assumption) (by assumption) | exact R.ok_bk (by assumption) (by assumption) (by assumption) | apply R.ok_bk <;> assumption
theorem ok_ct : OK (mCt ρ) PF ↔ PF .ct ρ := by
  first | exact R.ok_ct | skip
  all_goals (try simp only [okF_eq, ok_eq] at *)
  all_goals first | exact R.ok_ct | exact R.ok_ct (by assumption) | exact R.ok_ct (by assumption) (by assumption) | exact R.ok_ct (by assumption) (by assumption) (by assumption) | apply R.ok_ct <;> assumption
theorem ok_st : OK (mSt ρ) PF ↔ False := by
  first | exact R.ok_st | skip
  all_goals (try simp only [okF_eq, ok_eq] at *)
  all_goals first | exact R.ok_st | exact R.ok_st (by assumption) | exact R.ok_st (by assumption) (by assumption) | exact R.ok_st (by assumption) (by assumption) (by assumption) | apply R.ok_st <;> assumption
theorem ok_ret : OK (mRet fa ρ) PF ↔ OK (fa ρ) fun s ρ1 => PF (.rt s) ρ1 := by
  first | exact R.ok_ret | skip
  all_goals (try simp only [okF_eq, ok_eq] at *)
  all_goals first | exact R.ok_ret | exact R.ok_ret (by assumption) | exact R.ok_ret (by assumption) (by assumption) | exact R.ok_ret (by assumption) (by assumption) (by assumption) | apply R.ok_ret <;> assumption
theorem ok_retN : OK (mRetN ρ) PF ↔ PF (.rt (.d .non)) ρ := by
  first | exact R.ok_retN | skip
  all_goals (try simp only [okF_eq, ok_eq] at *)
  all_goals first | exact R.ok_retN | exact R.ok_retN (by assumption) | exact R.ok_retN (by assumption) (by assumption) | exact R.ok_retN (by assumption) (by assumption) (by assumption) | apply R.ok_retN <;> assumption
theorem ok_ifS : OK (mIfS ft F G ρ) PF ↔ OK (ft ρ) fun b ρ1 => (b = true → OK (F ρ1) PF) ∧ (¬b = true → OK (G ρ1) PF) := by
  first | exact R.ok_ifS | skip
  all_goals (try simp only [okF_eq, ok_eq] at *)
  all_goals first | exact R.ok_ifS | exact R.ok_ifS (by assumption) | exact R.ok_ifS (by assumption) (by assumption) | exact R.ok_ifS (by assumption) (by assumption) (by assumption) | apply R.ok_ifS <;> assumption
theorem ok_drop : OK (mDrop fa ρ) PF ↔ OK (fa ρ) fun _ ρ1 => PF .nx ρ1 := by
  first | exact R.ok_drop | skip
  all_goals (try simp only [okF_eq, ok_eq] at *)
  all_goals first | exact R.ok_drop | exact R.ok_drop (by assumption) | exact R.ok_drop (by assumption) (by assumption) | exact R.ok_drop (by assumption) (by assumption) (by assumption) | apply R.ok_drop <;> assumption
theorem ok_asg {g : D → M Unit} : OK (mAsg fa g ρ) PF ↔ OK (dv fa ρ) fun x ρ1 => OK (g x ρ1) fun _ ρ2 => PF .nx ρ2 := by
  first | exact R.ok_asg | skip
  all_goals (try simp only [okF_eq, ok_eq] at *)
  all_goals first | exact R.ok_asg | exact R.ok_asg (by assumption) | exact R.ok_asg (by assumption) (by assumption) | exact R.ok_asg (by assumption) (by assumption) (by assumption) | apply R.ok_asg <;> assumption
theorem ok_gname {i : Nat} {x : D} : OK (gmName i x ρ) PU ↔ PU () (ρ.set i (some (.d x))) := by
  first | exact R.ok_gname | skip
  all_goals (try simp only [okF_eq, ok_eq] at *)
  all_goals first | exact R.ok_gname | exact R.ok_gname (by assumption) | exact R.ok_gname (by assumption) (by assumption) | exact R.ok_gname (by assumption) (by assumption) (by assumption) | apply R.ok_gname <;> assumption
theorem ok_call {f : Fn} : OK (mCall f fA ρ) P ↔ OK (fA ρ) fun ds ρ1 => OKF (f (ds.map .d)) fun s => bare s = true ∧ P s ρ1 := by
  first | exact R.ok_call | skip
  all_goals (try simp only [okF_eq, ok_eq] at *)
  all_goals first | exact R.ok_call | exact R.ok_call (by assumption) | exact R.ok_call (by assumption) (by assumption) | exact R.ok_call (by assumption) (by assumption) (by assumption) | apply R.ok_call <;> assumption
theorem okF_runF {np nN : Nat} {body : M Fl} {args : List S} {K : S → Prop} : OKF (runF np nN body args) K ↔ args.length = np ∧ OK (body (args.map some ++ List.replicate (nN - np) none)) fun f _ => (∃ s, f = .rt s ∧ K s) ∨ (f = .nx ∧ K (.d .non)) := by
  first | exact R.okF_runF | skip
  all_goals (try simp only [okF_eq, ok_eq] at *)
  all_goals first | exact R.okF_runF | exact R.okF_runF (by assumption) | exact R.okF_runF (by assumption) (by assumption) | exact R.okF_runF (by assumption) (by assumption) (by assumption) | apply R.okF_runF <;> assumption
theorem ok_runF {np nN : Nat} {body : M Fl} {args : List S} {K : S → En → Prop} (ha : args.length = np) (h : OK (body (args.map some ++ List.replicate (nN - np) none)) fun f ρ => (∃ s, f = .rt s ∧ K s ρ) ∨ (f = .nx ∧ K (.d .non) ρ)) : OK (runF np nN body args) K := by
  first | exact R.ok_runF | skip
  all_goals (try simp only [okF_eq, ok_eq] at *)
  all_goals first | exact R.ok_runF | exact R.ok_runF (by assumption) | exact R.ok_runF (by assumption) (by assumption) | exact R.ok_runF (by assumption) (by assumption) (by assumption) | apply R.ok_runF <;> assumption
theorem rt_or {s : S} {K : S → Prop} : ((∃ t, Fl.rt s = .rt t ∧ K t) ∨ (Fl.rt s = .nx ∧ K (.d .non))) ↔ K s := by
  first | exact R.rt_or | skip
  all_goals (try simp only [okF_eq, ok_eq] at *)
  all_goals first | exact R.rt_or | exact R.rt_or (by assumption) | exact R.rt_or (by assumption) (by assumption) | exact R.rt_or (by assumption) (by assumption) (by assumption) | apply R.rt_or <;> assumption
theorem nx_or {K : S → Prop} : ((∃ t, Fl.nx = .rt t ∧ K t) ∨ (Fl.nx = .nx ∧ K (.d .non))) ↔ K (.d .non) := by
  first | exact R.nx_or | skip
  all_goals (try simp only [okF_eq, ok_eq] at *)
  all_goals first | exact R.nx_or | exact R.nx_or (by assumption) | exact R.nx_or (by assumption) (by assumption) | exact R.nx_or (by assumption) (by assumption) (by assumption) | apply R.nx_or <;> assumption
theorem okF_runL {np nN : Nat} {fe : M S} {args : List S} {K : S → Prop} : OKF (runL np nN fe args) K ↔ args.length = np ∧ OK (fe (args.map some ++ List.replicate (nN - np) none)) fun s _ => K s := by
  first | exact R.okF_runL | skip
  all_goals (try simp only [okF_eq, ok_eq] at *)
  all_goals first | exact R.okF_runL | exact R.okF_runL (by assumption) | exact R.okF_runL (by assumption) (by assumption) | exact R.okF_runL (by assumption) (by assumption) (by assumption) | apply R.okF_runL <;> assumption
/-! loops by what they keep -/
theorem ok_loop {gm : D → M Unit} {F : M Fl} {I : Nat → En → Prop} {PF : Fl → En → Prop} : ∀ {items : List D} {k : Nat} {ρ : En}, I k ρ →
    (∀ i x ρ, items[i]? = some x → I (k + i) ρ → OK (gm x ρ) fun _ ρ1 => OK (F ρ1) fun f ρ2 => (f = .nx ∨ f = .ct → I (k + i + 1) ρ2) ∧ (f = .bk → PF .nx ρ2) ∧ ∀ s, f = .rt s → PF (.rt s) ρ2) →
    (∀ ρ, I (k + items.length) ρ → PF .nx ρ) → OK (mLoop gm F items ρ) PF := by
  first | exact R.ok_loop | skip
  all_goals (try simp only [okF_eq, ok_eq] at *)
  all_goals first | exact R.ok_loop | exact R.ok_loop (by assumption) | exact R.ok_loop (by assumption) (by assumption) | exact R.ok_loop (by assumption) (by assumption) (by assumption) | apply R.ok_loop <;> assumption
theorem ok_for {fI : M (List D)} {gm : D → M Unit} {F : M Fl} {PF : Fl → En → Prop} : OK (mFor fI gm F ρ) PF ↔ OK (fI ρ) fun items ρ1 => OK (mLoop gm F items ρ1) PF := by
  first | exact R.ok_for | skip
  all_goals (try simp only [okF_eq, ok_eq] at *)
  all_goals first | exact R.ok_for | exact R.ok_for (by assumption) | exact R.ok_for (by assumption) (by assumption) | exact R.ok_for (by assumption) (by assumption) (by assumption) | apply R.ok_for <;> assumption
theorem ok_comp {gm : D → M Unit} {ft : M Bool} {fe : M S} {own : List Nat} {I : Nat → List D → En → Prop} {PL : List D → En → Prop} : ∀ {items : List D} {k : Nat} {acc : List D} {ρ : En}, I k acc ρ →
    (∀ i x acc ρ, items[i]? = some x → I (k + i) acc ρ → OK (gm x ρ) fun _ ρ1 => OK (ft ρ1) fun b ρ2 => (b = true → OK (dv fe ρ2) fun y ρ3 => small (acc.length + 1) = true ∧ I (k + i + 1) (acc ++ [y]) (wipeE ρ3 own)) ∧ (¬b = true → I (k + i + 1) acc (wipeE ρ2 own))) →
    (∀ acc ρ, I (k + items.length) acc ρ → PL acc ρ) → OK (mComp gm ft fe own items acc ρ) PL := by
  first | exact R.ok_comp | skip
  all_goals (try simp only [okF_eq, ok_eq] at *)
  all_goals first | exact R.ok_comp | exact R.ok_comp (by assumption) | exact R.ok_comp (by assumption) (by assumption) | exact R.ok_comp (by assumption) (by assumption) (by assumption) | apply R.ok_comp <;> assumption
theorem ok_lc {fI : M (List D)} {gm : D → M Unit} {ft : M Bool} {fe : M S} {own : List Nat} : OK (mLc fI gm ft fe own ρ) P ↔ OK (fI ρ) fun items ρ1 => OK (mComp gm ft fe own items [] (wipeE ρ1 own)) fun ds ρ2 => P (.o none (.lst ds)) ρ2 := by
  first | exact R.ok_lc | skip
  all_goals (try simp only [okF_eq, ok_eq] at *)
  all_goals first | exact R.ok_lc | exact R.ok_lc (by assumption) | exact R.ok_lc (by assumption) (by assumption) | exact R.ok_lc (by assumption) (by assumption) (by assumption) | apply R.ok_lc <;> assumption
theorem ok_tup : OK (mTup fA ρ) P ↔ OK (fA ρ) fun ds ρ1 => small ds.length = true ∧ P (.d (.tup ds)) ρ1 := by
  first | exact R.ok_tup | skip
  all_goals (try simp only [okF_eq, ok_eq] at *)
  all_goals first | exact R.ok_tup | exact R.ok_tup (by assumption) | exact R.ok_tup (by assumption) (by assumption) | exact R.ok_tup (by assumption) (by assumption) (by assumption) | apply R.ok_tup <;> assumption
end
end Fx
/-! the checks and the draws, on data -/
namespace Fx
open PySem
namespace R
theorem ok_chain {g g' : D → D → Option S} {fa fb fc : M S} {ρ : En} {P : S → En → Prop} : OKr (mChain g g' fa fb fc ρ) P ↔ OKr (dv fa ρ) fun x ρ1 => OKr (dv fb ρ1) fun y ρ2 => ∃ b, g x y = some (.d (.bl b)) ∧ (b = true → OKr (dv fc ρ2) fun z ρ3 => ∃ s, g' y z = some s ∧ P s ρ3) ∧ (¬b = true → P (.d (.bl false)) ρ2) := by
  unfold mChain
  simp only [ok_then]
  constructor
  · exact fun h => h.imp fun x ρ1 h => h.imp fun y ρ2 h => by
      split at h
      · rename_i e
        refine ⟨true, e, fun _ => ?_, fun n => absurd rfl n⟩
        rw [ok_then] at h
        refine h.imp fun z ρ3 h => ?_
        cases e : g' y z with
        | none => rw [e] at h; exact h.elim
        | some s => rw [e] at h; exact ⟨s, rfl, h⟩
      · rename_i e
        exact ⟨false, e, fun n => (by cases n), fun _ => h⟩
      · exact h.elim
  · exact fun h => h.imp fun x ρ1 h => h.imp fun y ρ2 h => by
      obtain ⟨b, e, h1, h2⟩ := h
      rw [e]
      cases b with
      | true =>
        dsimp only
        rw [ok_then]
        refine (h1 rfl).imp fun z ρ3 h => ?_
        obtain ⟨s, e, k⟩ := h
        rw [e]
        exact k
      | false => exact h2 (by decide)
end R
theorem ok_chain {g g' : D → D → Option S} {fa fb fc : M S} {ρ : En} {P : S → En → Prop} : OK (mChain g g' fa fb fc ρ) P ↔ OK (dv fa ρ) fun x ρ1 => OK (dv fb ρ1) fun y ρ2 => ∃ b, g x y = some (.d (.bl b)) ∧ (b = true → OK (dv fc ρ2) fun z ρ3 => ∃ s, g' y z = some s ∧ P s ρ3) ∧ (¬b = true → P (.d (.bl false)) ρ2) := by
  simp only [ok_eq]
  exact R.ok_chain
theorem ex_some {α : Type} {a : α} {K : α → Prop} : (∃ s, some a = some s ∧ K s) ↔ K a := ⟨fun ⟨s, e, k⟩ => by cases e; exact k, fun k => ⟨a, rfl, k⟩⟩
theorem ex_bl1 {b : Bool} {K : Bool → Prop} : (∃ c, some (S.d (.bl b)) = some (S.d (.bl c)) ∧ K c) ↔ K b := ⟨fun ⟨s, e, k⟩ => by cases e; exact k, fun k => ⟨b, rfl, k⟩⟩
section
variable {k : Nat} {fe : M S} {items : List D} {ρ0 : En} {f : D → D} {PL : List D → En → Prop}
/-- a comprehension whose element is told of its item alone -/
theorem ok_map (hw : ρ0.set k none = ρ0) (st : ∀ x ∈ items, OK (dv fe (ρ0.set k (some (.d x)))) fun y ρ3 => y = f x ∧ ρ3.set k none = ρ0) (hs : items.length ≤ 16777216) (q : PL (items.map f) ρ0) : OK (mComp (gmName k) mYes fe [k] items [] ρ0) PL := by
  refine ok_comp (I := fun i acc ρ => acc = (items.take i).map f ∧ ρ = ρ0) (k := 0) ⟨rfl, rfl⟩ ?_ ?_
  · rintro i x acc ρ hx ⟨rfl, rfl⟩
    have hi : i < items.length := (List.getElem?_eq_some_iff.mp hx).1
    rw [ok_gname, ok_yes]
    refine ⟨fun _ => ?_, fun n => absurd rfl n⟩
    refine (st x (List.mem_of_getElem? hx)).imp fun y ρ3 ⟨e1, e2⟩ => ⟨?_, ?_, ?_⟩
    · rw [List.length_map, List.length_take, Nat.zero_add, Nat.min_eq_left (Nat.le_of_lt hi)]
      exact decide_eq_true (by omega)
    · rw [e1, Nat.zero_add, List.take_add_one, hx, List.map_append]
      rfl
    · exact e2
  · rintro acc ρ ⟨rfl, rfl⟩
    rw [Nat.zero_add, List.take_length]
    exact q
end
theorem blsD_map {α : Type} {g : α → Bool} : ∀ xs : List α, blsD (xs.map fun x => D.bl (g x)) = some (xs.map g)
  | [] => rfl
  | x :: xs => by
    show (blsD (xs.map fun x => D.bl (g x))).map (g x :: ·) = _
    rw [blsD_map xs]
    rfl
section
variable {x0 x1 x2 x3 : D}
theorem at2 : L2.atI [x0, x1, x2, x3] 2 = some x2 := rfl
theorem at3 : L2.atI [x0, x1, x2, x3] 3 = some x3 := rfl
end
/-- a law's row of draws -/
def rowD (ns : List Int) (a b c : Int) : D := .lst [.scr ns, .int a, .int b, .int c]
def RowOk (a b c : Int) : Prop := 0 ≤ a ∧ 0 ≤ b ∧ b < 2147483647 ∧ 0 ≤ c
section
variable {K : S → Prop} {i j : Int}
theorem e_add : (∃ s, gAdd (.int i) (.int j) = some s ∧ K s) ↔ K (.d (.int (i + j))) := ex_some
theorem e_sub : (∃ s, gMinus (.int i) (.int j) = some s ∧ K s) ↔ K (.d (.int (i - j))) := ex_some
theorem e_mul (h : i64 j = true) : (∃ s, gMul (.int i) (.int j) = some s ∧ K s) ↔ K (.d (.int (i * j))) := by
  have e : gMul (.int i) (.int j) = ok1 (.int (i * j)) := by
    show (if (i64 i || i64 j) = true then ok1 (.int (i * j)) else none) = _
    rw [if_pos (by rw [h, Bool.or_true])]
  rw [e]
  exact ex_some
theorem e_mod (h : 0 < j) : (∃ s, gMod (.int i) (.int j) = some s ∧ K s) ↔ K (.d (.int (i % j))) := by
  unfold gMod gIIc
  dsimp only
  rw [if_pos (decide_eq_true h)]
  exact ex_some
theorem e_div (h : 0 < j) (h2 : j < 1073741824) : (∃ s, gDiv (.int i) (.int j) = some s ∧ K s) ↔ K (.d (.int (i / j))) := by
  have e : gDiv (.int i) (.int j) = ok1 (.int (i / j)) := by
    show (if (decide (0 < j) && decide (j < 1073741824)) = true then ok1 (.int (i / j)) else none) = _
    rw [if_pos (by simp [h, h2])]
  rw [e]
  exact ex_some
theorem e_pow : (∃ s, gPow (.int 10) (.int 18) = some s ∧ K s) ↔ K (.d (.int 1000000000000000000)) := ex_some
theorem e_int : (∃ s, gInt1 [.int i] = some s ∧ K s) ↔ K (.d (.int i)) := ex_some
theorem e_lenS {ns : List Int} : (∃ s, gLen [.scr ns] = some s ∧ K s) ↔ K (.d (.int ns.length)) := ex_some
theorem e_lenT {ds : List D} : (∃ s, gLen [.tup ds] = some s ∧ K s) ↔ K (.d (.int ds.length)) := ex_some
theorem e_lenL {ds : List D} : (∃ s, gLen [.lst ds] = some s ∧ K s) ↔ K (.d (.int ds.length)) := ex_some
theorem at_nat {α : Type} {xs : List α} {i : Int} (h0 : 0 ≤ i) (h1 : i < xs.length) : ∃ x, L2.atI xs i = some x ∧ xs[i.toNat]? = some x := by
  have hj : i.toNat < xs.length := by omega
  refine ⟨xs[i.toNat], ?_, List.getElem?_eq_getElem hj⟩
  have := L2.atI_nat (xs := xs) (List.getElem?_eq_getElem hj)
  rwa [Int.toNat_of_nonneg h0] at this
theorem e_ixS {ns : List Int} (h0 : 0 ≤ i) (h1 : i < ns.length) : (∃ s, gIx (.scr ns) (.int i) = some s ∧ K s) ↔ K (.d (.int ((ns[i.toNat]?).getD 0))) := by
  obtain ⟨x, e1, e2⟩ := at_nat h0 h1
  show (∃ s, (L2.atI ns i).bind (fun n => ok1 (.int n)) = some s ∧ K s) ↔ _
  rw [e1, e2]
  exact ex_some
theorem e_ixT {ds : List D} (h0 : 0 ≤ i) (h1 : i < ds.length) : (∃ s, gIx (.tup ds) (.int i) = some s ∧ K s) ↔ K (.d ((ds[i.toNat]?).getD .non)) := by
  obtain ⟨x, e1, e2⟩ := at_nat h0 h1
  show (∃ s, (L2.atI ds i).bind ok1 = some s ∧ K s) ↔ _
  rw [e1, e2]
  exact ex_some
theorem e_lt : (∃ s, gLt (.int i) (.int j) = some s ∧ K s) ↔ K (.d (.bl (decide (i < j)))) := ex_some
theorem e_le : (∃ s, gLe (.int i) (.int j) = some s ∧ K s) ↔ K (.d (.bl (decide (i ≤ j)))) := ex_some
theorem e_gt : (∃ s, gGt (.int i) (.int j) = some s ∧ K s) ↔ K (.d (.bl (decide (j < i)))) := ex_some
theorem e_ge : (∃ s, gGe (.int i) (.int j) = some s ∧ K s) ↔ K (.d (.bl (decide (j ≤ i)))) := ex_some
theorem e_leC {K : Bool → Prop} : (∃ b, gLe (.int i) (.int j) = some (S.d (.bl b)) ∧ K b) ↔ K (decide (i ≤ j)) := ex_bl1
theorem e_ltC {K : Bool → Prop} : (∃ b, gLt (.int i) (.int j) = some (S.d (.bl b)) ∧ K b) ↔ K (decide (i < j)) := ex_bl1
theorem e_isN {x : D} : (∃ s, gIsN x .non = some s ∧ K s) ↔ K (.d (.bl (isN x))) := ex_some
theorem e_notN {x : D} : (∃ s, gNotN x .non = some s ∧ K s) ↔ K (.d (.bl (!isN x))) := ex_some
end
section
variable {ns : List Int} {a b c : Int} {o : Option Nat} {P : S → En → Prop} {ρ : En}
theorem ok_row1 : OK (mIxO 0 (mC (.int 1)) (some (.o o (rowD ns a b c)) :: ρ)) P ↔ P (.d (.int a)) (some (.o o (rowD ns a b c)) :: ρ) := by
  rw [ok_eq]
  exact Iff.rfl
theorem ok_row2 : OK (mIxO 0 (mC (.int 2)) (some (.o o (rowD ns a b c)) :: ρ)) P ↔ P (.d (.int b)) (some (.o o (rowD ns a b c)) :: ρ) := by
  rw [ok_eq]
  exact Iff.rfl
theorem ok_row3 : OK (mIxO 0 (mC (.int 3)) (some (.o o (rowD ns a b c)) :: ρ)) P ↔ P (.d (.int c)) (some (.o o (rowD ns a b c)) :: ρ) := by
  rw [ok_eq]
  exact Iff.rfl
theorem ok_row0 : OK (mIxO 0 (mC (.int 0)) (some (.o o (rowD ns a b c)) :: ρ)) P ↔ P (.d (.scr ns)) (some (.o o (rowD ns a b c)) :: ρ) := by
  rw [ok_eq]
  exact Iff.rfl
variable {PU : Unit → En → Prop} {x : Int}
theorem ok_put1 : OK (gmItem 0 (mC (.int 1)) (.int x) (some (.o o (rowD ns a b c)) :: ρ)) PU ↔ PU () (some (.o o (rowD ns x b c)) :: ρ) := by
  rw [ok_eq]
  exact Iff.rfl
theorem ok_put2 : OK (gmItem 0 (mC (.int 2)) (.int x) (some (.o o (rowD ns a b c)) :: ρ)) PU ↔ PU () (some (.o o (rowD ns a x c)) :: ρ) := by
  rw [ok_eq]
  exact Iff.rfl
theorem ok_put3 : OK (gmItem 0 (mC (.int 3)) (.int x) (some (.o o (rowD ns a b c)) :: ρ)) PU ↔ PU () (some (.o o (rowD ns a b x)) :: ρ) := by
  rw [ok_eq]
  exact Iff.rfl
end
local macro_rules | `(tactic| walk_at "wp") => `(tactic| simp only [okF_runF, okF_runL, ok_seq, ok_ret, ok_retN, ok_andV, ok_orV, ok_notV, ok_cb, ok_cons, ok_nil, ok_test, ok_dv, ok_op, ok_un, ok_c, ok_if, ok_ifS, ok_and, ok_or, ok_not, ok_asg, ok_gname, ok_drop, ok_call, ok_chain, ok_nx, ok_bk, ok_ct, ok_st, ok_yes, ok_for, ok_lc, ok_tup, ok_ok, ok_stuck, ex_toD, ex_toL, ex_bl, ex_some, ex_bl1, fl_nx, fl_rt, fl_bk, fl_ct, rt_or, nx_or, mVar, ok1, gIsi, isTy, Option.bind, bare, e_add, e_sub, e_int, e_lenS, e_lenT, e_lenL, e_lt, e_le, e_gt, e_ge, e_leC, e_ltC, e_isN, e_notN, e_pow,
  List.map_cons, List.map_nil, List.length_cons, List.length_nil, List.replicate_succ, List.replicate_zero, List.cons_append, List.nil_append, List.append_nil, List.getElem?_cons_zero, List.getElem?_cons_succ, List.set_cons_zero, List.set_cons_succ, Nat.reduceAdd, Nat.reduceSub, true_and, and_true, Bool.not_true, Bool.not_false, true_implies, forall_const, not_true_eq_false, false_implies, Bool.false_eq_true, not_false_eq_true, implies_true, eq_self, ne_eq, reduceCtorEq, Fl.rt.injEq, S.d.injEq, D.int.injEq, false_and, exists_false, or_false, false_or, exists_eq_left'])
local macro_rules | `(tactic| walk_at "wt") => `(tactic| simp (config := { contextual := false }) only [ok_row0, ok_row1, ok_row2, ok_row3, ok_put1, ok_put2, ok_put3, e_mod, e_div, e_mul, e_ixS, decide_true, decide_false, *, okF_runF, okF_runL, ok_seq, ok_ret, ok_retN, ok_andV, ok_orV, ok_notV, ok_cb, ok_cons, ok_nil, ok_test, ok_dv, ok_op, ok_un, ok_c, ok_if, ok_ifS, ok_and, ok_or, ok_not, ok_asg, ok_gname, ok_drop, ok_call, ok_chain, ok_nx, ok_bk, ok_ct, ok_st, ok_yes, ok_for, ok_lc, ok_tup, ok_ok, ok_stuck, ex_toD, ex_toL, ex_bl, ex_some, ex_bl1, fl_nx, fl_rt, fl_bk, fl_ct, rt_or, nx_or, mVar, ok1, gIsi, isTy, Option.bind, bare, e_add, e_sub, e_int, e_lenS, e_lenT, e_lenL, e_lt, e_le, e_gt, e_ge, e_leC, e_ltC, e_isN, e_notN, e_pow,
  List.map_cons, List.map_nil, List.length_cons, List.length_nil, List.replicate_succ, List.replicate_zero, List.cons_append, List.nil_append, List.append_nil, List.getElem?_cons_zero, List.getElem?_cons_succ, List.set_cons_zero, List.set_cons_succ, Nat.reduceAdd, Nat.reduceSub, true_and, and_true, Bool.not_true, Bool.not_false, true_implies, forall_const, not_true_eq_false, false_implies, Bool.false_eq_true, not_false_eq_true, implies_true, eq_self, ne_eq, reduceCtorEq, Fl.rt.injEq, S.d.injEq, D.int.injEq, false_and, exists_false, or_false, false_or, exists_eq_left'])
namespace Lib
def b_is_number : M Fl := (mRet (mAndV (mCB gIsi (aCons (mVar 0) (aCons (mC (.ty "int")) aNil))) (mAndV (mNotV (mCB gIsi (aCons (mVar 0) (aCons (mC (.ty "bool")) aNil)))) (mChain gLe gLe (mVar 1) (mVar 0) (mVar 2)))))
def f_is_number : Fn := runF 3 3 b_is_number
def oD : Option Int → D
  | none => .non
  | some i => .int i
def numB (lo hi : Int) : Option Int → Bool
  | none => false
  | some i => decide (lo ≤ i) && decide (i ≤ hi)
theorem num {o : Option Int} {lo hi : Int} {K : S → Prop} : OKF (f_is_number [.d (oD o), .d (.int lo), .d (.int hi)]) K ↔ K (.d (.bl (numB lo hi o))) := by
  cases o with
  | none =>
    unfold f_is_number b_is_number oD numB
    walk_at "wp"
  | some i =>
    unfold f_is_number b_is_number oD numB
    walk_at "wp"
    by_cases h : lo ≤ i <;> simp [h]
def b_is_tuple : M Fl := (mRet (mAndV (mCB gIsi (aCons (mVar 0) (aCons (mC (.ty "tuple")) aNil))) (mChain gLe gLe (mVar 1) (mCB gLen (aCons (mVar 0) aNil)) (mVar 2))))
def f_is_tuple : Fn := runF 3 3 b_is_tuple
theorem tup {ds : List D} {lo hi : Int} {K : S → Prop} : OKF (f_is_tuple [.d (.tup ds), .d (.int lo), .d (.int hi)]) K ↔ K (.d (.bl (decide (lo ≤ ds.length) && decide ((ds.length : Int) ≤ hi)))) := by
  unfold f_is_tuple b_is_tuple
  walk_at "wp"
  by_cases h : lo ≤ ds.length <;> simp [h]
def b_are_numbers : M Fl := (mRet (mAndV (mCB gIsi (aCons (mVar 0) (aCons (mC (.ty "tuple")) aNil))) (mCB gAll (aCons (mLc (iSeq (mVar 0)) (gmName 3) mYes (mCall f_is_number (aCons (mVar 3) (aCons (mVar 1) (aCons (mVar 2) aNil)))) [3]) aNil))))
def f_are_numbers : Fn := runF 3 4 b_are_numbers
theorem nums {os : List (Option Int)} {lo hi : Int} {K : S → Prop} (hl : os.length ≤ 16777216) (h : K (.d (.bl (os.all (numB lo hi))))) : OKF (f_are_numbers [.d (.tup (os.map oD)), .d (.int lo), .d (.int hi)]) K := by
  unfold f_are_numbers b_are_numbers
  walk_at "wp"
  simp only [iSeq, ok_then, ok_dv, ok_var]
  walk_at "wp"
  simp only [itemsD, ok_ok, wipeE]
  walk_at "wp"
  refine ok_map (f := fun x => .bl (match x with | .int i => decide (lo ≤ i) && decide (i ≤ hi) | _ => false)) rfl ?_ (by rw [List.length_map]; exact hl) ?_
  · intro x hx
    obtain ⟨o, _, rfl⟩ := List.mem_map.mp hx
    walk_at "wp"
    rw [num]
    walk_at "wp"
    cases o <;> rfl
  · refine ⟨_, ?_, h⟩
    show (blsD _).bind _ = _
    have e : List.map (fun x => D.bl (match x with | D.int i => decide (lo ≤ i) && decide (i ≤ hi) | x => false)) (List.map oD os) = os.map fun o => D.bl (numB lo hi o) := by
      rw [List.map_map]
      refine List.map_congr_left fun o _ => ?_
      cases o <;> rfl
    rw [e, blsD_map, Option.bind_some, List.all_map]
    rfl
def b_law_taken : M Fl := (mSeq (mIfS (mTest (mOp gGt (mIxO 0 (mC (.int 3))) (mC (.int 0)))) (mSeq (mAsg (mOp gMod (mCB gInt1 (aCons (mIxO 0 (mC (.int 3))) aNil)) (mVar 1)) (gmName 2))
    (mSeq (mAsg (mOp gDiv (mIxO 0 (mC (.int 3))) (mVar 1)) (gmItem 0 (mC (.int 3))))
    (mRet (mVar 2)))) mNx)
    (mSeq (mAsg (mOp gAdd (mIxO 0 (mC (.int 1))) (mC (.int 1))) (gmItem 0 (mC (.int 1))))
    (mSeq (mIfS (mTest (mOp gGt (mIxO 0 (mC (.int 1))) (mCB gLen (aCons (mIxO 0 (mC (.int 0))) aNil)))) (mSeq (mAsg (mOp gMod (mCB gInt1 (aCons (mOp gAdd (mOp gMul (mIxO 0 (mC (.int 2))) (mC (.int 48271))) (mC (.int 11))) aNil)) (mC (.int 2147483647))) (gmItem 0 (mC (.int 2))))
    (mRet (mOp gMod (mCB gInt1 (aCons (mOp gDiv (mIxO 0 (mC (.int 2))) (mC (.int 7))) aNil)) (mVar 1)))) mNx)
    (mSeq (mAsg (mOp gIx (mIxO 0 (mC (.int 0))) (mOp gMinus (mIxO 0 (mC (.int 1))) (mC (.int 1)))) (gmName 3))
    (mSeq (mAsg (mOp gMod (mCB gInt1 (aCons (mOp gAdd (mOp gAdd (mOp gMul (mIxO 0 (mC (.int 2))) (mC (.int 48271))) (mVar 3)) (mC (.int 11))) aNil)) (mC (.int 2147483647))) (gmItem 0 (mC (.int 2))))
    (mSeq (mIfS (mTest (mOp gGe (mVar 3) (mOp gPow (mC (.int 10)) (mC (.int 18))))) (mAsg (mOp gDiv (mVar 3) (mVar 1)) (gmItem 0 (mC (.int 3)))) mNx)
    (mRet (mOp gMod (mCB gInt1 (aCons (mVar 3) aNil)) (mVar 1)))))))))
def f_law_taken : Fn := runF 2 4 b_law_taken
theorem taken {ns : List Int} {a b c m : Int} (h : RowOk a b c) (h1 : 0 < m) (h2 : m < 1073741824) : OK (f_law_taken [.o (some 0) (rowD ns a b c), .d (.int m)]) fun s ρ => ∃ k a' b' c', s = .d (.int k) ∧ 0 ≤ k ∧ k < m ∧ RowOk a' b' c' ∧ ∃ ρ', ρ = some (.o (some 0) (rowD ns a' b' c')) :: ρ' := by
  obtain ⟨ha, hb, hb2, hc⟩ := h
  have key : OK (b_law_taken [some (.o (some 0) (rowD ns a b c)), some (.d (.int m)), none, none]) fun f ρ => ∃ k a' b' c', f = .rt (.d (.int k)) ∧ 0 ≤ k ∧ k < m ∧ RowOk a' b' c' ∧ ∃ ρ', ρ = some (.o (some 0) (rowD ns a' b' c')) :: ρ' := by
    unfold b_law_taken
    by_cases c0 : 0 < c
    · walk_at "wt"
      refine ⟨c % m, a, b, c / m, rfl, Int.emod_nonneg _ (by omega), Int.emod_lt_of_pos _ h1, ⟨ha, hb, hb2, Int.ediv_nonneg hc (Int.le_of_lt h1)⟩, _, rfl⟩
    · have q1 : i64 48271 = true := rfl
      have q2 : (0 : Int) < 2147483647 := by decide
      have q3 : (0 : Int) < 7 := by decide
      have q4 : (7 : Int) < 1073741824 := by decide
      by_cases c1 : (ns.length : Int) < a + 1
      · walk_at "wt"
        have hm := Int.emod_nonneg ((b * 48271 + 11) % 2147483647 / 7) (show m ≠ 0 by omega)
        have hl := Int.emod_lt_of_pos ((b * 48271 + 11) % 2147483647 / 7) h1
        have hb3 := Int.emod_nonneg (b * 48271 + 11) (show (2147483647 : Int) ≠ 0 by decide)
        have hb4 := Int.emod_lt_of_pos (b * 48271 + 11) q2
        exact ⟨_, _, _, _, rfl, hm, hl, ⟨by omega, hb3, hb4, hc⟩, _, rfl⟩
      · have q5 : 0 ≤ a + 1 - 1 := by omega
        have q6 : a + 1 - 1 < (ns.length : Int) := by omega
        by_cases c2 : 1000000000000000000 ≤ (ns[(a + 1 - 1).toNat]?).getD 0
        · walk_at "wt"
          have hm := Int.emod_nonneg ((ns[(a + 1 - 1).toNat]?).getD 0) (show m ≠ 0 by omega)
          have hl := Int.emod_lt_of_pos ((ns[(a + 1 - 1).toNat]?).getD 0) h1
          have hb3 := Int.emod_nonneg (b * 48271 + (ns[(a + 1 - 1).toNat]?).getD 0 + 11) (show (2147483647 : Int) ≠ 0 by decide)
          have hb4 := Int.emod_lt_of_pos (b * 48271 + (ns[(a + 1 - 1).toNat]?).getD 0 + 11) q2
          exact ⟨_, _, _, _, rfl, hm, hl, ⟨by omega, hb3, hb4, Int.ediv_nonneg (by omega) (Int.le_of_lt h1)⟩, _, rfl⟩
        · walk_at "wt"
          have hm := Int.emod_nonneg ((ns[(a + 1 - 1).toNat]?).getD 0) (show m ≠ 0 by omega)
          have hl := Int.emod_lt_of_pos ((ns[(a + 1 - 1).toNat]?).getD 0) h1
          have hb3 := Int.emod_nonneg (b * 48271 + (ns[(a + 1 - 1).toNat]?).getD 0 + 11) (show (2147483647 : Int) ≠ 0 by decide)
          have hb4 := Int.emod_lt_of_pos (b * 48271 + (ns[(a + 1 - 1).toNat]?).getD 0 + 11) q2
          exact ⟨_, _, _, _, rfl, hm, hl, ⟨by omega, hb3, hb4, hc⟩, _, rfl⟩
  refine ok_runF rfl (key.imp fun f ρ h => ?_)
  obtain ⟨k, a', b', c', rfl, h⟩ := h
  exact .inl ⟨_, rfl, k, a', b', c', rfl, h⟩
end Lib
end Fx
/-! draws within a def, comprehensions that draw -/
namespace Fx
open PySem
def rowS (o : Option Nat) (ns : List Int) (a b c : Int) : Option S := some (.o o (rowD ns a b c))
theorem ok_callO {F : Fn} {i j : Nat} {fA : M (List D)} {ρ : En} {P : S → En → Prop} (h : OK (fA ρ) fun ds ρ1 => ∃ b x, ρ1[i]? = some (some (.o b x)) ∧ j ≤ ds.length ∧ OK (F ((ds.take j).map .d ++ .o (some j) x :: (ds.drop j).map .d)) fun s ρ' => ∃ y, ρ'[j]? = some (some (.o (some j) y)) ∧ bare s = true ∧ P s (ρ1.set i (some (.o b y)))) : OK (mCallO F i j fA ρ) P := by
  unfold mCallO
  rw [ok_then]
  refine h.imp fun ds ρ1 ⟨b, x, e, hj, k⟩ => ?_
  rw [e]
  dsimp only
  rw [if_pos hj]
  obtain ⟨s, ρ', e2, y, e3, hb, k⟩ := k.at
  rw [e2]
  dsimp only
  rw [e3]
  dsimp only
  rw [if_pos ⟨rfl, hb⟩, ok_ok]
  exact k
theorem ok_own {i : Nat} {fr : M (List D)} {ρ : En} {P : List D → En → Prop} : OK (aOwn i fr ρ) P ↔ isOwn ρ i = true ∧ OK (fr ρ) P := by
  unfold aOwn
  rw [ok_ite]
  exact ⟨fun h => by
    by_cases ho : isOwn ρ i = true
    · exact ⟨ho, h.1 ho⟩
    · exact (ok_stuck.mp (h.2 ho)).elim, fun h => ⟨fun _ => h.2, fun n => absurd h.1 n⟩⟩
section
variable {r k : Nat} {o : Option Nat} {ns : List Int} {ρ : En} {P : S → En → Prop} {fm fe : M S} {m : Int}
theorem own_row {a b c : Int} (e : ρ[r]? = some (rowS o ns a b c)) : isOwn ρ r = true := by
  unfold isOwn
  rw [e]
  rfl
/-- a draw of m ways -/
theorem ok_taken {a b c : Int} (e : ρ[r]? = some (rowS o ns a b c)) (hr : RowOk a b c) (hm : OK (dv fm ρ) fun x ρ1 => x = .int m ∧ ρ1 = ρ) (h1 : 0 < m) (h2 : m < 1073741824)
    (q : ∀ v a b c, 0 ≤ v → v < m → RowOk a b c → P (.d (.int v)) (ρ.set r (rowS o ns a b c))) : OK (mCallO Lib.f_law_taken r 0 (aOwn r (aCons fm aNil)) ρ) P := by
  refine ok_callO (ok_own.mpr ⟨own_row e, ?_⟩)
  rw [ok_cons]
  refine hm.imp fun x ρ1 ⟨e1, e2⟩ => ?_
  subst e1
  subst e2
  rw [ok_nil]
  refine ⟨o, rowD ns a b c, e, Nat.zero_le _, (Lib.taken hr h1 h2).imp fun s ρ' h => ?_⟩
  obtain ⟨v, a', b', c', rfl, v0, v1, hr', ρ2, rfl⟩ := h
  exact ⟨rowD ns a' b' c', rfl, rfl, q v a' b' c' v0 v1 hr'⟩
variable {items : List D} {PL : List D → En → Prop}
end
end Fx
/-! algebras: drawn, made, on data -/
namespace Fx
open PySem
theorem ok_seqI {F G : M Fl} {ρ : En} {PF : Fl → En → Prop} (I : En → Prop) (h : OK (F ρ) fun f ρ1 => f = .nx ∧ I ρ1) (k : ∀ ρ1, I ρ1 → OK (G ρ1) PF) : OK (mSeq F G ρ) PF := by
  rw [ok_seq]
  exact h.imp fun f ρ1 ⟨e, hi⟩ => ⟨fun _ => k ρ1 hi, fun n => absurd e n⟩
theorem ok_asgO {i : Nat} {fa : M S} {ρ : En} {PF : Fl → En → Prop} : OK (mAsgO i fa ρ) PF ↔ OK (fa ρ) fun s ρ1 => (∃ x, s = .o none x ∧ PF .nx (ρ1.set i (some (.o none x)))) ∨ ∃ x, s = .d x ∧ PF .nx (ρ1.set i (some (.d x))) := by
  unfold mAsgO
  rw [ok_then]
  refine ⟨fun h => h.imp fun s ρ1 h => ?_, fun h => h.imp fun s ρ1 h => ?_⟩
  · split at h
    · exact .inl ⟨_, rfl, ok_out h⟩
    · exact .inr ⟨_, rfl, ok_out h⟩
    · exact (ok_out h).elim
  · rcases h with ⟨x, rfl, h⟩ | ⟨x, rfl, h⟩
    · exact ok_of h
    · exact ok_of h
theorem ok_lst {fA : M (List D)} {ρ : En} {P : S → En → Prop} : OK (mLst fA ρ) P ↔ OK (fA ρ) fun ds ρ1 => small ds.length = true ∧ P (.o none (.lst ds)) ρ1 := by
  unfold mLst
  rw [ok_then]
  refine ⟨fun h => h.imp fun ds ρ1 h => ?_, fun h => h.imp fun ds ρ1 h => ?_⟩
  · by_cases hz : small ds.length = true
    · rw [if_pos hz] at h
      exact ⟨hz, ok_out h⟩
    · rw [if_neg hz] at h
      exact (ok_out h).elim
  · rw [if_pos h.1]
    exact ok_of h.2
theorem ok_iseq {f : M S} {ρ : En} {P : List D → En → Prop} : OK (iSeq f ρ) P ↔ OK (dv f ρ) fun x ρ1 => ∃ ds, itemsD x = some ds ∧ P ds ρ1 := by
  unfold iSeq
  rw [ok_then]
  refine ⟨fun h => h.imp fun x ρ1 h => ?_, fun h => h.imp fun x ρ1 h => ?_⟩
  · cases e : itemsD x with
    | none => rw [e] at h; exact (ok_out h).elim
    | some ds => rw [e] at h; exact ⟨ds, rfl, ok_out h⟩
  · obtain ⟨ds, e, h⟩ := h
    rw [e]
    exact ok_of h
theorem ok_sl {fe : M S} {fl fh : M (Option Int)} {ρ : En} {P : S → En → Prop} (h : OK (dv fe ρ) fun x ρ1 => OK (fl ρ1) fun lo ρ2 => OK (fh ρ2) fun hi ρ3 => ∃ s, gSl x lo hi = some s ∧ P s ρ3) : OK (mSl fe fl fh ρ) P := by
  unfold mSl
  simp only [ok_then]
  refine h.imp fun x ρ1 h => h.imp fun lo ρ2 h => h.imp fun hi ρ3 ⟨s, e, h⟩ => ?_
  rw [e]
  exact ok_of h
theorem ok_osome {f : M S} {ρ : En} {P : Option Int → En → Prop} (h : OK (dv f ρ) fun x ρ1 => ∃ i, x = .int i ∧ P (some i) ρ1) : OK (oSome f ρ) P := by
  unfold oSome
  rw [ok_then]
  refine h.imp fun x ρ1 ⟨i, e, h⟩ => ?_
  subst e
  exact ok_of h
local macro_rules | `(tactic| walk_at "wp") => `(tactic| simp only [okF_runF, okF_runL, ok_seq, ok_ret, ok_retN, ok_andV, ok_orV, ok_notV, ok_cb, ok_cons, ok_nil, ok_test, ok_dv, ok_op, ok_un, ok_c, ok_if, ok_ifS, ok_and, ok_or, ok_not, ok_asg, ok_gname, ok_drop, ok_call, ok_chain, ok_nx, ok_bk, ok_ct, ok_st, ok_yes, ok_tup, ok_ok, ok_stuck, ex_toD, ex_toL, ex_bl, ex_some, ex_bl1, fl_nx, fl_rt, fl_bk, fl_ct, rt_or, nx_or, mVar, ok1, gIsi, mIsi2, gIsi2, isTy2, isTy, Option.bind, bare, e_add, e_sub, e_int, e_lenS, e_lenT, e_lenL, e_lt, e_le, e_gt, e_ge, e_leC, e_ltC, e_isN, e_notN, e_pow,
  List.map_cons, List.map_nil, List.length_cons, List.length_nil, List.replicate_succ, List.replicate_zero, List.cons_append, List.nil_append, List.append_nil, List.getElem?_cons_zero, List.getElem?_cons_succ, List.set_cons_zero, List.set_cons_succ, Nat.reduceAdd, Nat.reduceSub, true_and, and_true, Bool.not_true, Bool.not_false, true_implies, forall_const, not_true_eq_false, false_implies, Bool.false_eq_true, not_false_eq_true, implies_true, eq_self, ne_eq, reduceCtorEq, Fl.rt.injEq, S.d.injEq, D.int.injEq, false_and, exists_false, or_false, false_or, exists_eq_left'])
local macro_rules | `(tactic| walk_at "wt") => `(tactic| simp (config := { contextual := false }) only [ok_row0, ok_row1, ok_row2, ok_row3, ok_put1, ok_put2, ok_put3, e_mod, e_div, e_mul, e_ixS, decide_true, decide_false, *, okF_runF, okF_runL, ok_seq, ok_ret, ok_retN, ok_andV, ok_orV, ok_notV, ok_cb, ok_cons, ok_nil, ok_test, ok_dv, ok_op, ok_un, ok_c, ok_if, ok_ifS, ok_and, ok_or, ok_not, ok_asg, ok_gname, ok_drop, ok_call, ok_chain, ok_nx, ok_bk, ok_ct, ok_st, ok_yes, ok_tup, ok_ok, ok_stuck, ex_toD, ex_toL, ex_bl, ex_some, ex_bl1, fl_nx, fl_rt, fl_bk, fl_ct, rt_or, nx_or, mVar, ok1, gIsi, mIsi2, gIsi2, isTy2, isTy, Option.bind, bare, e_add, e_sub, e_int, e_lenS, e_lenT, e_lenL, e_lt, e_le, e_gt, e_ge, e_leC, e_ltC, e_isN, e_notN, e_pow,
  List.map_cons, List.map_nil, List.length_cons, List.length_nil, List.replicate_succ, List.replicate_zero, List.cons_append, List.nil_append, List.append_nil, List.getElem?_cons_zero, List.getElem?_cons_succ, List.set_cons_zero, List.set_cons_succ, Nat.reduceAdd, Nat.reduceSub, true_and, and_true, Bool.not_true, Bool.not_false, true_implies, forall_const, not_true_eq_false, false_implies, Bool.false_eq_true, not_false_eq_true, implies_true, eq_self, ne_eq, reduceCtorEq, Fl.rt.injEq, S.d.injEq, D.int.injEq, false_and, exists_false, or_false, false_or, exists_eq_left'])
local macro_rules | `(tactic| walk_at "wy") => `(tactic| try walk_at "wp")
local macro_rules | `(tactic| walk_at "we") => `(tactic| first | done | rfl | exact ⟨rfl, rfl⟩ | exact ⟨rfl, rfl, rfl⟩)
namespace Lib
def b_is_table : M Fl := (mSeq (mIfS (mNot (mTest (mCall f_is_tuple (aCons (mVar 0) (aCons (mVar 1) (aCons (mVar 1) aNil)))))) (mRet (mC (.bl false))) mNx)
    (mRet (mCB gAll (aCons (mLc (iSeq (mVar 0)) (gmName 2) mYes (mOrV (mOp gIsN (mVar 2) (mC .non)) (mCall f_is_number (aCons (mVar 2) (aCons (mC (.int 0)) (aCons (mOp gMinus (mVar 1) (mC (.int 1))) aNil))))) [2]) aNil))))
def f_is_table : Fn := runF 2 3 b_is_table
def b_levels_after : M Fl := (mSeq (mAsg (mOp gIx (mFldE "Algebra" 1 (mVar 0)) (mVar 1)) (gmName 2))
    (mRet (mLc (iSeq (mVar 2)) (gmName 3) mYes (mIf (mTest (mOp gIsN (mVar 3) (mC .non))) (mC (.int 4096)) (mOp gIx (mFldE "Algebra" 0 (mVar 0)) (mVar 3))) [3])))
def f_levels_after : Fn := runF 2 4 b_levels_after
def b_Algebra_init : M Fl := (mSeq (mIfS (mOr (mNot (mTest (mCall f_is_tuple (aCons (mVar 1) (aCons (mC (.int 1)) (aCons (mC (.int 64)) aNil)))))) (mNot (mTest (mCall f_are_numbers (aCons (mVar 1) (aCons (mC (.int 0)) (aCons (mC (.int 4095)) aNil))))))) mSt mNx)
    (mSeq (mIfS (mNot (mTest (mCall f_is_tuple (aCons (mVar 2) (aCons (mC (.int 1)) (aCons (mC (.int 64)) aNil)))))) mSt mNx)
    (mSeq (mFor (iEnu (aCons (mVar 2) aNil)) (gmTup 2 (gmCons (gmName 3) (gmCons (gmName 4) gmNil))) (mIfS (mNot (mTest (mCall f_is_table (aCons (mVar 4) (aCons (mCB gLen (aCons (mVar 1) aNil)) aNil))))) mSt mNx))
    (mSeq (mSetF "Algebra" 0 0 (mVar 1))
    (mSetF "Algebra" 1 0 (mVar 2))))))
def f_Algebra_init : Fn := runF 3 5 b_Algebra_init
def tabD (t : List (Option Int)) : D := .tup (t.map oD)
/-- an algebra as it is drawn -/
structure OkAlg (most many : Int) (ls : List Int) (ts : List (List (Option Int))) : Prop where
  l1 : 1 ≤ ls.length
  l2 : (ls.length : Int) ≤ most
  lv : ∀ l ∈ ls, 0 ≤ l ∧ l ≤ most
  t1 : 1 ≤ ts.length
  t2 : (ts.length : Int) ≤ many
  tb : ∀ t ∈ ts, t.length = ls.length ∧ ∀ i, some i ∈ t → 0 ≤ i ∧ i < (ls.length : Int)
end Lib
end Fx
/-! a value is alike itself -/
namespace Fx
open PySem
theorem eqD_self {x : D} (h : pl60 x = true) : eqD x x = true := SeqAt.eqv_refl_plain _ (pl60_shaped h).1
theorem gEq_self {x : D} (h : pl60 x = true) : gEq x x = some (.d (.bl true)) := by
  unfold gEq
  rw [h, eqD_self h]
  rfl
theorem gNe_self {x : D} (h : pl60 x = true) : gNe x x = some (.d (.bl false)) := by
  unfold gNe
  rw [h, eqD_self h]
  rfl
/-- data at most n deep, of bounded width -/
def fit : Nat → D → Bool
  | 0, .non => true
  | 0, .bl _ => true
  | 0, .int _ => true
  | 0, .str _ => true
  | 0, _ => false
  | _ + 1, .non => true
  | _ + 1, .bl _ => true
  | _ + 1, .int _ => true
  | _ + 1, .str _ => true
  | n + 1, .tup ds => decide (ds.length ≤ 1000000) && ds.all (fit n)
  | n + 1, .lst ds => decide (ds.length ≤ 1000000) && ds.all (fit n)
  | _ + 1, _ => false
local macro_rules | `(tactic| walk_at "wp") => `(tactic| simp only [okF_runF, okF_runL, ok_seq, ok_ret, ok_retN, ok_andV, ok_orV, ok_notV, ok_cb, ok_cons, ok_nil, ok_test, ok_dv, ok_op, ok_un, ok_c, ok_if, ok_ifS, ok_and, ok_or, ok_not, ok_asg, ok_gname, ok_drop, ok_call, ok_chain, ok_nx, ok_bk, ok_ct, ok_st, ok_yes, ok_tup, ok_ok, ok_stuck, ex_toD, ex_toL, ex_bl, ex_some, ex_bl1, fl_nx, fl_rt, fl_bk, fl_ct, rt_or, nx_or, mVar, ok1, gIsi, mIsi2, gIsi2, isTy2, isTy, Option.bind, bare, e_add, e_sub, e_int, e_lenS, e_lenT, e_lenL, e_lt, e_le, e_gt, e_ge, e_leC, e_ltC, e_isN, e_notN, e_pow,
  List.map_cons, List.map_nil, List.length_cons, List.length_nil, List.replicate_succ, List.replicate_zero, List.cons_append, List.nil_append, List.append_nil, List.getElem?_cons_zero, List.getElem?_cons_succ, List.set_cons_zero, List.set_cons_succ, Nat.reduceAdd, Nat.reduceSub, true_and, and_true, Bool.not_true, Bool.not_false, true_implies, forall_const, not_true_eq_false, false_implies, Bool.false_eq_true, not_false_eq_true, implies_true, eq_self, ne_eq, reduceCtorEq, Fl.rt.injEq, S.d.injEq, D.int.injEq, false_and, exists_false, or_false, false_or, exists_eq_left'])
local macro_rules | `(tactic| walk_at "wt") => `(tactic| simp (config := { contextual := false }) only [ok_row0, ok_row1, ok_row2, ok_row3, ok_put1, ok_put2, ok_put3, e_mod, e_div, e_mul, e_ixS, decide_true, decide_false, *, okF_runF, okF_runL, ok_seq, ok_ret, ok_retN, ok_andV, ok_orV, ok_notV, ok_cb, ok_cons, ok_nil, ok_test, ok_dv, ok_op, ok_un, ok_c, ok_if, ok_ifS, ok_and, ok_or, ok_not, ok_asg, ok_gname, ok_drop, ok_call, ok_chain, ok_nx, ok_bk, ok_ct, ok_st, ok_yes, ok_tup, ok_ok, ok_stuck, ex_toD, ex_toL, ex_bl, ex_some, ex_bl1, fl_nx, fl_rt, fl_bk, fl_ct, rt_or, nx_or, mVar, ok1, gIsi, mIsi2, gIsi2, isTy2, isTy, Option.bind, bare, e_add, e_sub, e_int, e_lenS, e_lenT, e_lenL, e_lt, e_le, e_gt, e_ge, e_leC, e_ltC, e_isN, e_notN, e_pow,
  List.map_cons, List.map_nil, List.length_cons, List.length_nil, List.replicate_succ, List.replicate_zero, List.cons_append, List.nil_append, List.append_nil, List.getElem?_cons_zero, List.getElem?_cons_succ, List.set_cons_zero, List.set_cons_succ, Nat.reduceAdd, Nat.reduceSub, true_and, and_true, Bool.not_true, Bool.not_false, true_implies, forall_const, not_true_eq_false, false_implies, Bool.false_eq_true, not_false_eq_true, implies_true, eq_self, ne_eq, reduceCtorEq, Fl.rt.injEq, S.d.injEq, D.int.injEq, false_and, exists_false, or_false, false_or, exists_eq_left'])
local macro_rules | `(tactic| walk_at "wy") => `(tactic| try walk_at "wp")
local macro_rules | `(tactic| walk_at "we") => `(tactic| first | done | rfl | exact ⟨rfl, rfl⟩ | exact ⟨rfl, rfl, rfl⟩)
namespace Lib
theorem e_eqT {b : Bool} {K : S → Prop} : (∃ s, gEq (.bl b) (.bl b) = some s ∧ K s) ↔ K (.d (.bl true)) := by
  rw [gEq_self rfl]
  exact ex_some
theorem e_neF {b : Bool} {K : S → Prop} : (∃ s, gNe (.bl b) (.bl b) = some s ∧ K s) ↔ K (.d (.bl false)) := by
  rw [gNe_self rfl]
  exact ex_some
theorem e_neI {i : Int} {K : S → Prop} : (∃ s, gNe (.int i) (.int i) = some s ∧ K s) ↔ K (.d (.bl false)) := by
  rw [gNe_self rfl]
  exact ex_some
theorem e_eqI {i : Int} {K : S → Prop} : (∃ s, gEq (.int i) (.int i) = some s ∧ K s) ↔ K (.d (.bl true)) := by
  rw [gEq_self rfl]
  exact ex_some
theorem e_eqN {K : S → Prop} : (∃ s, gEq .non .non = some s ∧ K s) ↔ K (.d (.bl true)) := by
  rw [gEq_self rfl]
  exact ex_some
theorem e_eqS {z : Str} {K : S → Prop} : (∃ s, gEq (.str z) (.str z) = some s ∧ K s) ↔ K (.d (.bl true)) := by
  rw [gEq_self rfl]
  exact ex_some
local macro_rules | `(tactic| walk_at "wz") => `(tactic| repeat (first | walk_at "wp" | simp only [isN, e_eqN, e_eqT, e_eqI, e_eqS, e_neF, e_neI]))
end Lib
end Fx
/-! algebras on data: made, checked, followed -/
namespace Fx
open PySem
theorem ok_setF {n : String} {i k : Nat} {fe : M S} {ρ : En} {PF : Fl → En → Prop} (h : OK (dv fe ρ) fun x ρ1 => ∃ b ds, ρ1[k]? = some (some (.o b (.ins n ds))) ∧ ds.length = i ∧ PF .nx (ρ1.set k (some (.o b (.ins n (ds ++ [x])))))) : OK (mSetF n i k fe ρ) PF := by
  unfold mSetF
  rw [ok_then]
  refine h.imp fun x ρ1 ⟨b, ds, e, hl, q⟩ => ?_
  rw [e]
  dsimp only
  rw [if_pos ⟨rfl, hl⟩]
  exact ok_of q
theorem ok_ienu {fA : M (List D)} {ρ : En} {P : List D → En → Prop} (h : OK (fA ρ) fun ds ρ1 => ∃ x es, ds = [x] ∧ itemsD x = some es ∧ P (enumD 0 es) ρ1) : OK (iEnu fA ρ) P := by
  unfold iEnu
  rw [ok_then]
  refine h.imp fun ds ρ1 ⟨x, es, e, e2, q⟩ => ?_
  subst e
  dsimp only
  rw [e2]
  exact ok_of q
theorem enumD_at {ds : List D} {i : Nat} {x : D} (h : (enumD 0 ds)[i]? = some x) : ∃ d, ds[i]? = some d ∧ x = .tup [.int (i : Nat), d] := by
  have hi := (List.getElem?_eq_some_iff.mp h).1
  rw [enumD_length] at hi
  have e := List.getElem?_eq_getElem hi
  rw [enumD_get ds 0 i _ e] at h
  cases h
  exact ⟨_, e, by rw [Nat.zero_add]⟩
theorem ok_gtup2 {i j : Nat} {x y : D} {ρ : En} {P : Unit → En → Prop} (h : P () ((ρ.set i (some (.d x))).set j (some (.d y)))) : OK (gmTup 2 (gmCons (gmName i) (gmCons (gmName j) gmNil)) (.tup [x, y]) ρ) P := ok_of h
theorem ok_fld {n : String} {i : Nat} {fe : M S} {ρ : En} {P : S → En → Prop} (h : OK (dv fe ρ) fun x ρ1 => ∃ ds y, x = .ins n ds ∧ ds[i]? = some y ∧ P (.d y) ρ1) : OK (mFldE n i fe ρ) P := by
  unfold mFldE
  rw [ok_un]
  refine h.imp fun x ρ1 ⟨ds, y, e, e2, q⟩ => ⟨.d y, ?_, q⟩
  subst e
  show (if n = n then (ds[i]?).bind ok1 else none) = _
  rw [if_pos rfl, e2]
  rfl
local macro_rules | `(tactic| walk_at "wp") => `(tactic| simp only [okF_runF, okF_runL, ok_seq, ok_ret, ok_retN, ok_andV, ok_orV, ok_notV, ok_cb, ok_cons, ok_nil, ok_test, ok_dv, ok_op, ok_un, ok_c, ok_if, ok_ifS, ok_and, ok_or, ok_not, ok_asg, ok_gname, ok_drop, ok_call, ok_chain, ok_nx, ok_bk, ok_ct, ok_st, ok_yes, ok_tup, ok_ok, ok_stuck, ex_toD, ex_toL, ex_bl, ex_some, ex_bl1, fl_nx, fl_rt, fl_bk, fl_ct, rt_or, nx_or, mVar, ok1, gIsi, mIsi2, gIsi2, isTy2, isTy, Option.bind, bare, e_add, e_sub, e_int, e_lenS, e_lenT, e_lenL, e_lt, e_le, e_gt, e_ge, e_leC, e_ltC, e_isN, e_notN, e_pow,
  List.map_cons, List.map_nil, List.length_cons, List.length_nil, List.replicate_succ, List.replicate_zero, List.cons_append, List.nil_append, List.append_nil, List.getElem?_cons_zero, List.getElem?_cons_succ, List.set_cons_zero, List.set_cons_succ, Nat.reduceAdd, Nat.reduceSub, true_and, and_true, Bool.not_true, Bool.not_false, true_implies, forall_const, not_true_eq_false, false_implies, Bool.false_eq_true, not_false_eq_true, implies_true, eq_self, ne_eq, reduceCtorEq, Fl.rt.injEq, S.d.injEq, D.int.injEq, false_and, exists_false, or_false, false_or, exists_eq_left'])
local macro_rules | `(tactic| walk_at "wt") => `(tactic| simp (config := { contextual := false }) only [ok_row0, ok_row1, ok_row2, ok_row3, ok_put1, ok_put2, ok_put3, e_mod, e_div, e_mul, e_ixS, decide_true, decide_false, *, okF_runF, okF_runL, ok_seq, ok_ret, ok_retN, ok_andV, ok_orV, ok_notV, ok_cb, ok_cons, ok_nil, ok_test, ok_dv, ok_op, ok_un, ok_c, ok_if, ok_ifS, ok_and, ok_or, ok_not, ok_asg, ok_gname, ok_drop, ok_call, ok_chain, ok_nx, ok_bk, ok_ct, ok_st, ok_yes, ok_tup, ok_ok, ok_stuck, ex_toD, ex_toL, ex_bl, ex_some, ex_bl1, fl_nx, fl_rt, fl_bk, fl_ct, rt_or, nx_or, mVar, ok1, gIsi, mIsi2, gIsi2, isTy2, isTy, Option.bind, bare, e_add, e_sub, e_int, e_lenS, e_lenT, e_lenL, e_lt, e_le, e_gt, e_ge, e_leC, e_ltC, e_isN, e_notN, e_pow,
  List.map_cons, List.map_nil, List.length_cons, List.length_nil, List.replicate_succ, List.replicate_zero, List.cons_append, List.nil_append, List.append_nil, List.getElem?_cons_zero, List.getElem?_cons_succ, List.set_cons_zero, List.set_cons_succ, Nat.reduceAdd, Nat.reduceSub, true_and, and_true, Bool.not_true, Bool.not_false, true_implies, forall_const, not_true_eq_false, false_implies, Bool.false_eq_true, not_false_eq_true, implies_true, eq_self, ne_eq, reduceCtorEq, Fl.rt.injEq, S.d.injEq, D.int.injEq, false_and, exists_false, or_false, false_or, exists_eq_left'])
local macro_rules | `(tactic| walk_at "wy") => `(tactic| try walk_at "wp")
local macro_rules | `(tactic| walk_at "we") => `(tactic| first | done | rfl | exact ⟨rfl, rfl⟩ | exact ⟨rfl, rfl, rfl⟩)
namespace Lib
def algD (ls : List Int) (ts : List (List (Option Int))) : D := .ins "Algebra" [.tup (ls.map D.int), .tup (ts.map tabD)]
theorem nums1 {ls : List Int} {lo hi : Int} {K : S → Prop} (hl : ls.length ≤ 16777216) (hv : ∀ l ∈ ls, lo ≤ l ∧ l ≤ hi) (h : K (.d (.bl true))) : OKF (f_are_numbers [.d (.tup (ls.map D.int)), .d (.int lo), .d (.int hi)]) K := by
  have e : ls.map D.int = (ls.map some).map oD := by
    rw [List.map_map]
    rfl
  rw [e]
  refine nums (by rw [List.length_map]; exact hl) ?_
  have e2 : (ls.map some).all (numB lo hi) = true := by
    rw [List.all_eq_true]
    intro o ho
    obtain ⟨l, hm, rfl⟩ := List.mem_map.mp ho
    have := hv l hm
    simp [numB, this.1, this.2]
  rw [e2]
  exact h
theorem table {t : List (Option Int)} {n : Int} {K : S → Prop} (hl : (t.length : Int) = n) (hn : n ≤ 1000) (ht : ∀ i, some i ∈ t → 0 ≤ i ∧ i < n) (h : K (.d (.bl true))) : OKF (f_is_table [.d (tabD t), .d (.int n)]) K := by
  unfold f_is_table b_is_table tabD
  walk_at "wp"
  rw [tup, List.length_map, hl]
  walk_at "wp"
  have e : (decide (n ≤ n)) = true := decide_eq_true (Int.le_refl n)
  simp only [e, Bool.and_true]
  walk_at "wp"
  simp only [ok_lc, ok_iseq]
  walk_at "wp"
  simp only [itemsD, ex_some, wipeE]
  walk_at "wp"
  refine ok_map (f := fun _ => .bl true) rfl ?_ (by rw [List.length_map]; omega) ?_
  · intro y hy
    obtain ⟨o, ho, rfl⟩ := List.mem_map.mp hy
    walk_at "wp"
    cases o with
    | none => exact fun n => absurd rfl n
    | some i =>
      intro _
      rw [num]
      have := ht i ho
      have e : numB 0 (n - 1) (some i) = true := by
        show (decide (0 ≤ i) && decide (i ≤ n - 1)) = true
        rw [decide_eq_true this.1, decide_eq_true (show i ≤ n - 1 by omega)]
        rfl
      rw [e]
      exact ⟨rfl, _, rfl, rfl⟩
  · refine ⟨.d (.bl true), ?_, h⟩
    show (blsD _).bind _ = _
    rw [blsD_map (g := fun _ => true), Option.bind_some]
    show ok1 (.bl ((List.map (fun _ => true) (t.map oD)).all id)) = _
    rw [List.all_map]
    simp [ok1]
theorem made {most many : Int} {ls : List Int} {ts : List (List (Option Int))} (o : OkAlg most many ls ts) (h1 : most ≤ 64) (h2 : many ≤ 64) :
    OK (f_Algebra_init [.o (some 0) (.ins "Algebra" []), .d (.tup (ls.map D.int)), .d (.tup (ts.map tabD))]) fun s ρ => s = .d .non ∧ ρ[0]? = some (some (.o (some 0) (algD ls ts))) := by
  obtain ⟨l1, l2, lv, t1, t2, tb⟩ := o
  unfold f_Algebra_init
  refine ok_runF rfl ?_
  show OK (b_Algebra_init [some (.o (some 0) (.ins "Algebra" [])), some (.d (.tup (ls.map D.int))), some (.d (.tup (ts.map tabD))), none, none]) _
  unfold b_Algebra_init
  refine ok_seqI (fun ρ => ρ = [some (.o (some 0) (.ins "Algebra" [])), some (.d (.tup (ls.map D.int))), some (.d (.tup (ts.map tabD))), none, none]) ?_ ?_
  · walk_at "wp"
    rw [tup, List.length_map, decide_eq_true (show (1 : Int) ≤ ls.length by omega), decide_eq_true (show (ls.length : Int) ≤ 64 by omega)]
    walk_at "wp"
    refine ⟨fun n => (by cases n), fun _ => nums1 (ls := ls) (lo := 0) (hi := 4095) (by omega) (fun l hl => by have := lv l hl; omega) ?_⟩
    walk_at "wp"
  rintro _ rfl
  refine ok_seqI (fun ρ => ρ = [some (.o (some 0) (.ins "Algebra" [])), some (.d (.tup (ls.map D.int))), some (.d (.tup (ts.map tabD))), none, none]) ?_ ?_
  · walk_at "wp"
    rw [tup, List.length_map, decide_eq_true (show (1 : Int) ≤ ts.length by omega), decide_eq_true (show (ts.length : Int) ≤ 64 by omega)]
    walk_at "wp"
    exact fun n => (by cases n)
  rintro _ rfl
  refine ok_seqI (fun ρ => ∃ x3 x4, ρ = [some (.o (some 0) (.ins "Algebra" [])), some (.d (.tup (ls.map D.int))), some (.d (.tup (ts.map tabD))), x3, x4]) ?_ ?_
  · rw [ok_for]
    refine ok_ienu ?_
    walk_at "wp"
    refine ⟨_, _, rfl, rfl, ?_⟩
    refine ok_loop (k := 0) (I := fun i ρ => ∃ x3 x4, ρ = [some (.o (some 0) (.ins "Algebra" [])), some (.d (.tup (ls.map D.int))), some (.d (.tup (ts.map tabD))), x3, x4]) ⟨_, _, rfl⟩ ?_ ?_
    · rintro i x ρ hx ⟨x3, x4, rfl⟩
      obtain ⟨d, hd, rfl⟩ := enumD_at hx
      rw [List.getElem?_map] at hd
      obtain ⟨t, ht, rfl⟩ := Option.map_eq_some_iff.mp hd
      refine ok_gtup2 ?_
      walk_at "wp"
      rw [List.length_map]
      have hm := tb t (List.mem_of_getElem? ht)
      refine table (by rw [hm.1]) (by omega) hm.2 ?_
      walk_at "wp"
      exact ⟨_, _, rfl⟩
    · rintro ρ ⟨x3, x4, rfl⟩
      exact ⟨rfl, _, _, rfl⟩
  rintro _ ⟨x3, x4, rfl⟩
  rw [ok_seq]
  refine ok_setF ?_
  walk_at "wp"
  refine ⟨_, _, rfl, rfl, ?_⟩
  walk_at "wp"
  refine ok_setF ?_
  walk_at "wp"
  exact ⟨_, _, rfl, rfl, rfl⟩
/-! ### what is asked of an algebra -/
/-- the level of what was made -/
def lev (ls : List Int) : Option Int → Int
  | none => 4096
  | some i => (ls[i.toNat]?).getD 0
theorem after {ls : List Int} {ts : List (List (Option Int))} {t : List (Option Int)} {f : Nat} {K : S → Prop} (ht : ts[f]? = some t) (hl : t.length ≤ 1000) (hr : ∀ i, some i ∈ t → 0 ≤ i ∧ i < (ls.length : Int)) (h : K (.o none (.lst (t.map fun o => .int (lev ls o))))) : OKF (f_levels_after [.d (algD ls ts), .d (.int (f : Nat))]) K := by
  unfold f_levels_after b_levels_after
  walk_at "wp"
  refine ok_fld ?_
  walk_at "wp"
  refine ⟨_, _, rfl, rfl, ?_⟩
  have hf := (List.getElem?_eq_some_iff.mp ht).1
  rw [e_ixT (by omega) (by rw [List.length_map]; omega), Int.toNat_natCast, List.getElem?_map, ht]
  walk_at "wp"
  show OK (mLc _ _ _ _ _ [some (.d (algD ls ts)), some (.d (.int (f : Nat))), some (.d (tabD t)), none]) _
  simp only [ok_lc, ok_iseq]
  walk_at "wp"
  simp only [tabD, itemsD, ex_some, wipeE]
  walk_at "wp"
  refine ok_map (f := fun y => match y with | .int i => .int ((ls[i.toNat]?).getD 0) | _ => .int 4096) rfl ?_ (by rw [List.length_map]; omega) ?_
  · intro y hy
    obtain ⟨o, ho, rfl⟩ := List.mem_map.mp hy
    walk_at "wp"
    cases o with
    | none => exact ⟨fun _ => rfl, fun n => absurd rfl n⟩
    | some i =>
      refine ⟨fun n => (by cases n), fun _ => ?_⟩
      have := hr i ho
      refine ok_fld ?_
      walk_at "wp"
      refine ⟨_, _, rfl, rfl, ?_⟩
      show ∃ s, gIx (.tup (ls.map D.int)) (.int i) = some s ∧ _
      rw [e_ixT this.1 (by rw [List.length_map]; exact this.2), List.getElem?_map]
      walk_at "wp"
      obtain ⟨v, e1, e2⟩ := at_nat (xs := ls) this.1 this.2
      show (Option.map D.int ls[i.toNat]?).getD D.non = D.int ((ls[i.toNat]?).getD 0)
      rw [e2]
      rfl
  · have e : (t.map oD).map (fun y => match y with | .int i => D.int ((ls[i.toNat]?).getD 0) | _ => D.int 4096) = t.map fun o => D.int (lev ls o) := by
      rw [List.map_map]
      refine List.map_congr_left fun o _ => ?_
      cases o <;> rfl
    rw [e]
    exact h
/-- a breaks at element j of the table at f -/
def Brk2 (br : Int → Int → Bool) (ls : List Int) (ts : List (List (Option Int))) (f j : Nat) : Bool := match ts[f]?, ls[j]? with
  | some t, some l => br l (lev ls ((t[j]?).getD none))
  | _, _ => false
theorem Brk2.out {br : Int → Int → Bool} {ls : List Int} {ts : List (List (Option Int))} {f j : Nat} (h : ts.length ≤ f ∨ ls.length ≤ j) : Brk2 br ls ts f j = false := by
  unfold Brk2
  rcases h with h | h
  · rw [List.getElem?_eq_none h]
  · rw [List.getElem?_eq_none h]
    cases ts[f]? <;> rfl
/-- a breaks at elements i, j of the table at f -/
def Brk3 (br : Int → Int → Int → Int → Bool) (ls : List Int) (ts : List (List (Option Int))) (f i j : Nat) : Bool := match ts[f]?, ls[i]?, ls[j]? with
  | some t, some a, some b => br a b (lev ls ((t[i]?).getD none)) (lev ls ((t[j]?).getD none))
  | _, _, _ => false
theorem Brk3.out {br : Int → Int → Int → Int → Bool} {ls : List Int} {ts : List (List (Option Int))} {f i j : Nat} (h : ts.length ≤ f ∨ ls.length ≤ i ∨ ls.length ≤ j) : Brk3 br ls ts f i j = false := by
  unfold Brk3
  rcases h with h | h | h
  · rw [List.getElem?_eq_none h]
  · rw [List.getElem?_eq_none h]
    cases ts[f]? <;> rfl
  · rw [List.getElem?_eq_none h]
    cases ts[f]? <;> cases ls[i]? <;> rfl
end Lib
end Fx
/-! words followed, on data -/
namespace Fx
open PySem
local macro_rules | `(tactic| walk_at "wp") => `(tactic| simp only [okF_runF, okF_runL, ok_seq, ok_ret, ok_retN, ok_andV, ok_orV, ok_notV, ok_cb, ok_cons, ok_nil, ok_test, ok_dv, ok_op, ok_un, ok_c, ok_if, ok_ifS, ok_and, ok_or, ok_not, ok_asg, ok_gname, ok_drop, ok_call, ok_chain, ok_nx, ok_bk, ok_ct, ok_st, ok_yes, ok_tup, ok_ok, ok_stuck, ex_toD, ex_toL, ex_bl, ex_some, ex_bl1, fl_nx, fl_rt, fl_bk, fl_ct, rt_or, nx_or, mVar, ok1, gIsi, mIsi2, gIsi2, isTy2, isTy, Option.bind, bare, e_add, e_sub, e_int, e_lenS, e_lenT, e_lenL, e_lt, e_le, e_gt, e_ge, e_leC, e_ltC, e_isN, e_notN, e_pow,
  List.map_cons, List.map_nil, List.length_cons, List.length_nil, List.replicate_succ, List.replicate_zero, List.cons_append, List.nil_append, List.append_nil, List.getElem?_cons_zero, List.getElem?_cons_succ, List.set_cons_zero, List.set_cons_succ, Nat.reduceAdd, Nat.reduceSub, true_and, and_true, Bool.not_true, Bool.not_false, true_implies, forall_const, not_true_eq_false, false_implies, Bool.false_eq_true, not_false_eq_true, implies_true, eq_self, ne_eq, reduceCtorEq, Fl.rt.injEq, S.d.injEq, D.int.injEq, false_and, exists_false, or_false, false_or, exists_eq_left'])
local macro_rules | `(tactic| walk_at "wt") => `(tactic| simp (config := { contextual := false }) only [ok_row0, ok_row1, ok_row2, ok_row3, ok_put1, ok_put2, ok_put3, e_mod, e_div, e_mul, e_ixS, decide_true, decide_false, *, okF_runF, okF_runL, ok_seq, ok_ret, ok_retN, ok_andV, ok_orV, ok_notV, ok_cb, ok_cons, ok_nil, ok_test, ok_dv, ok_op, ok_un, ok_c, ok_if, ok_ifS, ok_and, ok_or, ok_not, ok_asg, ok_gname, ok_drop, ok_call, ok_chain, ok_nx, ok_bk, ok_ct, ok_st, ok_yes, ok_tup, ok_ok, ok_stuck, ex_toD, ex_toL, ex_bl, ex_some, ex_bl1, fl_nx, fl_rt, fl_bk, fl_ct, rt_or, nx_or, mVar, ok1, gIsi, mIsi2, gIsi2, isTy2, isTy, Option.bind, bare, e_add, e_sub, e_int, e_lenS, e_lenT, e_lenL, e_lt, e_le, e_gt, e_ge, e_leC, e_ltC, e_isN, e_notN, e_pow,
  List.map_cons, List.map_nil, List.length_cons, List.length_nil, List.replicate_succ, List.replicate_zero, List.cons_append, List.nil_append, List.append_nil, List.getElem?_cons_zero, List.getElem?_cons_succ, List.set_cons_zero, List.set_cons_succ, Nat.reduceAdd, Nat.reduceSub, true_and, and_true, Bool.not_true, Bool.not_false, true_implies, forall_const, not_true_eq_false, false_implies, Bool.false_eq_true, not_false_eq_true, implies_true, eq_self, ne_eq, reduceCtorEq, Fl.rt.injEq, S.d.injEq, D.int.injEq, false_and, exists_false, or_false, false_or, exists_eq_left'])
local macro_rules | `(tactic| walk_at "wy") => `(tactic| try walk_at "wp")
local macro_rules | `(tactic| walk_at "we") => `(tactic| first | done | rfl | exact ⟨rfl, rfl⟩ | exact ⟨rfl, rfl, rfl⟩)
namespace Lib
def step (ts : List (List (Option Int))) (f : Int) : Option Int → Option Int
  | none => none
  | some i => (((ts[f.toNat]?).getD [])[i.toNat]?).getD none
def In (ls : List Int) (x : Option Int) : Prop := ∀ i, x = some i → 0 ≤ i ∧ i < (ls.length : Int)
end Lib
end Fx
/-! words keep laws; more of rows -/
namespace Fx
open PySem
namespace Lib
end Lib
end Fx
/-! data that fit, slices, sums of tuples -/
namespace Fx
open PySem
/-! slices of tuples -/
local macro_rules | `(tactic| walk_at "wp") => `(tactic| simp only [okF_runF, okF_runL, ok_seq, ok_ret, ok_retN, ok_andV, ok_orV, ok_notV, ok_cb, ok_cons, ok_nil, ok_test, ok_dv, ok_op, ok_un, ok_c, ok_if, ok_ifS, ok_and, ok_or, ok_not, ok_asg, ok_gname, ok_drop, ok_call, ok_chain, ok_nx, ok_bk, ok_ct, ok_st, ok_yes, ok_tup, ok_ok, ok_stuck, ex_toD, ex_toL, ex_bl, ex_some, ex_bl1, fl_nx, fl_rt, fl_bk, fl_ct, rt_or, nx_or, mVar, ok1, gIsi, mIsi2, gIsi2, isTy2, isTy, Option.bind, bare, e_add, e_sub, e_int, e_lenS, e_lenT, e_lenL, e_lt, e_le, e_gt, e_ge, e_leC, e_ltC, e_isN, e_notN, e_pow,
  List.map_cons, List.map_nil, List.length_cons, List.length_nil, List.replicate_succ, List.replicate_zero, List.cons_append, List.nil_append, List.append_nil, List.getElem?_cons_zero, List.getElem?_cons_succ, List.set_cons_zero, List.set_cons_succ, Nat.reduceAdd, Nat.reduceSub, true_and, and_true, Bool.not_true, Bool.not_false, true_implies, forall_const, not_true_eq_false, false_implies, Bool.false_eq_true, not_false_eq_true, implies_true, eq_self, ne_eq, reduceCtorEq, Fl.rt.injEq, S.d.injEq, D.int.injEq, false_and, exists_false, or_false, false_or, exists_eq_left'])
local macro_rules | `(tactic| walk_at "wt") => `(tactic| simp (config := { contextual := false }) only [ok_row0, ok_row1, ok_row2, ok_row3, ok_put1, ok_put2, ok_put3, e_mod, e_div, e_mul, e_ixS, decide_true, decide_false, *, okF_runF, okF_runL, ok_seq, ok_ret, ok_retN, ok_andV, ok_orV, ok_notV, ok_cb, ok_cons, ok_nil, ok_test, ok_dv, ok_op, ok_un, ok_c, ok_if, ok_ifS, ok_and, ok_or, ok_not, ok_asg, ok_gname, ok_drop, ok_call, ok_chain, ok_nx, ok_bk, ok_ct, ok_st, ok_yes, ok_tup, ok_ok, ok_stuck, ex_toD, ex_toL, ex_bl, ex_some, ex_bl1, fl_nx, fl_rt, fl_bk, fl_ct, rt_or, nx_or, mVar, ok1, gIsi, mIsi2, gIsi2, isTy2, isTy, Option.bind, bare, e_add, e_sub, e_int, e_lenS, e_lenT, e_lenL, e_lt, e_le, e_gt, e_ge, e_leC, e_ltC, e_isN, e_notN, e_pow,
  List.map_cons, List.map_nil, List.length_cons, List.length_nil, List.replicate_succ, List.replicate_zero, List.cons_append, List.nil_append, List.append_nil, List.getElem?_cons_zero, List.getElem?_cons_succ, List.set_cons_zero, List.set_cons_succ, Nat.reduceAdd, Nat.reduceSub, true_and, and_true, Bool.not_true, Bool.not_false, true_implies, forall_const, not_true_eq_false, false_implies, Bool.false_eq_true, not_false_eq_true, implies_true, eq_self, ne_eq, reduceCtorEq, Fl.rt.injEq, S.d.injEq, D.int.injEq, false_and, exists_false, or_false, false_or, exists_eq_left'])
local macro_rules | `(tactic| walk_at "wy") => `(tactic| try walk_at "wp")
local macro_rules | `(tactic| walk_at "we") => `(tactic| first | done | rfl | exact ⟨rfl, rfl⟩ | exact ⟨rfl, rfl, rfl⟩)
namespace Lib
theorem OkAlg.app {most m1 m2 : Int} {ls : List Int} {A B : List (List (Option Int))} (a : OkAlg most m1 ls A) (b : OkAlg most m2 ls B) : OkAlg most (m1 + m2) ls (A ++ B) := by
  refine ⟨a.l1, a.l2, a.lv, by rw [List.length_append]; have := a.t1; omega, by rw [List.length_append]; have := a.t2; have := b.t2; omega, fun t ht => ?_⟩
  rcases List.mem_append.mp ht with h | h
  · exact a.tb t h
  · exact b.tb t h
/-! breaks of both -/
end Lib
end Fx
/-! lexicographic products: their levels and functions, when they are isotone -/
namespace Fx
open PySem
namespace Lib
/-! ### the product -/
/-! ### isotone exactly by the parts -/
end Lib
end Fx
/-! comprehensions of two fors -/
/-! expressions that change nothing: their value -/
namespace Fx
open PySem
/-- what stands there has the value x and changes nothing -/
def Ev (f : M S) (ρ : En) (x : D) : Prop := OK (dv f ρ) fun y ρ1 => y = x ∧ ρ1 = ρ
def EvA (f : M (List D)) (ρ : En) (xs : List D) : Prop := OK (f ρ) fun ys ρ1 => ys = xs ∧ ρ1 = ρ
def EvB (f : M Bool) (ρ : En) (b : Bool) : Prop := OK (f ρ) fun c ρ1 => c = b ∧ ρ1 = ρ
section
variable {ρ : En} {x y z : D} {fa fb fe : M S} {fA : M (List D)} {xs : List D} {p q b : Bool} {ft fu : M Bool}
theorem Ev.dv (h : Ev fe ρ x) {P : D → En → Prop} (k : P x ρ) : OK (Fx.dv fe ρ) P := h.imp fun y ρ1 ⟨e1, e2⟩ => by rw [e1, e2]; exact k
theorem EvA.ok (h : EvA fA ρ xs) {P : List D → En → Prop} (k : P xs ρ) : OK (fA ρ) P := h.imp fun y ρ1 ⟨e1, e2⟩ => by rw [e1, e2]; exact k
theorem EvB.ok (h : EvB ft ρ b) {P : Bool → En → Prop} (k : P b ρ) : OK (ft ρ) P := h.imp fun y ρ1 ⟨e1, e2⟩ => by rw [e1, e2]; exact k
theorem ev_of (h : OK (fe ρ) fun s ρ1 => s = .d x ∧ ρ1 = ρ) : Ev fe ρ x := by
  unfold Ev
  rw [ok_dv]
  exact h.imp fun s ρ1 ⟨e1, e2⟩ => ⟨x, by rw [e1]; rfl, rfl, e2⟩
theorem ev_var (i : Nat) (e : ρ[i]? = some (some (.d x))) : Ev (mVar i) ρ x := ev_of (by rw [ok_varD e]; exact ⟨rfl, rfl⟩)
theorem ev_c : Ev (mC x) ρ x := ev_of (by rw [ok_c]; exact ⟨rfl, rfl⟩)
theorem ev_op {g : D → D → Option S} (ha : Ev fa ρ x) (hb : Ev fb ρ y) (e : g x y = some (.d z)) : Ev (mOp g fa fb) ρ z := ev_of (by
  rw [ok_op]
  exact ha.dv (hb.dv ⟨_, e, rfl, rfl⟩))
theorem ea_nil : EvA aNil ρ [] := by
  unfold EvA
  rw [ok_nil]
  exact ⟨rfl, rfl⟩
theorem ea_cons (h : Ev fe ρ x) (k : EvA fA ρ xs) : EvA (aCons fe fA) ρ (x :: xs) := by
  unfold EvA
  rw [ok_cons]
  exact h.dv (k.ok ⟨rfl, rfl⟩)
theorem ev_tup (h : EvA fA ρ xs) (hs : small xs.length = true := by rfl) : Ev (mTup fA) ρ (.tup xs) := ev_of (by
  rw [ok_tup]
  exact h.ok ⟨hs, rfl, rfl⟩)
theorem ev_ixT {ds : List D} {i : Nat} (ha : Ev fa ρ (.tup ds)) (hb : Ev fb ρ (.int (i : Nat))) (e : ds[i]? = some x) : Ev (mOp gIx fa fb) ρ x := ev_op ha hb (by
  have hi := (List.getElem?_eq_some_iff.mp e).1
  obtain ⟨s, e1, k⟩ := (e_ixT (ds := ds) (i := (i : Int)) (by omega) (by omega) (K := fun s => s = .d x)).mpr (by rw [Int.toNat_natCast, e]; rfl)
  rw [e1, k])
theorem atI_nat {α : Type} {ds : List α} {i : Nat} {x : α} (e : ds[i]? = some x) : L2.atI ds (i : Int) = some x := by
  have hi := (List.getElem?_eq_some_iff.mp e).1
  obtain ⟨y, e1, e2⟩ := at_nat (xs := ds) (i := (i : Int)) (by omega) (by omega)
  rw [Int.toNat_natCast, e] at e2
  cases e2
  exact e1
theorem Ev.raw (h : Ev fe ρ x) : OK (fe ρ) fun s ρ1 => toD s = some x ∧ ρ1 = ρ := by
  unfold Ev at h
  rw [ok_dv] at h
  exact h.imp fun s ρ1 ⟨x', e1, e2, e3⟩ => ⟨by rw [e1, e2], e3⟩
theorem ev_lst (h : EvA fA ρ xs) (hs : small xs.length = true := by rfl) (hc : canFz (.lst xs) = true := by rfl) : Ev (mLst fA) ρ (.lst xs) := by
  unfold Ev
  rw [ok_dv, ok_lst]
  refine h.ok ⟨hs, .lst xs, ?_, rfl, rfl⟩
  show (if canFz (.lst xs) then some (D.lst xs) else none) = _
  rw [if_pos hc]
theorem ev_cb {g : List D → Option S} (h : EvA fA ρ xs) (e : g xs = some (.d z)) : Ev (mCB g fA) ρ z := ev_of (by
  rw [ok_cb]
  exact h.ok ⟨_, e, rfl, rfl⟩)
end
end Fx
/-! graphs on data: drawn -/
namespace Fx
open PySem
namespace Lib
def b_law_pick : M Fl := (mRet (mOp gIx (mVar 1) (mCallO f_law_taken 0 0 (aOwn 0 (aCons (mCB gLen (aCons (mVar 1) aNil)) aNil)))))
def f_law_pick : Fn := runF 2 2 b_law_pick
/-- an arc -/
def arcD (p : Nat × Nat) : D := .tup [.int p.1, .int p.2]
def ltA (p q : Nat × Nat) : Prop := p.1 < q.1 ∨ (p.1 = q.1 ∧ p.2 < q.2)
/-- arcs of n nodes, ascending -/
structure OkArcs (n : Nat) (as : List (Nat × Nat)) : Prop where
  rng : ∀ p ∈ as, p.1 < n ∧ p.2 < n ∧ p.1 ≠ p.2
  asc : as.Pairwise ltA
theorem OkArcs.len {n : Nat} : ∀ {as : List (Nat × Nat)}, OkArcs n as → as.length ≤ n * n := by
  intro as o
  have key : ∀ (l : List (Nat × Nat)) (k : Nat), (∀ p ∈ l, k ≤ p.1 * n + p.2 ∧ p.1 * n + p.2 < n * n) → (l.map fun p => p.1 * n + p.2).Pairwise (· < ·) → l.length + k ≤ n * n ∨ l = [] := by
    intro l
    induction l with
    | nil => exact fun _ _ _ => .inr rfl
    | cons p l ih =>
      intro k h hp
      obtain ⟨h1, h2⟩ := h p List.mem_cons_self
      rw [List.map_cons, List.pairwise_cons] at hp
      have := ih (p.1 * n + p.2 + 1) (fun q hq => ⟨hp.1 _ (List.mem_map.mpr ⟨q, hq, rfl⟩), (h q (List.mem_cons_of_mem _ hq)).2⟩) hp.2
      left
      rcases this with this | rfl
      · rw [List.length_cons]
        omega
      · simp only [List.length_cons, List.length_nil]
        omega
  have hb : ∀ p ∈ as, 0 ≤ p.1 * n + p.2 ∧ p.1 * n + p.2 < n * n := fun p hp => by
    obtain ⟨a, b, _⟩ := o.rng p hp
    have : (p.1 + 1) * n ≤ n * n := Nat.mul_le_mul (by omega) (Nat.le_refl _)
    rw [Nat.add_mul, Nat.one_mul] at this
    exact ⟨Nat.zero_le _, by omega⟩
  have hp : (as.map fun p => p.1 * n + p.2).Pairwise (· < ·) := by
    rw [List.pairwise_map]
    refine List.Pairwise.imp_of_mem (fun {p q} hp hq h => ?_) o.asc
    obtain ⟨_, b, _⟩ := o.rng p hp
    rcases h with h | ⟨h1, h2⟩
    · have : (p.1 + 1) * n ≤ q.1 * n := Nat.mul_le_mul (by omega) (Nat.le_refl _)
      rw [Nat.add_mul, Nat.one_mul] at this
      omega
    · rw [h1]
      omega
  rcases key as 0 hb hp with h | rfl
  · omega
  · exact Nat.zero_le _
theorem pick {ns : List Int} {a b c : Int} {ds : List D} (h : RowOk a b c) (h0 : 0 < ds.length) (h1 : ds.length ≤ 1000) :
    OK (f_law_pick [.o (some 0) (rowD ns a b c), .d (.lst ds)]) fun s ρ => ∃ x a b c, x ∈ ds ∧ s = .d x ∧ RowOk a b c ∧ ∃ ρ', ρ = some (.o (some 0) (rowD ns a b c)) :: ρ' := by
  unfold f_law_pick
  refine ok_runF rfl ?_
  show OK (b_law_pick [some (.o (some 0) (rowD ns a b c)), some (.d (.lst ds))]) _
  unfold b_law_pick
  rw [ok_ret, ok_op]
  refine (ev_var 1 rfl).dv ?_
  rw [ok_dv]
  refine ok_taken (m := ds.length) rfl h ?_ (by omega) (by omega) fun v a b c v0 v1 h => ?_
  · exact (ev_cb (ea_cons (ev_var 1 rfl) ea_nil) rfl).dv ⟨rfl, rfl⟩
  refine ⟨_, rfl, ?_⟩
  obtain ⟨x, e1, e2⟩ := at_nat (xs := ds) v0 v1
  refine ⟨.d x, ?_, .inl ⟨_, rfl, x, a, b, c, List.mem_of_getElem? e2, rfl, h, _, rfl⟩⟩
  show (L2.atI ds v).bind ok1 = _
  rw [e1]
  rfl
end Lib
end Fx
/-! graphs on data: made, checked -/
namespace Fx
open PySem
local macro_rules | `(tactic| walk_at "wp") => `(tactic| simp only [okF_runF, okF_runL, ok_seq, ok_ret, ok_retN, ok_andV, ok_orV, ok_notV, ok_cb, ok_cons, ok_nil, ok_test, ok_dv, ok_op, ok_un, ok_c, ok_if, ok_ifS, ok_and, ok_or, ok_not, ok_asg, ok_gname, ok_drop, ok_call, ok_chain, ok_nx, ok_bk, ok_ct, ok_st, ok_yes, ok_tup, ok_ok, ok_stuck, ex_toD, ex_toL, ex_bl, ex_some, ex_bl1, fl_nx, fl_rt, fl_bk, fl_ct, rt_or, nx_or, mVar, ok1, gIsi, mIsi2, gIsi2, isTy2, isTy, Option.bind, bare, e_add, e_sub, e_int, e_lenS, e_lenT, e_lenL, e_lt, e_le, e_gt, e_ge, e_leC, e_ltC, e_isN, e_notN, e_pow,
  List.map_cons, List.map_nil, List.length_cons, List.length_nil, List.replicate_succ, List.replicate_zero, List.cons_append, List.nil_append, List.append_nil, List.getElem?_cons_zero, List.getElem?_cons_succ, List.set_cons_zero, List.set_cons_succ, Nat.reduceAdd, Nat.reduceSub, true_and, and_true, Bool.not_true, Bool.not_false, true_implies, forall_const, not_true_eq_false, false_implies, Bool.false_eq_true, not_false_eq_true, implies_true, eq_self, ne_eq, reduceCtorEq, Fl.rt.injEq, S.d.injEq, D.int.injEq, false_and, exists_false, or_false, false_or, exists_eq_left'])
local macro_rules | `(tactic| walk_at "wt") => `(tactic| simp (config := { contextual := false }) only [ok_row0, ok_row1, ok_row2, ok_row3, ok_put1, ok_put2, ok_put3, e_mod, e_div, e_mul, e_ixS, decide_true, decide_false, *, okF_runF, okF_runL, ok_seq, ok_ret, ok_retN, ok_andV, ok_orV, ok_notV, ok_cb, ok_cons, ok_nil, ok_test, ok_dv, ok_op, ok_un, ok_c, ok_if, ok_ifS, ok_and, ok_or, ok_not, ok_asg, ok_gname, ok_drop, ok_call, ok_chain, ok_nx, ok_bk, ok_ct, ok_st, ok_yes, ok_tup, ok_ok, ok_stuck, ex_toD, ex_toL, ex_bl, ex_some, ex_bl1, fl_nx, fl_rt, fl_bk, fl_ct, rt_or, nx_or, mVar, ok1, gIsi, mIsi2, gIsi2, isTy2, isTy, Option.bind, bare, e_add, e_sub, e_int, e_lenS, e_lenT, e_lenL, e_lt, e_le, e_gt, e_ge, e_leC, e_ltC, e_isN, e_notN, e_pow,
  List.map_cons, List.map_nil, List.length_cons, List.length_nil, List.replicate_succ, List.replicate_zero, List.cons_append, List.nil_append, List.append_nil, List.getElem?_cons_zero, List.getElem?_cons_succ, List.set_cons_zero, List.set_cons_succ, Nat.reduceAdd, Nat.reduceSub, true_and, and_true, Bool.not_true, Bool.not_false, true_implies, forall_const, not_true_eq_false, false_implies, Bool.false_eq_true, not_false_eq_true, implies_true, eq_self, ne_eq, reduceCtorEq, Fl.rt.injEq, S.d.injEq, D.int.injEq, false_and, exists_false, or_false, false_or, exists_eq_left'])
local macro_rules | `(tactic| walk_at "wy") => `(tactic| try walk_at "wp")
local macro_rules | `(tactic| walk_at "we") => `(tactic| first | done | rfl | exact ⟨rfl, rfl⟩ | exact ⟨rfl, rfl, rfl⟩)
namespace Lib
end Lib
end Fx
/-! graphs on data: drawn whole -/
namespace Fx
open PySem
local macro_rules | `(tactic| walk_at "wp") => `(tactic| simp only [okF_runF, okF_runL, ok_seq, ok_ret, ok_retN, ok_andV, ok_orV, ok_notV, ok_cb, ok_cons, ok_nil, ok_test, ok_dv, ok_op, ok_un, ok_c, ok_if, ok_ifS, ok_and, ok_or, ok_not, ok_asg, ok_gname, ok_drop, ok_call, ok_chain, ok_nx, ok_bk, ok_ct, ok_st, ok_yes, ok_tup, ok_ok, ok_stuck, ex_toD, ex_toL, ex_bl, ex_some, ex_bl1, fl_nx, fl_rt, fl_bk, fl_ct, rt_or, nx_or, mVar, ok1, gIsi, mIsi2, gIsi2, isTy2, isTy, Option.bind, bare, e_add, e_sub, e_int, e_lenS, e_lenT, e_lenL, e_lt, e_le, e_gt, e_ge, e_leC, e_ltC, e_isN, e_notN, e_pow,
  List.map_cons, List.map_nil, List.length_cons, List.length_nil, List.replicate_succ, List.replicate_zero, List.cons_append, List.nil_append, List.append_nil, List.getElem?_cons_zero, List.getElem?_cons_succ, List.set_cons_zero, List.set_cons_succ, Nat.reduceAdd, Nat.reduceSub, true_and, and_true, Bool.not_true, Bool.not_false, true_implies, forall_const, not_true_eq_false, false_implies, Bool.false_eq_true, not_false_eq_true, implies_true, eq_self, ne_eq, reduceCtorEq, Fl.rt.injEq, S.d.injEq, D.int.injEq, false_and, exists_false, or_false, false_or, exists_eq_left'])
local macro_rules | `(tactic| walk_at "wt") => `(tactic| simp (config := { contextual := false }) only [ok_row0, ok_row1, ok_row2, ok_row3, ok_put1, ok_put2, ok_put3, e_mod, e_div, e_mul, e_ixS, decide_true, decide_false, *, okF_runF, okF_runL, ok_seq, ok_ret, ok_retN, ok_andV, ok_orV, ok_notV, ok_cb, ok_cons, ok_nil, ok_test, ok_dv, ok_op, ok_un, ok_c, ok_if, ok_ifS, ok_and, ok_or, ok_not, ok_asg, ok_gname, ok_drop, ok_call, ok_chain, ok_nx, ok_bk, ok_ct, ok_st, ok_yes, ok_tup, ok_ok, ok_stuck, ex_toD, ex_toL, ex_bl, ex_some, ex_bl1, fl_nx, fl_rt, fl_bk, fl_ct, rt_or, nx_or, mVar, ok1, gIsi, mIsi2, gIsi2, isTy2, isTy, Option.bind, bare, e_add, e_sub, e_int, e_lenS, e_lenT, e_lenL, e_lt, e_le, e_gt, e_ge, e_leC, e_ltC, e_isN, e_notN, e_pow,
  List.map_cons, List.map_nil, List.length_cons, List.length_nil, List.replicate_succ, List.replicate_zero, List.cons_append, List.nil_append, List.append_nil, List.getElem?_cons_zero, List.getElem?_cons_succ, List.set_cons_zero, List.set_cons_succ, Nat.reduceAdd, Nat.reduceSub, true_and, and_true, Bool.not_true, Bool.not_false, true_implies, forall_const, not_true_eq_false, false_implies, Bool.false_eq_true, not_false_eq_true, implies_true, eq_self, ne_eq, reduceCtorEq, Fl.rt.injEq, S.d.injEq, D.int.injEq, false_and, exists_false, or_false, false_or, exists_eq_left'])
local macro_rules | `(tactic| walk_at "wy") => `(tactic| try walk_at "wp")
local macro_rules | `(tactic| walk_at "we") => `(tactic| first | done | rfl | exact ⟨rfl, rfl⟩ | exact ⟨rfl, rfl, rfl⟩)
namespace Lib
theorem pick_at {ns : List Int} {o : Option Nat} {a b c : Int} {r : Nat} {ρ : En} {fl : M S} {ds : List D} {P : S → En → Prop} (e : ρ[r]? = some (rowS o ns a b c)) (h : RowOk a b c) (hl : Ev fl ρ (.lst ds)) (h0 : 0 < ds.length) (h1 : ds.length ≤ 1000)
    (q : ∀ x a b c, x ∈ ds → RowOk a b c → P (.d x) (ρ.set r (rowS o ns a b c))) : OK (mCallO f_law_pick r 0 (aOwn r (aCons fl aNil)) ρ) P := by
  refine ok_callO (ok_own.mpr ⟨own_row e, ?_⟩)
  refine (ea_cons hl ea_nil).ok ⟨o, rowD ns a b c, e, Nat.zero_le _, (pick h h0 h1).imp fun s ρ' hp => ?_⟩
  obtain ⟨x, a', b', c', hx, rfl, h', ρ2, rfl⟩ := hp
  exact ⟨rowD ns a' b' c', rfl, rfl, q x a' b' c' hx h'⟩
end Lib
end Fx
/-! dict comprehensions on data -/
namespace Fx
open PySem
local macro_rules | `(tactic| walk_at "wp") => `(tactic| simp only [okF_runF, okF_runL, ok_seq, ok_ret, ok_retN, ok_andV, ok_orV, ok_notV, ok_cb, ok_cons, ok_nil, ok_test, ok_dv, ok_op, ok_un, ok_c, ok_if, ok_ifS, ok_and, ok_or, ok_not, ok_asg, ok_gname, ok_drop, ok_call, ok_chain, ok_nx, ok_bk, ok_ct, ok_st, ok_yes, ok_tup, ok_ok, ok_stuck, ex_toD, ex_toL, ex_bl, ex_some, ex_bl1, fl_nx, fl_rt, fl_bk, fl_ct, rt_or, nx_or, mVar, ok1, gIsi, mIsi2, gIsi2, isTy2, isTy, Option.bind, bare, e_add, e_sub, e_int, e_lenS, e_lenT, e_lenL, e_lt, e_le, e_gt, e_ge, e_leC, e_ltC, e_isN, e_notN, e_pow,
  List.map_cons, List.map_nil, List.length_cons, List.length_nil, List.replicate_succ, List.replicate_zero, List.cons_append, List.nil_append, List.append_nil, List.getElem?_cons_zero, List.getElem?_cons_succ, List.set_cons_zero, List.set_cons_succ, Nat.reduceAdd, Nat.reduceSub, true_and, and_true, Bool.not_true, Bool.not_false, true_implies, forall_const, not_true_eq_false, false_implies, Bool.false_eq_true, not_false_eq_true, implies_true, eq_self, ne_eq, reduceCtorEq, Fl.rt.injEq, S.d.injEq, D.int.injEq, false_and, exists_false, or_false, false_or, exists_eq_left'])
local macro_rules | `(tactic| walk_at "wt") => `(tactic| simp (config := { contextual := false }) only [ok_row0, ok_row1, ok_row2, ok_row3, ok_put1, ok_put2, ok_put3, e_mod, e_div, e_mul, e_ixS, decide_true, decide_false, *, okF_runF, okF_runL, ok_seq, ok_ret, ok_retN, ok_andV, ok_orV, ok_notV, ok_cb, ok_cons, ok_nil, ok_test, ok_dv, ok_op, ok_un, ok_c, ok_if, ok_ifS, ok_and, ok_or, ok_not, ok_asg, ok_gname, ok_drop, ok_call, ok_chain, ok_nx, ok_bk, ok_ct, ok_st, ok_yes, ok_tup, ok_ok, ok_stuck, ex_toD, ex_toL, ex_bl, ex_some, ex_bl1, fl_nx, fl_rt, fl_bk, fl_ct, rt_or, nx_or, mVar, ok1, gIsi, mIsi2, gIsi2, isTy2, isTy, Option.bind, bare, e_add, e_sub, e_int, e_lenS, e_lenT, e_lenL, e_lt, e_le, e_gt, e_ge, e_leC, e_ltC, e_isN, e_notN, e_pow,
  List.map_cons, List.map_nil, List.length_cons, List.length_nil, List.replicate_succ, List.replicate_zero, List.cons_append, List.nil_append, List.append_nil, List.getElem?_cons_zero, List.getElem?_cons_succ, List.set_cons_zero, List.set_cons_succ, Nat.reduceAdd, Nat.reduceSub, true_and, and_true, Bool.not_true, Bool.not_false, true_implies, forall_const, not_true_eq_false, false_implies, Bool.false_eq_true, not_false_eq_true, implies_true, eq_self, ne_eq, reduceCtorEq, Fl.rt.injEq, S.d.injEq, D.int.injEq, false_and, exists_false, or_false, false_or, exists_eq_left'])
local macro_rules | `(tactic| walk_at "wy") => `(tactic| try walk_at "wp")
local macro_rules | `(tactic| walk_at "we") => `(tactic| first | done | rfl | exact ⟨rfl, rfl⟩ | exact ⟨rfl, rfl, rfl⟩)
end Fx
/-! a while, a stack -/
/-! lists of numbers on data; statements one after another -/
namespace Fx.Nl
open PySem Lib
abbrev nl (L : List Nat) : List D := L.map fun i : Nat => D.int i
theorem nl_len (a : List Nat) : (nl a).length = a.length := List.length_map _
theorem nl_get {a : List Nat} {i v : Nat} (e : a[i]? = some v) : (nl a)[i]? = some (.int (v : Nat)) := by
  show (a.map fun i : Nat => D.int i)[i]? = _
  rw [List.getElem?_map, e]
  rfl
section
variable {ρ : En} {i j k : Nat} {b : Option Nat} {t : Bool} {x y : D} {xs : List D} {fa fb fe ff : M S} {fA : M (List D)} {ft : M Bool} {F G : M Fl} {PF : Fl → En → Prop}
theorem sq (h : OK (F ρ) fun f ρ1 => f = .nx ∧ OK (G ρ1) PF) : OK (mSeq F G ρ) PF := ok_seqI _ h fun _ h => h
theorem asgL (h : EvA fA ρ xs) (hs : small xs.length = true) (q : PF .nx (ρ.set i (some (.o none (.lst xs))))) : OK (mAsgO i (mLst fA) ρ) PF := by
  rw [ok_asgO, ok_lst]
  exact h.ok ⟨hs, .inl ⟨_, rfl, q⟩⟩
end
/-! numbers in lists -/
end Fx.Nl
/-! loops, draws -/
namespace Fx.Nl
open PySem Lib
section
variable {ρ : En} {i j k r : Nat} {o b : Option Nat} {t : Bool} {x y : D} {xs ds : List D} {fa fb fe ff fs fm : M S} {fA : M (List D)} {ft : M Bool} {F G : M Fl} {PF : Fl → En → Prop} {I : Nat → En → Prop} {gm : D → M Unit}
theorem fin {I A : Prop} {B : S → Prop} (h : I) : (Fl.nx = .nx ∨ Fl.nx = .ct → I) ∧ (Fl.nx = .bk → A) ∧ ∀ s, Fl.nx = .rt s → B s := ⟨fun _ => h, fun z => (nomatch z), fun _ z => (nomatch z)⟩
/-- a draw within an expression -/
theorem tk {a c d : Int} {ns : List Int} {m : Nat} {P : D → En → Prop} (e : ρ[r]? = some (rowS o ns a c d)) (hr : RowOk a c d) (hm : Ev fm ρ (.int (m : Nat))) (h1 : 0 < m) (h2 : m ≤ 1000000)
    (q : ∀ (v : Nat) a c d, v < m → RowOk a c d → P (.int (v : Nat)) (ρ.set r (rowS o ns a c d))) : OK (dv (mCallO Lib.f_law_taken r 0 (aOwn r (aCons fm aNil))) ρ) P := by
  rw [ok_dv]
  refine ok_taken e hr (hm.dv ⟨rfl, rfl⟩) (by omega) (by omega) fun v a c d v0 v1 h => ?_
  refine ⟨_, rfl, ?_⟩
  have := q v.toNat a c d (by omega) h
  rw [Int.toNat_of_nonneg v0] at this
  exact this
/-- t[i:i + 2] -/
theorem sl2 {fl fh : M S} {L : List Nat} {i v w : Nat} (ha : Ev fa ρ (.tup (nl L))) (hl : Ev fl ρ (.int (i : Nat))) (hh : Ev fh ρ (.int ((i + 2 : Nat) : Int))) (e1 : L[i]? = some v) (e2 : L[i + 1]? = some w) : Ev (mSl fa (oSome fl) (oSome fh)) ρ (arcD (v, w)) := ev_of (by
  have hi : i + 1 < L.length := (List.getElem?_eq_some_iff.mp e2).1
  refine ok_sl (ha.dv ?_)
  refine ok_osome (hl.dv ⟨_, rfl, ?_⟩)
  refine ok_osome (hh.dv ⟨_, rfl, .d (arcD (v, w)), ?_, rfl, rfl⟩)
  show some (S.d (.tup (cutD (nl L) (some (i : Nat)) (some ((i + 2 : Nat) : Int))))) = _
  have e : cutD (nl L) (some (i : Nat)) (some ((i + 2 : Nat) : Int)) = [.int (v : Nat), .int (w : Nat)] := by
    unfold cutD
    have k1 : HT.sIx (nl L).length 0 (some (i : Int)) = i := by
      show (if (i : Int) < 0 then ((nl L).length + (i : Int)).toNat else min (i : Int).toNat (nl L).length) = _
      rw [if_neg (by omega), nl_len, Int.toNat_natCast, Nat.min_eq_left (by omega)]
    have k2 : HT.sIx (nl L).length (nl L).length (some ((i + 2 : Nat) : Int)) = i + 2 := by
      show (if ((i + 2 : Nat) : Int) < 0 then ((nl L).length + ((i + 2 : Nat) : Int)).toNat else min ((i + 2 : Nat) : Int).toNat (nl L).length) = _
      rw [if_neg (by omega), nl_len, Int.toNat_natCast, Nat.min_eq_left (by omega)]
    rw [k1, k2, show i + 2 - i = 2 by omega, ← List.map_drop, ← List.map_take]
    have e3 : (L.drop i).take 2 = [v, w] := by
      refine List.ext_getElem? fun j => ?_
      rw [List.getElem?_take]
      split
      · rw [List.getElem?_drop]
        rename_i hj
        match j, hj with
        | 0, _ => simpa using e1
        | 1, _ => simpa using e2
      · rename_i hj
        rw [List.getElem?_eq_none (by simp; omega)]
    rw [e3]
    rfl
  rw [e]
  rfl)
theorem ixN {L : List Nat} {i v : Nat} (ha : Ev fa ρ (.tup (nl L))) (hb : Ev fb ρ (.int (i : Nat))) (e : L[i]? = some v) : Ev (mOp gIx fa fb) ρ (.int (v : Nat)) := ev_ixT ha hb (nl_get e)
end
end Fx.Nl
/-! k44: the law on data: closed but for one draw of two -/
namespace Fx.K44
open PySem Lib Nl
theorem e_pick : K44.f_law_pick = Lib.f_law_pick := rfl
def isT (o : Out Fl) : Bool := match o with
  | .ok (.rt (.d (.bl true))) _ => true
  | _ => false
theorem stp {F G : Fx.M Fl} {ρ ρ1 : En} {P : Fl → En → Prop} (e : F ρ = .ok .nx ρ1) (q : OK (G ρ1) P) : OK (mSeq F G ρ) P := sq (by rw [e, ok_ok]; exact ⟨rfl, q⟩)
def st0 : Fx.M Fl := (mAsgO 1 (mLst (aCons (mVar 0) (aCons (mC (.int 0)) (aCons (mC (.int 3544)) (aCons (mC (.int 0)) aNil))))))
def st1 : Fx.M Fl := (mAsg (mMake "Choices" 1 f_Choices_init (aCons (mTup (aCons (mTup (aCons (mTup (aCons (mC (.int 1)) (aCons (mC (.int 2)) (aCons (mC (.int 0)) aNil)))) (aCons (mTup (aCons (mC (.int 1)) (aCons (mC (.int 0)) aNil))) aNil))) (aCons (mTup (aCons (mTup (aCons (mC (.int 2)) (aCons (mC (.int 1)) (aCons (mC (.int 0)) aNil)))) (aCons (mTup (aCons (mC (.int 2)) (aCons (mC (.int 0)) aNil))) aNil))) aNil))) aNil)) (gmName 2))
def st2 : Fx.M Fl := (mAsg (mMake "Choices" 1 f_Choices_init (aCons (mTup (aCons (mTup (aCons (mTup (aCons (mC (.int 1)) (aCons (mC (.int 3)) (aCons (mC (.int 0)) aNil)))) (aCons (mTup (aCons (mC (.int 1)) (aCons (mC (.int 0)) aNil))) aNil))) (aCons (mTup (aCons (mTup (aCons (mC (.int 2)) (aCons (mC (.int 1)) (aCons (mC (.int 0)) aNil)))) (aCons (mTup (aCons (mC (.int 2)) (aCons (mC (.int 0)) aNil))) aNil))) (aCons (mTup (aCons (mTup (aCons (mC (.int 3)) (aCons (mC (.int 0)) aNil))) aNil)) aNil)))) aNil)) (gmName 3))
def st3 : Fx.M Fl := (mAsg (mMake "Choices" 1 f_Choices_init (aCons (mTup (aCons (mTup (aCons (mTup (aCons (mC (.int 1)) (aCons (mC (.int 2)) (aCons (mC (.int 0)) aNil)))) (aCons (mTup (aCons (mC (.int 1)) (aCons (mC (.int 0)) aNil))) aNil))) (aCons (mTup (aCons (mTup (aCons (mC (.int 2)) (aCons (mC (.int 3)) (aCons (mC (.int 0)) aNil)))) (aCons (mTup (aCons (mC (.int 2)) (aCons (mC (.int 0)) aNil))) aNil))) (aCons (mTup (aCons (mTup (aCons (mC (.int 3)) (aCons (mC (.int 1)) (aCons (mC (.int 0)) aNil)))) (aCons (mTup (aCons (mC (.int 3)) (aCons (mC (.int 0)) aNil))) aNil))) aNil)))) aNil)) (gmName 4))
def st4 : Fx.M Fl := (mAsg (mMake "Choices" 1 f_Choices_init (aCons (mTup (aCons (mTup (aCons (mTup (aCons (mC (.int 1)) (aCons (mC (.int 2)) (aCons (mC (.int 0)) aNil)))) (aCons (mTup (aCons (mC (.int 1)) (aCons (mC (.int 0)) aNil))) aNil))) (aCons (mTup (aCons (mTup (aCons (mC (.int 2)) (aCons (mC (.int 3)) (aCons (mC (.int 0)) aNil)))) (aCons (mTup (aCons (mC (.int 2)) (aCons (mC (.int 0)) aNil))) aNil))) (aCons (mTup (aCons (mTup (aCons (mC (.int 3)) (aCons (mC (.int 1)) (aCons (mC (.int 0)) aNil)))) (aCons (mTup (aCons (mC (.int 3)) (aCons (mC (.int 4)) (aCons (mC (.int 0)) aNil)))) (aCons (mTup (aCons (mC (.int 3)) (aCons (mC (.int 0)) aNil))) aNil)))) (aCons (mTup (aCons (mTup (aCons (mC (.int 4)) (aCons (mC (.int 0)) aNil))) aNil)) aNil))))) aNil)) (gmName 5))
def st5 : Fx.M Fl := (mAsg (mLc (iSeq (mLst (aCons (mC (.int 2)) (aCons (mC (.int 3)) (aCons (mC (.int 3)) (aCons (mC (.int 4)) aNil)))))) (gmName 7) mYes (mOp gMulT (mTup (aCons (mC .non) aNil)) (mVar 7)) [7]) (gmName 6))
def st6 : Fx.M Fl := (mAsg (mLst (aCons (mOp gIsN (mCall f_storm (aCons (mVar 2) (aCons (mOp gIx (mVar 6) (mC (.int 0))) aNil))) (mC .non)) (aCons (mOp gIsN (mCall f_storm (aCons (mVar 3) (aCons (mOp gIx (mVar 6) (mC (.int 1))) aNil))) (mC .non)) (aCons (mOp gIsN (mCall f_storm (aCons (mVar 4) (aCons (mOp gIx (mVar 6) (mC (.int 2))) aNil))) (mC .non)) (aCons (mOp gIsN (mCall f_storm (aCons (mVar 5) (aCons (mOp gIx (mVar 6) (mC (.int 3))) aNil))) (mC .non)) aNil))))) (gmName 8))
def st7 : Fx.M Fl := (mIfS (mOr (mTest (mOp gNe (mVar 8) (mLst (aCons (mC (.bl true)) (aCons (mC (.bl true)) (aCons (mC (.bl false)) (aCons (mC (.bl true)) aNil))))))) (mOr (mTest (mOp gNe (mCall f_stable_of (aCons (mVar 4) aNil)) (mLst aNil))) (mOr (mTest (mOp gNe (mCB gLen (aCons (mCall f_stable_of (aCons (mVar 5) aNil)) aNil)) (mC (.int 1)))) (mTest (mOp gIsN (mCall f_wheel (aCons (mVar 5) aNil)) (mC .non)))))) (mRet (mC (.bl false))) mNx)
def st8 : Fx.M Fl := (mIfS (mTest (mOp gNe (mOp gIx (mCall f_states_from (aCons (mVar 2) (aCons (mOp gIx (mVar 6) (mC (.int 0))) aNil))) (mC (.int 1))) (mLst (aCons (mTup (aCons (mTup (aCons (mC (.int 1)) (aCons (mC (.int 0)) aNil))) (aCons (mTup (aCons (mC (.int 2)) (aCons (mC (.int 1)) (aCons (mC (.int 0)) aNil)))) aNil))) (aCons (mTup (aCons (mTup (aCons (mC (.int 1)) (aCons (mC (.int 2)) (aCons (mC (.int 0)) aNil)))) (aCons (mTup (aCons (mC (.int 2)) (aCons (mC (.int 0)) aNil))) aNil))) aNil))))) (mRet (mC (.bl false))) mNx)
def st9 : Fx.M Fl := (mAsg (mCallO f_law_pick 1 0 (aOwn 1 (aCons (mLst (aCons (mTup (aCons (mTup (aCons (mC (.int 1)) (aCons (mC (.int 2)) (aCons (mC (.int 0)) aNil)))) (aCons (mTup (aCons (mC (.int 2)) (aCons (mC (.int 0)) aNil))) aNil))) (aCons (mTup (aCons (mTup (aCons (mC (.int 1)) (aCons (mC (.int 0)) aNil))) (aCons (mTup (aCons (mC (.int 2)) (aCons (mC (.int 1)) (aCons (mC (.int 0)) aNil)))) aNil))) aNil))) aNil))) (gmName 9))
def st10 : Fx.M Fl := (mRet (mAndV (mOp gEq (mCall f_states_from (aCons (mVar 2) (aCons (mVar 9) aNil))) (mTup (aCons (mC (.int 1)) (aCons (mLst (aCons (mVar 9) aNil)) aNil)))) (mOp gIsN (mCall f_storm (aCons (mVar 2) (aCons (mVar 9) aNil))) (mC .non))))
theorem b_law_eq : b_law = mSeq st0 (mSeq st1 (mSeq st2 (mSeq st3 (mSeq st4 (mSeq st5 (mSeq st6 (mSeq st7 (mSeq st8 (mSeq st9 (st10)))))))))) := rfl
def outF (i : Nat) (f : Fx.M Fl) (ρ : En) : D := match f ρ with
  | .ok _ ρ1 => match ρ1[i]? with
    | some (some (.d d)) => d
    | _ => .non
  | _ => .non
def z0 : En := [none, none, none, none, none, none, none, none, none, none]
def v2 : D := outF 2 st1 z0
def v3 : D := outF 3 st2 z0
def v4 : D := outF 4 st3 z0
def v5 : D := outF 5 st4 z0
def v6 : D := outF 6 st5 z0
def v8 : D := .lst [.bl true, .bl true, .bl false, .bl true]
def o1 : D := .tup [.tup [.int 1, .int 2, .int 0], .tup [.int 2, .int 0]]
def o2 : D := .tup [.tup [.int 1, .int 0], .tup [.int 2, .int 1, .int 0]]
def E (r : Option Fx.S) (ns : List Int) (l : List (Option Fx.S)) : En := some (.d (.scr ns)) :: r :: l
section
variable (ns : List Int) (r : Option Fx.S)
theorem k1 : st1 (E r ns [none, none, none, none, none, none, none, none]) = .ok .nx (E r ns [some (.d v2), none, none, none, none, none, none, none]) := by kernel_rfl
theorem k2 : st2 (E r ns [some (.d v2), none, none, none, none, none, none, none]) = .ok .nx (E r ns [some (.d v2), some (.d v3), none, none, none, none, none, none]) := by kernel_rfl
theorem k3 : st3 (E r ns [some (.d v2), some (.d v3), none, none, none, none, none, none]) = .ok .nx (E r ns [some (.d v2), some (.d v3), some (.d v4), none, none, none, none, none]) := by kernel_rfl
theorem k4 : st4 (E r ns [some (.d v2), some (.d v3), some (.d v4), none, none, none, none, none]) = .ok .nx (E r ns [some (.d v2), some (.d v3), some (.d v4), some (.d v5), none, none, none, none]) := by kernel_rfl
theorem k5 : st5 (E r ns [some (.d v2), some (.d v3), some (.d v4), some (.d v5), none, none, none, none]) = .ok .nx (E r ns [some (.d v2), some (.d v3), some (.d v4), some (.d v5), some (.d v6), none, none, none]) := by kernel_rfl
theorem k6 : st6 (E r ns [some (.d v2), some (.d v3), some (.d v4), some (.d v5), some (.d v6), none, none, none]) = .ok .nx (E r ns [some (.d v2), some (.d v3), some (.d v4), some (.d v5), some (.d v6), none, some (.d v8), none]) := by kernel_rfl
theorem k7 : st7 (E r ns [some (.d v2), some (.d v3), some (.d v4), some (.d v5), some (.d v6), none, some (.d v8), none]) = .ok .nx (E r ns [some (.d v2), some (.d v3), some (.d v4), some (.d v5), some (.d v6), none, some (.d v8), none]) := by kernel_rfl
theorem k8 : st8 (E r ns [some (.d v2), some (.d v3), some (.d v4), some (.d v5), some (.d v6), none, some (.d v8), none]) = .ok .nx (E r ns [some (.d v2), some (.d v3), some (.d v4), some (.d v5), some (.d v6), none, some (.d v8), none]) := by kernel_rfl
theorem t1 : isT (st10 (E r ns [some (.d v2), some (.d v3), some (.d v4), some (.d v5), some (.d v6), none, some (.d v8), some (.d o1)])) = true := by kernel_rfl
theorem t2 : isT (st10 (E r ns [some (.d v2), some (.d v3), some (.d v4), some (.d v5), some (.d v6), none, some (.d v8), some (.d o2)])) = true := by kernel_rfl
end
end Fx.K44
/-! k44: the law on data -/
namespace Fx.K44
open PySem Lib Nl
theorem of_isT {o : Out Fl} (h : isT o = true) : OK o fun f _ => f = .rt (.d (.bl true)) := by
  cases o with
  | stuck => cases h
  | err e ρ => cases h
  | ok f ρ =>
    rw [ok_ok]
    unfold isT at h
    split at h
    · rename_i heq
      cases heq
      rfl
    · cases h
theorem law_of {bl S1 S2 S3 S4 S5 S6 S7 S8 S10 : Fx.M Fl} {v2 v3 v4 v5 v6 v8 : D} (hb : bl = mSeq st0 (mSeq S1 (mSeq S2 (mSeq S3 (mSeq S4 (mSeq S5 (mSeq S6 (mSeq S7 (mSeq S8 (mSeq st9 (S10))))))))))) (k1 : ∀ (ns : List Int) (r : Option Fx.S), S1 (E r ns [none, none, none, none, none, none, none, none]) = .ok .nx (E r ns [some (.d v2), none, none, none, none, none, none, none])) (k2 : ∀ (ns : List Int) (r : Option Fx.S), S2 (E r ns [some (.d v2), none, none, none, none, none, none, none]) = .ok .nx (E r ns [some (.d v2), some (.d v3), none, none, none, none, none, none])) (k3 : ∀ (ns : List Int) (r : Option Fx.S), S3 (E r ns [some (.d v2), some (.d v3), none, none, none, none, none, none]) = .ok .nx (E r ns [some (.d v2), some (.d v3), some (.d v4), none, none, none, none, none])) (k4 : ∀ (ns : List Int) (r : Option Fx.S), S4 (E r ns [some (.d v2), some (.d v3), some (.d v4), none, none, none, none, none]) = .ok .nx (E r ns [some (.d v2), some (.d v3), some (.d v4), some (.d v5), none, none, none, none])) (k5 : ∀ (ns : List Int) (r : Option Fx.S), S5 (E r ns [some (.d v2), some (.d v3), some (.d v4), some (.d v5), none, none, none, none]) = .ok .nx (E r ns [some (.d v2), some (.d v3), some (.d v4), some (.d v5), some (.d v6), none, none, none])) (k6 : ∀ (ns : List Int) (r : Option Fx.S), S6 (E r ns [some (.d v2), some (.d v3), some (.d v4), some (.d v5), some (.d v6), none, none, none]) = .ok .nx (E r ns [some (.d v2), some (.d v3), some (.d v4), some (.d v5), some (.d v6), none, some (.d v8), none])) (k7 : ∀ (ns : List Int) (r : Option Fx.S), S7 (E r ns [some (.d v2), some (.d v3), some (.d v4), some (.d v5), some (.d v6), none, some (.d v8), none]) = .ok .nx (E r ns [some (.d v2), some (.d v3), some (.d v4), some (.d v5), some (.d v6), none, some (.d v8), none])) (k8 : ∀ (ns : List Int) (r : Option Fx.S), S8 (E r ns [some (.d v2), some (.d v3), some (.d v4), some (.d v5), some (.d v6), none, some (.d v8), none]) = .ok .nx (E r ns [some (.d v2), some (.d v3), some (.d v4), some (.d v5), some (.d v6), none, some (.d v8), none])) (t1 : ∀ (ns : List Int) (r : Option Fx.S), isT (S10 (E r ns [some (.d v2), some (.d v3), some (.d v4), some (.d v5), some (.d v6), none, some (.d v8), some (.d o1)])) = true) (t2 : ∀ (ns : List Int) (r : Option Fx.S), isT (S10 (E r ns [some (.d v2), some (.d v3), some (.d v4), some (.d v5), some (.d v6), none, some (.d v8), some (.d o2)])) = true) (ns : List Int) : ∃ ρ, runF 1 10 bl [.d (.scr ns)] = .ok (.d (.bl true)) ρ := by
  have key : OK (runF 1 10 bl [.d (.scr ns)]) fun s _ => s = .d (.bl true) := by
    refine ok_runF rfl ?_
    show OK (bl [some (.d (.scr ns)), none, none, none, none, none, none, none, none, none]) _
    rw [hb]
    have h0 : RowOk 0 3544 0 := by unfold RowOk; decide
    refine sq ?_
    unfold st0
    refine asgL (ea_cons (ev_var 0 rfl) (ea_cons ev_c (ea_cons ev_c (ea_cons ev_c ea_nil)))) rfl ⟨rfl, ?_⟩
    show OK (mSeq S1 _ (E (rowS none ns 0 3544 0) ns [none, none, none, none, none, none, none, none])) _
    refine stp (k1 ns _) ?_
    refine stp (k2 ns _) ?_
    refine stp (k3 ns _) ?_
    refine stp (k4 ns _) ?_
    refine stp (k5 ns _) ?_
    refine stp (k6 ns _) ?_
    refine stp (k7 ns _) ?_
    refine stp (k8 ns _) ?_
    refine sq ?_
    unfold st9
    rw [e_pick]
    show OK (mAsg _ _ [some (.d (.scr ns)), rowS none ns 0 3544 0, some (.d v2), some (.d v3), some (.d v4), some (.d v5), some (.d v6), none, some (.d v8), none]) _
    rw [ok_asg, ok_dv]
    refine pick_at (r := 1) (o := none) (ns := ns) (a := 0) (b := 3544) (c := 0) (ds := [o1, o2]) rfl h0 (ev_lst (ea_cons (ev_tup (ea_cons (ev_tup (ea_cons ev_c (ea_cons ev_c (ea_cons ev_c ea_nil)))) (ea_cons (ev_tup (ea_cons ev_c (ea_cons ev_c ea_nil))) ea_nil))) (ea_cons (ev_tup (ea_cons (ev_tup (ea_cons ev_c (ea_cons ev_c ea_nil))) (ea_cons (ev_tup (ea_cons ev_c (ea_cons ev_c (ea_cons ev_c ea_nil)))) ea_nil))) ea_nil)) rfl) (by show 0 < 2; decide) (by show 2 ≤ 1000; decide) fun x a b c hx h => ?_
    refine ⟨_, rfl, ?_⟩
    rw [ok_gname]
    refine ⟨rfl, ?_⟩
    have t : isT (S10 (E (rowS none ns a b c) ns [some (.d v2), some (.d v3), some (.d v4), some (.d v5), some (.d v6), none, some (.d v8), some (.d x)])) = true := by
      simp only [List.mem_cons, List.not_mem_nil, or_false] at hx
      rcases hx with rfl | rfl
      · exact t1 ns _
      · exact t2 ns _
    refine (of_isT t).imp fun f ρ e => ?_
    exact .inl ⟨_, e, rfl⟩
  rw [ok_eq] at key
  obtain ⟨s, ρ, e, rfl⟩ := R.OKr.at key
  exact ⟨ρ, e⟩
theorem law_pure (ns : List Int) (hns : ns.length ≤ 63) : ∃ ρ, f_law [.d (.scr ns)] = .ok (.d (.bl true)) ρ := by
  unfold f_law
  exact law_of b_law_eq k1 k2 k3 k4 k5 k6 k7 k8 t1 t2 ns
end Fx.K44
/-! the end of routeweb_k44_storms_known -/
namespace Fx.K44
open PySem PySem.Spec PyProof.Rows L2
open C8 (Cal Mak pe_c pe_mk)
open LamX (Tabs TabS TabB ExtN CodeO codeO_ne)
abbrev s_p_lists : Stmt := inClass (topS 23) 1
theorem sc_p_lists : FnScope ["self"] ["self"] (defScope s_p_lists) := ⟨rfl, rfl, rfl, by decide +kernel, rfl, by decide +kernel, by decide +kernel⟩
/-- what is known of the text -/
def clsF (C0 : Addr) : String → Addr := fun n => if n = "Choices" then C0 else 0
def cfg (w : World) (K : PySem.W.Frag) (C0 : Addr) (T : List (Addr × Str)) : Cfg := ⟨K, (clsF C0), fun n => if n = "Choices" then ["_lists"] else [], T, fun _ _ _ _ => False, fun k => match k with
  | _ => lamQ "" noE, w, none⟩
section
theorem all_mk {l : PySem.W.OpenLaw} {w : World} {K : PySem.W.Frag} {h : Heap} {mg : Str → Option Value} {fa : Addr} (X : K.In h) (G : h.Ns mainGlobals mg) (hfa : mg "law" = some (.ref fa))
    {C0 : Addr} {f0 : Addr} {od0 an0 : Option Addr} {sl0 : Array (Option Value)} {oc0 kV0 dc0 pm0 cd0 ct0 : Value} {p1 : Addr} {q1 : List Value} {f1 : Addr} {od1 an1 : Option Addr} {sl1 : Array (Option Value)} {oc1 kV1 dc1 pm1 cd1 ct1 : Value} {tk0 : Tok} {tk1 : Tok} {tk2 : Tok} {f2 : Addr} {od2 an2 : Option Addr} {sl2 : Array (Option Value)} {oc2 kV2 dc2 pm2 cd2 ct2 : Value} {f3 : Addr} {od3 an3 : Option Addr} {sl3 : Array (Option Value)} {oc3 kV3 dc3 pm3 cd3 ct3 : Value} {f4 : Addr} {od4 an4 : Option Addr} {sl4 : Array (Option Value)} {oc4 kV4 dc4 pm4 cd4 ct4 : Value} {f5 : Addr} {od5 an5 : Option Addr} {sl5 : Array (Option Value)} {oc5 kV5 dc5 pm5 cd5 ct5 : Value} {f6 : Addr} {od6 an6 : Option Addr} {sl6 : Array (Option Value)} {oc6 kV6 dc6 pm6 cd6 ct6 : Value} {f7 : Addr} {od7 an7 : Option Addr} {sl7 : Array (Option Value)} {oc7 kV7 dc7 pm7 cd7 ct7 : Value} {f8 : Addr} {od8 an8 : Option Addr} {sl8 : Array (Option Value)} {oc8 kV8 dc8 pm8 cd8 ct8 : Value} {f9 : Addr} {od9 an9 : Option Addr} {sl9 : Array (Option Value)} {oc9 kV9 dc9 pm9 cd9 ct9 : Value} {f10 : Addr} {od10 an10 : Option Addr} {sl10 : Array (Option Value)} {oc10 kV10 dc10 pm10 cd10 ct10 : Value} {f11 : Addr} {od11 an11 : Option Addr} {sl11 : Array (Option Value)} {oc11 kV11 dc11 pm11 cd11 ct11 : Value} {f12 : Addr} {od12 an12 : Option Addr} {sl12 : Array (Option Value)} {oc12 kV12 dc12 pm12 cd12 ct12 : Value} {f13 : Addr} {od13 an13 : Option Addr} {sl13 : Array (Option Value)} {oc13 kV13 dc13 pm13 cd13 ct13 : Value} {f14 : Addr} {od14 an14 : Option Addr} {sl14 : Array (Option Value)} {oc14 kV14 dc14 pm14 cd14 ct14 : Value} {f15 : Addr} {od15 an15 : Option Addr} {sl15 : Array (Option Value)} {oc15 kV15 dc15 pm15 cd15 ct15 : Value} {f16 : Addr} {od16 an16 : Option Addr} {sl16 : Array (Option Value)} {oc16 kV16 dc16 pm16 cd16 ct16 : Value} {f17 : Addr} {od17 an17 : Option Addr} {sl17 : Array (Option Value)} {oc17 kV17 dc17 pm17 cd17 ct17 : Value} {f18 : Addr} {od18 an18 : Option Addr} {sl18 : Array (Option Value)} {oc18 kV18 dc18 pm18 cd18 ct18 : Value} {f19 : Addr} {od19 an19 : Option Addr} {sl19 : Array (Option Value)} {oc19 kV19 dc19 pm19 cd19 ct19 : Value} {f20 : Addr} {od20 an20 : Option Addr} {sl20 : Array (Option Value)} {oc20 kV20 dc20 pm20 cd20 ct20 : Value} {f21 : Addr} {od21 an21 : Option Addr} {sl21 : Array (Option Value)} {oc21 kV21 dc21 pm21 cd21 ct21 : Value} {f22 : Addr} {od22 an22 : Option Addr} {sl22 : Array (Option Value)} {oc22 kV22 dc22 pm22 cd22 ct22 : Value} {f23 : Addr} {od23 an23 : Option Addr} {sl23 : Array (Option Value)} {oc23 kV23 dc23 pm23 cd23 ct23 : Value} {f24 : Addr} {od24 an24 : Option Addr} {sl24 : Array (Option Value)} {oc24 kV24 dc24 pm24 cd24 ct24 : Value} {f25 : Addr} {od25 an25 : Option Addr} {sl25 : Array (Option Value)} {oc25 kV25 dc25 pm25 cd25 ct25 : Value} {f26 : Addr} {od26 an26 : Option Addr} {sl26 : Array (Option Value)} {oc26 kV26 dc26 pm26 cd26 ct26 : Value} {f27 : Addr} {od27 an27 : Option Addr} {sl27 : Array (Option Value)} {oc27 kV27 dc27 pm27 cd27 ct27 : Value} {f28 : Addr} {od28 an28 : Option Addr} {sl28 : Array (Option Value)} {oc28 kV28 dc28 pm28 cd28 ct28 : Value} {f29 : Addr} {od29 an29 : Option Addr} {sl29 : Array (Option Value)} {oc29 kV29 dc29 pm29 cd29 ct29 : Value} {f30 : Addr} {od30 an30 : Option Addr} {sl30 : Array (Option Value)} {oc30 kV30 dc30 pm30 cd30 ct30 : Value} {f31 : Addr} {od31 an31 : Option Addr} {sl31 : Array (Option Value)} {oc31 kV31 dc31 pm31 cd31 ct31 : Value} {f32 : Addr} {od32 an32 : Option Addr} {sl32 : Array (Option Value)} {oc32 kV32 dc32 pm32 cd32 ct32 : Value} {f33 : Addr} {od33 an33 : Option Addr} {sl33 : Array (Option Value)} {oc33 kV33 dc33 pm33 cd33 ct33 : Value}
    (aC0 : PySem.W.nsIn K mainGlobals "Choices" = some (some (.ref C0)))
    (pg0C : PySem.W.plainGet K C0 Str.empty = true)
    (hd0C : PySem.W.hasDictIn K C0 = true)
    (po0C : PySem.W.plainOver K C0 = true)
    (sa0C : PySem.W.findIn K (.ref C0) "__setattr__" = some (some (.builtin "object.__setattr__")))
    (mk0C : PySem.W.makesIn K C0 = true)
    (kc0C : PySem.W.keepIn K (.ref C0) = true)
    (xa0C : PySem.W.findIn K (.ref C0) "__class__" = some (some (.builtin "object.__class__")))
    (xb0C : PySem.W.specialIn K (.builtin "object.__class__") "__get__" = some (some (.builtin "getset_descriptor.__get__")))
    (xc0C : PySem.W.takesIn K (.builtin "object.__class__") = some true)
    (xd0C : PySem.W.mroIn K C0 (.type "object") = some true)
    (n0_0 : PySem.W.findIn K (.ref C0) "_lists" = some none)
    (a0 : PySem.W.findIn K (.ref C0) "__init__" = some (some (.ref f0)))
    (i0 : PySem.W.isFn K (.ref f0) = true)
    (l0 : K.lookup f0 = some ⟨oc0, od0, .func (PySem.W.fnOf "__init__" "Choices.__init__" (defArgs s_Choices_init) (defBody s_Choices_init) (defScope s_Choices_init) .none kV0 dc0 pm0 an0 cd0 ct0), sl0⟩)
    (c0 : PySem.W.codeIn K cd0 "Choices.__init__" = true)
    (k0 : PySem.W.keepIn K (.ref f0) = true)
    (a1 : PySem.W.findIn K (.ref C0) "lists" = some (some (.ref p1)))
    (g1 : PySem.W.specialIn K (.ref p1) "__get__" = some (some (.builtin "property.__get__")))
    (t1 : PySem.W.takesIn K (.ref p1) = some true)
    (r1 : PySem.W.recIn K p1 "property" = some (.ref f1 :: q1))
    (l1 : K.lookup f1 = some ⟨oc1, od1, .func (PySem.W.fnOf "lists" "Choices.lists" (defArgs s_p_lists) (defBody s_p_lists) (defScope s_p_lists) .none kV1 dc1 pm1 an1 cd1 ct1), sl1⟩)
    (c1 : PySem.W.codeIn K cd1 "Choices.lists" = true)
    (k1 : PySem.W.keepIn K (.ref f1) = true)
    (m0 : PySem.W.nsIn K mainGlobals "MOST_LISTS" = some (some (Value.int 7 tk0)))
    (m1 : PySem.W.nsIn K mainGlobals "MOST_PATHS" = some (some (Value.int 10 tk1)))
    (m2 : PySem.W.nsIn K mainGlobals "MOST_STATES" = some (some (Value.int 2000 tk2)))
    (z_all : PySem.W.nsIn K mainGlobals "all" = some none)
    (z_bool : PySem.W.nsIn K mainGlobals "bool" = some none)
    (z_dict : PySem.W.nsIn K mainGlobals "dict" = some none)
    (z_enumerate : PySem.W.nsIn K mainGlobals "enumerate" = some none)
    (z_int : PySem.W.nsIn K mainGlobals "int" = some none)
    (z_isinstance : PySem.W.nsIn K mainGlobals "isinstance" = some none)
    (z_len : PySem.W.nsIn K mainGlobals "len" = some none)
    (z_list : PySem.W.nsIn K mainGlobals "list" = some none)
    (z_min : PySem.W.nsIn K mainGlobals "min" = some none)
    (z_range : PySem.W.nsIn K mainGlobals "range" = some none)
    (z_reversed : PySem.W.nsIn K mainGlobals "reversed" = some none)
    (z_set : PySem.W.nsIn K mainGlobals "set" = some none)
    (z_sorted : PySem.W.nsIn K mainGlobals "sorted" = some none)
    (z_tuple : PySem.W.nsIn K mainGlobals "tuple" = some none)
    (a2 : PySem.W.nsIn K mainGlobals "is_number" = some (some (.ref f2)))
    (l2 : K.lookup f2 = some ⟨oc2, od2, .func (PySem.W.fnOf "is_number" "is_number" (defArgs s_is_number) (defBody s_is_number) (defScope s_is_number) .none kV2 dc2 pm2 an2 cd2 ct2), sl2⟩)
    (c2 : PySem.W.codeIn K cd2 "is_number" = true)
    (k2 : PySem.W.keepIn K (.ref f2) = true)
    (a3 : PySem.W.nsIn K mainGlobals "is_tuple" = some (some (.ref f3)))
    (l3 : K.lookup f3 = some ⟨oc3, od3, .func (PySem.W.fnOf "is_tuple" "is_tuple" (defArgs s_is_tuple) (defBody s_is_tuple) (defScope s_is_tuple) .none kV3 dc3 pm3 an3 cd3 ct3), sl3⟩)
    (c3 : PySem.W.codeIn K cd3 "is_tuple" = true)
    (k3 : PySem.W.keepIn K (.ref f3) = true)
    (a4 : PySem.W.nsIn K mainGlobals "are_numbers" = some (some (.ref f4)))
    (l4 : K.lookup f4 = some ⟨oc4, od4, .func (PySem.W.fnOf "are_numbers" "are_numbers" (defArgs s_are_numbers) (defBody s_are_numbers) (defScope s_are_numbers) .none kV4 dc4 pm4 an4 cd4 ct4), sl4⟩)
    (c4 : PySem.W.codeIn K cd4 "are_numbers" = true)
    (k4 : PySem.W.keepIn K (.ref f4) = true)
    (a5 : PySem.W.nsIn K mainGlobals "are_unlike" = some (some (.ref f5)))
    (l5 : K.lookup f5 = some ⟨oc5, od5, .func (PySem.W.fnOf "are_unlike" "are_unlike" (defArgs s_are_unlike) (defBody s_are_unlike) (defScope s_are_unlike) .none kV5 dc5 pm5 an5 cd5 ct5), sl5⟩)
    (c5 : PySem.W.codeIn K cd5 "are_unlike" = true)
    (k5 : PySem.W.keepIn K (.ref f5) = true)
    (a6 : PySem.W.nsIn K mainGlobals "_may_stay" = some (some (.ref f6)))
    (l6 : K.lookup f6 = some ⟨oc6, od6, .func (PySem.W.fnOf "_may_stay" "_may_stay" (defArgs s_may_stay) (defBody s_may_stay) (defScope s_may_stay) .none kV6 dc6 pm6 an6 cd6 ct6), sl6⟩)
    (c6 : PySem.W.codeIn K cd6 "_may_stay" = true)
    (k6 : PySem.W.keepIn K (.ref f6) = true)
    (a7 : PySem.W.nsIn K mainGlobals "_with_path" = some (some (.ref f7)))
    (l7 : K.lookup f7 = some ⟨oc7, od7, .func (PySem.W.fnOf "_with_path" "_with_path" (defArgs s_with_path) (defBody s_with_path) (defScope s_with_path) .none kV7 dc7 pm7 an7 cd7 ct7), sl7⟩)
    (c7 : PySem.W.codeIn K cd7 "_with_path" = true)
    (k7 : PySem.W.keepIn K (.ref f7) = true)
    (a8 : PySem.W.nsIn K mainGlobals "_widened" = some (some (.ref f8)))
    (l8 : K.lookup f8 = some ⟨oc8, od8, .func (PySem.W.fnOf "_widened" "_widened" (defArgs s_widened) (defBody s_widened) (defScope s_widened) .none kV8 dc8 pm8 an8 cd8 ct8), sl8⟩)
    (c8 : PySem.W.codeIn K cd8 "_widened" = true)
    (k8 : PySem.W.keepIn K (.ref f8) = true)
    (a9 : PySem.W.nsIn K mainGlobals "stable_among" = some (some (.ref f9)))
    (l9 : K.lookup f9 = some ⟨oc9, od9, .func (PySem.W.fnOf "stable_among" "stable_among" (defArgs s_stable_among) (defBody s_stable_among) (defScope s_stable_among) .none kV9 dc9 pm9 an9 cd9 ct9), sl9⟩)
    (c9 : PySem.W.codeIn K cd9 "stable_among" = true)
    (k9 : PySem.W.keepIn K (.ref f9) = true)
    (a10 : PySem.W.nsIn K mainGlobals "_left_last" = some (some (.ref f10)))
    (l10 : K.lookup f10 = some ⟨oc10, od10, .func (PySem.W.fnOf "_left_last" "_left_last" (defArgs s_left_last) (defBody s_left_last) (defScope s_left_last) .none kV10 dc10 pm10 an10 cd10 ct10), sl10⟩)
    (c10 : PySem.W.codeIn K cd10 "_left_last" = true)
    (k10 : PySem.W.keepIn K (.ref f10) = true)
    (a11 : PySem.W.nsIn K mainGlobals "_unseen_from" = some (some (.ref f11)))
    (l11 : K.lookup f11 = some ⟨oc11, od11, .func (PySem.W.fnOf "_unseen_from" "_unseen_from" (defArgs s_unseen_from) (defBody s_unseen_from) (defScope s_unseen_from) .none kV11 dc11 pm11 an11 cd11 ct11), sl11⟩)
    (c11 : PySem.W.codeIn K cd11 "_unseen_from" = true)
    (k11 : PySem.W.keepIn K (.ref f11) = true)
    (a12 : PySem.W.nsIn K mainGlobals "knots_among" = some (some (.ref f12)))
    (l12 : K.lookup f12 = some ⟨oc12, od12, .func (PySem.W.fnOf "knots_among" "knots_among" (defArgs s_knots_among) (defBody s_knots_among) (defScope s_knots_among) .none kV12 dc12 pm12 an12 cd12 ct12), sl12⟩)
    (c12 : PySem.W.codeIn K cd12 "knots_among" = true)
    (k12 : PySem.W.keepIn K (.ref f12) = true)
    (a13 : PySem.W.nsIn K mainGlobals "is_path" = some (some (.ref f13)))
    (l13 : K.lookup f13 = some ⟨oc13, od13, .func (PySem.W.fnOf "is_path" "is_path" (defArgs s_is_path) (defBody s_is_path) (defScope s_is_path) .none kV13 dc13 pm13 an13 cd13 ct13), sl13⟩)
    (c13 : PySem.W.codeIn K cd13 "is_path" = true)
    (k13 : PySem.W.keepIn K (.ref f13) = true)
    (a14 : PySem.W.nsIn K mainGlobals "check_choices" = some (some (.ref f14)))
    (l14 : K.lookup f14 = some ⟨oc14, od14, .func (PySem.W.fnOf "check_choices" "check_choices" (defArgs s_check_choices) (defBody s_check_choices) (defScope s_check_choices) .none kV14 dc14 pm14 an14 cd14 ct14), sl14⟩)
    (c14 : PySem.W.codeIn K cd14 "check_choices" = true)
    (k14 : PySem.W.keepIn K (.ref f14) = true)
    (a15 : PySem.W.nsIn K mainGlobals "_is_listed" = some (some (.ref f15)))
    (l15 : K.lookup f15 = some ⟨oc15, od15, .func (PySem.W.fnOf "_is_listed" "_is_listed" (defArgs s_is_listed) (defBody s_is_listed) (defScope s_is_listed) .none kV15 dc15 pm15 an15 cd15 ct15), sl15⟩)
    (c15 : PySem.W.codeIn K cd15 "_is_listed" = true)
    (k15 : PySem.W.keepIn K (.ref f15) = true)
    (a16 : PySem.W.nsIn K mainGlobals "check_state" = some (some (.ref f16)))
    (l16 : K.lookup f16 = some ⟨oc16, od16, .func (PySem.W.fnOf "check_state" "check_state" (defArgs s_check_state) (defBody s_check_state) (defScope s_check_state) .none kV16 dc16 pm16 an16 cd16 ct16), sl16⟩)
    (c16 : PySem.W.codeIn K cd16 "check_state" = true)
    (k16 : PySem.W.keepIn K (.ref f16) = true)
    (a17 : PySem.W.nsIn K mainGlobals "taken_in" = some (some (.ref f17)))
    (l17 : K.lookup f17 = some ⟨oc17, od17, .func (PySem.W.fnOf "taken_in" "taken_in" (defArgs s_taken_in) (defBody s_taken_in) (defScope s_taken_in) .none kV17 dc17 pm17 an17 cd17 ct17), sl17⟩)
    (c17 : PySem.W.codeIn K cd17 "taken_in" = true)
    (k17 : PySem.W.keepIn K (.ref f17) = true)
    (a18 : PySem.W.nsIn K mainGlobals "stable_of" = some (some (.ref f18)))
    (l18 : K.lookup f18 = some ⟨oc18, od18, .func (PySem.W.fnOf "stable_of" "stable_of" (defArgs s_stable_of) (defBody s_stable_of) (defScope s_stable_of) .none kV18 dc18 pm18 an18 cd18 ct18), sl18⟩)
    (c18 : PySem.W.codeIn K cd18 "stable_of" = true)
    (k18 : PySem.W.keepIn K (.ref f18) = true)
    (a19 : PySem.W.nsIn K mainGlobals "_pairs" = some (some (.ref f19)))
    (l19 : K.lookup f19 = some ⟨oc19, od19, .func (PySem.W.fnOf "_pairs" "_pairs" (defArgs s_pairs) (defBody s_pairs) (defScope s_pairs) .none kV19 dc19 pm19 an19 cd19 ct19), sl19⟩)
    (c19 : PySem.W.codeIn K cd19 "_pairs" = true)
    (k19 : PySem.W.keepIn K (.ref f19) = true)
    (a20 : PySem.W.nsIn K mainGlobals "_disputes" = some (some (.ref f20)))
    (l20 : K.lookup f20 = some ⟨oc20, od20, .func (PySem.W.fnOf "_disputes" "_disputes" (defArgs s_disputes) (defBody s_disputes) (defScope s_disputes) .none kV20 dc20 pm20 an20 cd20 ct20), sl20⟩)
    (c20 : PySem.W.codeIn K cd20 "_disputes" = true)
    (k20 : PySem.W.keepIn K (.ref f20) = true)
    (a21 : PySem.W.nsIn K mainGlobals "_numbered" = some (some (.ref f21)))
    (l21 : K.lookup f21 = some ⟨oc21, od21, .func (PySem.W.fnOf "_numbered" "_numbered" (defArgs s_numbered) (defBody s_numbered) (defScope s_numbered) .none kV21 dc21 pm21 an21 cd21 ct21), sl21⟩)
    (c21 : PySem.W.codeIn K cd21 "_numbered" = true)
    (k21 : PySem.W.keepIn K (.ref f21) = true)
    (a22 : PySem.W.nsIn K mainGlobals "wheel" = some (some (.ref f22)))
    (l22 : K.lookup f22 = some ⟨oc22, od22, .func (PySem.W.fnOf "wheel" "wheel" (defArgs s_wheel) (defBody s_wheel) (defScope s_wheel) .none kV22 dc22 pm22 an22 cd22 ct22), sl22⟩)
    (c22 : PySem.W.codeIn K cd22 "wheel" = true)
    (k22 : PySem.W.keepIn K (.ref f22) = true)
    (a23 : PySem.W.nsIn K mainGlobals "_after" = some (some (.ref f23)))
    (l23 : K.lookup f23 = some ⟨oc23, od23, .func (PySem.W.fnOf "_after" "_after" (defArgs s_after) (defBody s_after) (defScope s_after) .none kV23 dc23 pm23 an23 cd23 ct23), sl23⟩)
    (c23 : PySem.W.codeIn K cd23 "_after" = true)
    (k23 : PySem.W.keepIn K (.ref f23) = true)
    (a24 : PySem.W.nsIn K mainGlobals "_moves_from" = some (some (.ref f24)))
    (l24 : K.lookup f24 = some ⟨oc24, od24, .func (PySem.W.fnOf "_moves_from" "_moves_from" (defArgs s_moves_from) (defBody s_moves_from) (defScope s_moves_from) .none kV24 dc24 pm24 an24 cd24 ct24), sl24⟩)
    (c24 : PySem.W.codeIn K cd24 "_moves_from" = true)
    (k24 : PySem.W.keepIn K (.ref f24) = true)
    (a25 : PySem.W.nsIn K mainGlobals "_rank_of" = some (some (.ref f25)))
    (l25 : K.lookup f25 = some ⟨oc25, od25, .func (PySem.W.fnOf "_rank_of" "_rank_of" (defArgs s_rank_of) (defBody s_rank_of) (defScope s_rank_of) .none kV25 dc25 pm25 an25 cd25 ct25), sl25⟩)
    (c25 : PySem.W.codeIn K cd25 "_rank_of" = true)
    (k25 : PySem.W.keepIn K (.ref f25) = true)
    (a26 : PySem.W.nsIn K mainGlobals "states_from" = some (some (.ref f26)))
    (l26 : K.lookup f26 = some ⟨oc26, od26, .func (PySem.W.fnOf "states_from" "states_from" (defArgs s_states_from) (defBody s_states_from) (defScope s_states_from) .none kV26 dc26 pm26 an26 cd26 ct26), sl26⟩)
    (c26 : PySem.W.codeIn K cd26 "states_from" = true)
    (k26 : PySem.W.keepIn K (.ref f26) = true)
    (a27 : PySem.W.nsIn K mainGlobals "_way" = some (some (.ref f27)))
    (l27 : K.lookup f27 = some ⟨oc27, od27, .func (PySem.W.fnOf "_way" "_way" (defArgs s_way) (defBody s_way) (defScope s_way) .none kV27 dc27 pm27 an27 cd27 ct27), sl27⟩)
    (c27 : PySem.W.codeIn K cd27 "_way" = true)
    (k27 : PySem.W.keepIn K (.ref f27) = true)
    (a28 : PySem.W.nsIn K mainGlobals "_round_trip" = some (some (.ref f28)))
    (l28 : K.lookup f28 = some ⟨oc28, od28, .func (PySem.W.fnOf "_round_trip" "_round_trip" (defArgs s_round_trip) (defBody s_round_trip) (defScope s_round_trip) .none kV28 dc28 pm28 an28 cd28 ct28), sl28⟩)
    (c28 : PySem.W.codeIn K cd28 "_round_trip" = true)
    (k28 : PySem.W.keepIn K (.ref f28) = true)
    (a29 : PySem.W.nsIn K mainGlobals "_staying" = some (some (.ref f29)))
    (l29 : K.lookup f29 = some ⟨oc29, od29, .func (PySem.W.fnOf "_staying" "_staying" (defArgs s_staying) (defBody s_staying) (defScope s_staying) .none kV29 dc29 pm29 an29 cd29 ct29), sl29⟩)
    (c29 : PySem.W.codeIn K cd29 "_staying" = true)
    (k29 : PySem.W.keepIn K (.ref f29) = true)
    (a30 : PySem.W.nsIn K mainGlobals "storm" = some (some (.ref f30)))
    (l30 : K.lookup f30 = some ⟨oc30, od30, .func (PySem.W.fnOf "storm" "storm" (defArgs s_storm) (defBody s_storm) (defScope s_storm) .none kV30 dc30 pm30 an30 cd30 ct30), sl30⟩)
    (c30 : PySem.W.codeIn K cd30 "storm" = true)
    (k30 : PySem.W.keepIn K (.ref f30) = true)
    (a31 : PySem.W.nsIn K mainGlobals "_law_taken" = some (some (.ref f31)))
    (l31 : K.lookup f31 = some ⟨oc31, od31, .func (PySem.W.fnOf "_law_taken" "_law_taken" (defArgs s_law_taken) (defBody s_law_taken) (defScope s_law_taken) .none kV31 dc31 pm31 an31 cd31 ct31), sl31⟩)
    (c31 : PySem.W.codeIn K cd31 "_law_taken" = true)
    (k31 : PySem.W.keepIn K (.ref f31) = true)
    (a32 : PySem.W.nsIn K mainGlobals "_law_pick" = some (some (.ref f32)))
    (l32 : K.lookup f32 = some ⟨oc32, od32, .func (PySem.W.fnOf "_law_pick" "_law_pick" (defArgs s_law_pick) (defBody s_law_pick) (defScope s_law_pick) .none kV32 dc32 pm32 an32 cd32 ct32), sl32⟩)
    (c32 : PySem.W.codeIn K cd32 "_law_pick" = true)
    (k32 : PySem.W.keepIn K (.ref f32) = true)
    (a33 : PySem.W.nsIn K mainGlobals "law" = some (some (.ref f33)))
    (l33 : K.lookup f33 = some ⟨oc33, od33, .func (PySem.W.fnOf "law" "law" (defArgs s_law) (defBody s_law) (defScope s_law) .none kV33 dc33 pm33 an33 cd33 ct33), sl33⟩)
    (c33 : PySem.W.codeIn K cd33 "law" = true)
    (k33 : PySem.W.keepIn K (.ref f33) = true) :
    LamX.LawAtS l w K CX0 7 63 "script" mg fa h := by
  have e := hfa.symm.trans (PySem.W.mg_of X G a33)
  cases e
  have cl0 : Cls K C0 := ⟨pg0C, hd0C, po0C, sa0C⟩
  have gC0 := PySem.W.mg_of X G aC0
  have F0 := fun_mk (st := s_Choices_init) l0 c0 k0
  have b0 := F0.binds (ps := ["self", "lists"]) fun _ _ _ _ _ _ us hl => match us, hl with | [_, _], _ => rfl
  have F1 := fun_mk (st := s_p_lists) l1 c1 k1
  have b1 := F1.binds (ps := ["self"]) fun _ _ _ _ _ _ us hl => match us, hl with | [_], _ => rfl
  have F2 := fun_mk (st := s_is_number) l2 c2 k2
  have b2 := F2.binds (ps := ["value", "low", "high"]) fun _ _ _ _ _ _ us hl => match us, hl with | [_, _, _], _ => rfl
  have F3 := fun_mk (st := s_is_tuple) l3 c3 k3
  have b3 := F3.binds (ps := ["value", "least", "most"]) fun _ _ _ _ _ _ us hl => match us, hl with | [_, _, _], _ => rfl
  have F4 := fun_mk (st := s_are_numbers) l4 c4 k4
  have b4 := F4.binds (ps := ["value", "low", "high"]) fun _ _ _ _ _ _ us hl => match us, hl with | [_, _, _], _ => rfl
  have F5 := fun_mk (st := s_are_unlike) l5 c5 k5
  have b5 := F5.binds (ps := ["values"]) fun _ _ _ _ _ _ us hl => match us, hl with | [_], _ => rfl
  have F6 := fun_mk (st := s_may_stay) l6 c6 k6
  have b6 := F6.binds (ps := ["places", "roots", "fixed"]) fun _ _ _ _ _ _ us hl => match us, hl with | [_, _, _], _ => rfl
  have F7 := fun_mk (st := s_with_path) l7 c7 k7
  have b7 := F7.binds (ps := ["places", "fixed", "path"]) fun _ _ _ _ _ _ us hl => match us, hl with | [_, _, _], _ => rfl
  have F8 := fun_mk (st := s_widened) l8 c8 k8
  have b8 := F8.binds (ps := ["places", "fixed", "node"]) fun _ _ _ _ _ _ us hl => match us, hl with | [_, _, _], _ => rfl
  have F9 := fun_mk (st := s_stable_among) l9 c9 k9
  have b9 := F9.binds (ps := ["lists", "roots"]) fun _ _ _ _ _ _ us hl => match us, hl with | [_, _], _ => rfl
  have F10 := fun_mk (st := s_left_last) l10 c10 k10
  have b10 := F10.binds (ps := ["heads"]) fun _ _ _ _ _ _ us hl => match us, hl with | [_], _ => rfl
  have F11 := fun_mk (st := s_unseen_from) l11 c11 k11
  have b11 := F11.binds (ps := ["heads", "root", "seen"]) fun _ _ _ _ _ _ us hl => match us, hl with | [_, _, _], _ => rfl
  have F12 := fun_mk (st := s_knots_among) l12 c12 k12
  have b12 := F12.binds (ps := ["heads"]) fun _ _ _ _ _ _ us hl => match us, hl with | [_], _ => rfl
  have F13 := fun_mk (st := s_is_path) l13 c13 k13
  have b13 := F13.binds (ps := ["many", "node", "value"]) fun _ _ _ _ _ _ us hl => match us, hl with | [_, _, _], _ => rfl
  have F14 := fun_mk (st := s_check_choices) l14 c14 k14
  have b14 := F14.binds (ps := ["choices"]) fun _ _ _ _ _ _ us hl => match us, hl with | [_], _ => rfl
  have F15 := fun_mk (st := s_is_listed) l15 c15 k15
  have b15 := F15.binds (ps := ["choices", "node", "value"]) fun _ _ _ _ _ _ us hl => match us, hl with | [_, _, _], _ => rfl
  have F16 := fun_mk (st := s_check_state) l16 c16 k16
  have b16 := F16.binds (ps := ["choices", "state"]) fun _ _ _ _ _ _ us hl => match us, hl with | [_, _], _ => rfl
  have F17 := fun_mk (st := s_taken_in) l17 c17 k17
  have b17 := F17.binds (ps := ["choices", "node", "state"]) fun _ _ _ _ _ _ us hl => match us, hl with | [_, _, _], _ => rfl
  have F18 := fun_mk (st := s_stable_of) l18 c18 k18
  have b18 := F18.binds (ps := ["choices"]) fun _ _ _ _ _ _ us hl => match us, hl with | [_], _ => rfl
  have F19 := fun_mk (st := s_pairs) l19 c19 k19
  have b19 := F19.binds (ps := ["choices"]) fun _ _ _ _ _ _ us hl => match us, hl with | [_], _ => rfl
  have F20 := fun_mk (st := s_disputes) l20 c20 k20
  have b20 := F20.binds (ps := ["choices", "node", "path"]) fun _ _ _ _ _ _ us hl => match us, hl with | [_, _, _], _ => rfl
  have F21 := fun_mk (st := s_numbered) l21 c21 k21
  have b21 := F21.binds (ps := ["choices"]) fun _ _ _ _ _ _ us hl => match us, hl with | [_], _ => rfl
  have F22 := fun_mk (st := s_wheel) l22 c22 k22
  have b22 := F22.binds (ps := ["choices"]) fun _ _ _ _ _ _ us hl => match us, hl with | [_], _ => rfl
  have F23 := fun_mk (st := s_after) l23 c23 k23
  have b23 := F23.binds (ps := ["choices", "state", "node"]) fun _ _ _ _ _ _ us hl => match us, hl with | [_, _, _], _ => rfl
  have F24 := fun_mk (st := s_moves_from) l24 c24 k24
  have b24 := F24.binds (ps := ["choices", "state"]) fun _ _ _ _ _ _ us hl => match us, hl with | [_, _], _ => rfl
  have F25 := fun_mk (st := s_rank_of) l25 c25 k25
  have b25 := F25.binds (ps := ["state"]) fun _ _ _ _ _ _ us hl => match us, hl with | [_], _ => rfl
  have F26 := fun_mk (st := s_states_from) l26 c26 k26
  have b26 := F26.binds (ps := ["choices", "state"]) fun _ _ _ _ _ _ us hl => match us, hl with | [_, _], _ => rfl
  have F27 := fun_mk (st := s_way) l27 c27 k27
  have b27 := F27.binds (ps := ["moves", "begin", "goals"]) fun _ _ _ _ _ _ us hl => match us, hl with | [_, _, _], _ => rfl
  have F28 := fun_mk (st := s_round_trip) l28 c28 k28
  have b28 := F28.binds (ps := ["moves", "begin", "places"]) fun _ _ _ _ _ _ us hl => match us, hl with | [_, _, _], _ => rfl
  have F29 := fun_mk (st := s_staying) l29 c29 k29
  have b29 := F29.binds (ps := ["moves", "knot", "node"]) fun _ _ _ _ _ _ us hl => match us, hl with | [_, _, _], _ => rfl
  have F30 := fun_mk (st := s_storm) l30 c30 k30
  have b30 := F30.binds (ps := ["choices", "state"]) fun _ _ _ _ _ _ us hl => match us, hl with | [_, _], _ => rfl
  have F31 := fun_mk (st := s_law_taken) l31 c31 k31
  have b31 := F31.binds (ps := ["row", "many"]) fun _ _ _ _ _ _ us hl => match us, hl with | [_, _], _ => rfl
  have F32 := fun_mk (st := s_law_pick) l32 c32 k32
  have b32 := F32.binds (ps := ["row", "things"]) fun _ _ _ _ _ _ us hl => match us, hl with | [_, _], _ => rfl
  have F33 := fun_mk (st := s_law) l33 c33 k33
  refine ⟨PySem.W.fnOf "law" "law" (defArgs s_law) (defBody s_law) (defScope s_law) .none kV33 dc33 pm33 an33 cd33 ct33, [], spLawX (cfg w K C0 []), fun p hp => by simp at hp, fun p hp => by simp at hp, fun p hp => by simp at hp, fun s v => .of_eq rfl, fun H a ns hl hz hT hS => ⟨a, ns, rfl, hl, hS, fun p hp => by simp [cfg] at hp, fun _ => rfl⟩, fun base _ _ hB => ?_⟩
  have hC0 : (cfg w K C0 []).cls "Choices" = C0 := by
    show (if ("Choices" : String) = "Choices" then C0 else (0 : Addr)) = C0
    exact if_pos rfl
  have hf0 : (cfg w K C0 []).flds "Choices" = (["_lists"] : List Str) := by
    show (if ("Choices" : String) = "Choices" then (["_lists"] : List Str) else ([] : List Str)) = (["_lists"] : List Str)
    exact if_pos rfl
  have FL0_0 : FldOk (cfg w K C0 []) "Choices" "_lists" 0 := ⟨by rw [hC0]; exact cl0, by rw [hC0]; exact n0_0, by rw [hf0]; rfl, by rw [hf0]; decide⟩
  have IC0 : ClsOk (cfg w K C0 []) "Choices" := ⟨by rw [hC0]; exact cl0, by rw [hC0]; exact xa0C, xb0C, xc0C, by rw [hC0]; exact xd0C, if_pos (beq_self_eq_true _)⟩
  have T : Tx l.prog w (cfg w K C0 []) mg base := {
    w_ := rfl,
    b_all := PySem.W.mg_none_of X G z_all,
    b_bool := PySem.W.mg_none_of X G z_bool,
    b_dict := PySem.W.mg_none_of X G z_dict,
    b_enumerate := PySem.W.mg_none_of X G z_enumerate,
    b_int := PySem.W.mg_none_of X G z_int,
    b_isinstance := PySem.W.mg_none_of X G z_isinstance,
    b_len := PySem.W.mg_none_of X G z_len,
    b_list := PySem.W.mg_none_of X G z_list,
    b_min := PySem.W.mg_none_of X G z_min,
    b_range := PySem.W.mg_none_of X G z_range,
    b_reversed := PySem.W.mg_none_of X G z_reversed,
    b_set := PySem.W.mg_none_of X G z_set,
    b_sorted := PySem.W.mg_none_of X G z_sorted,
    b_tuple := PySem.W.mg_none_of X G z_tuple,
    c_MOST_LISTS := ⟨_, PySem.W.mg_of X G m0⟩,
    c_MOST_PATHS := ⟨_, PySem.W.mg_of X G m1⟩,
    c_MOST_STATES := ⟨_, PySem.W.mg_of X G m2⟩,
    f_Choices_lists := FL0_0,
    l_Choices := by rw [hf0]; decide,
    n_Choices := by rw [hf0]; rfl,
    i_Choices := IC0,
    g_Choices := by rw [hC0]; exact gC0,
    p_Choices_lists := ⟨FL0_0, p1, f1, _, _, by rw [hC0]; exact ⟨a1, g1, t1, ⟨_, r1⟩⟩, by rw [hC0]; exact fn_getter l1 c1 sc_p_lists rfl rfl cl0 n0_0, b1⟩}
  have C_is_number : Cal l.prog w K mg base 1 "is_number" (spF (cfg w K C0 []) f_is_number) [] := cal_mk F2 (PySem.W.mg_of X G a2) b2 (ok_is_number T F2 )
  have C_is_tuple : Cal l.prog w K mg base 1 "is_tuple" (spF (cfg w K C0 []) f_is_tuple) [] := cal_mk F3 (PySem.W.mg_of X G a3) b3 (ok_is_tuple T F3 )
  have C_are_numbers : Cal l.prog w K mg base 2 "are_numbers" (spF (cfg w K C0 []) f_are_numbers) [] := cal_mk F4 (PySem.W.mg_of X G a4) b4 (ok_are_numbers T F4 C_is_number)
  have C_are_unlike : Cal l.prog w K mg base 1 "are_unlike" (spF (cfg w K C0 []) f_are_unlike) [] := cal_mk F5 (PySem.W.mg_of X G a5) b5 (ok_are_unlike T F5 )
  have C_may_stay : Cal l.prog w K mg base 1 "_may_stay" (spF (cfg w K C0 []) f_may_stay) [] := cal_mk F6 (PySem.W.mg_of X G a6) b6 (ok_may_stay T F6 )
  have C_with_path : Cal l.prog w K mg base 1 "_with_path" (spF (cfg w K C0 []) f_with_path) [] := cal_mk F7 (PySem.W.mg_of X G a7) b7 (ok_with_path T F7 )
  have C_widened : Cal l.prog w K mg base 2 "_widened" (spF (cfg w K C0 []) f_widened) [] := cal_mk F8 (PySem.W.mg_of X G a8) b8 (ok_widened T F8 C_with_path)
  have C_stable_among : Cal l.prog w K mg base 3 "stable_among" (spF (cfg w K C0 []) f_stable_among) [] := cal_mk F9 (PySem.W.mg_of X G a9) b9 (ok_stable_among T F9 C_may_stay C_widened)
  have C_left_last : Cal l.prog w K mg base 1 "_left_last" (spF (cfg w K C0 []) f_left_last) [] := cal_mk F10 (PySem.W.mg_of X G a10) b10 (ok_left_last T F10 )
  have C_unseen_from : Cal l.prog w K mg base 1 "_unseen_from" (spF (cfg w K C0 []) f_unseen_from) [] := cal_mk F11 (PySem.W.mg_of X G a11) b11 (ok_unseen_from T F11 )
  have C_knots_among : Cal l.prog w K mg base 2 "knots_among" (spF (cfg w K C0 []) f_knots_among) [] := cal_mk F12 (PySem.W.mg_of X G a12) b12 (ok_knots_among T F12 C_left_last C_unseen_from)
  have C_is_path : Cal l.prog w K mg base 3 "is_path" (spF (cfg w K C0 []) f_is_path) [] := cal_mk F13 (PySem.W.mg_of X G a13) b13 (ok_is_path T F13 C_are_numbers C_are_unlike)
  have C_check_choices : Cal l.prog w K mg base 1 "check_choices" (spF (cfg w K C0 []) f_check_choices) [] := cal_mk F14 (PySem.W.mg_of X G a14) b14 (ok_check_choices T F14 )
  have C_is_listed : Cal l.prog w K mg base 3 "_is_listed" (spF (cfg w K C0 []) f_is_listed) [] := cal_mk F15 (PySem.W.mg_of X G a15) b15 (ok_is_listed T F15 C_are_numbers)
  have C_check_state : Cal l.prog w K mg base 4 "check_state" (spF (cfg w K C0 []) f_check_state) [] := cal_mk F16 (PySem.W.mg_of X G a16) b16 (ok_check_state T F16 C_is_tuple C_is_listed)
  have C_taken_in : Cal l.prog w K mg base 3 "taken_in" (spF (cfg w K C0 []) f_taken_in) [] := cal_mk F17 (PySem.W.mg_of X G a17) b17 (ok_taken_in T F17 )
  have C_stable_of : Cal l.prog w K mg base 4 "stable_of" (spF (cfg w K C0 []) f_stable_of) [] := cal_mk F18 (PySem.W.mg_of X G a18) b18 (ok_stable_of T F18 C_stable_among C_check_choices)
  have C_pairs : Cal l.prog w K mg base 3 "_pairs" (spF (cfg w K C0 []) f_pairs) [] := cal_mk F19 (PySem.W.mg_of X G a19) b19 (ok_pairs T F19 )
  have C_disputes : Cal l.prog w K mg base 3 "_disputes" (spF (cfg w K C0 []) f_disputes) [] := cal_mk F20 (PySem.W.mg_of X G a20) b20 (ok_disputes T F20 )
  have C_numbered : Cal l.prog w K mg base 4 "_numbered" (spF (cfg w K C0 []) f_numbered) [] := cal_mk F21 (PySem.W.mg_of X G a21) b21 (ok_numbered T F21 C_pairs C_disputes)
  have C_wheel : Cal l.prog w K mg base 5 "wheel" (spF (cfg w K C0 []) f_wheel) [] := cal_mk F22 (PySem.W.mg_of X G a22) b22 (ok_wheel T F22 C_check_choices C_disputes C_numbered)
  have C_after : Cal l.prog w K mg base 4 "_after" (spF (cfg w K C0 []) f_after) [] := cal_mk F23 (PySem.W.mg_of X G a23) b23 (ok_after T F23 C_taken_in)
  have C_moves_from : Cal l.prog w K mg base 5 "_moves_from" (spF (cfg w K C0 []) f_moves_from) [] := cal_mk F24 (PySem.W.mg_of X G a24) b24 (ok_moves_from T F24 C_after)
  have C_rank_of : Cal l.prog w K mg base 1 "_rank_of" (spF (cfg w K C0 []) f_rank_of) [] := cal_mk F25 (PySem.W.mg_of X G a25) b25 (ok_rank_of T F25 )
  have C_states_from : Cal l.prog w K mg base 6 "states_from" (spF (cfg w K C0 []) f_states_from) [] := cal_mk F26 (PySem.W.mg_of X G a26) b26 (ok_states_from T F26 C_check_choices C_check_state C_moves_from C_rank_of)
  have C_way : Cal l.prog w K mg base 1 "_way" (spF (cfg w K C0 []) f_way) [] := cal_mk F27 (PySem.W.mg_of X G a27) b27 (ok_way T F27 )
  have C_round_trip : Cal l.prog w K mg base 2 "_round_trip" (spF (cfg w K C0 []) f_round_trip) [] := cal_mk F28 (PySem.W.mg_of X G a28) b28 (ok_round_trip T F28 C_way)
  have C_staying : Cal l.prog w K mg base 1 "_staying" (spF (cfg w K C0 []) f_staying) [] := cal_mk F29 (PySem.W.mg_of X G a29) b29 (ok_staying T F29 )
  have C_storm : Cal l.prog w K mg base 6 "storm" (spF (cfg w K C0 []) f_storm) [] := cal_mk F30 (PySem.W.mg_of X G a30) b30 (ok_storm T F30 C_knots_among C_check_choices C_check_state C_moves_from C_way C_round_trip C_staying)
  have C_law_taken : Cal l.prog w K mg base 1 "_law_taken" (spF (cfg w K C0 []) f_law_taken) [] := cal_mk F31 (PySem.W.mg_of X G a31) b31 (ok_law_taken T F31 )
  have C_law_pick : Cal l.prog w K mg base 2 "_law_pick" (spF (cfg w K C0 []) f_law_pick) [] := cal_mk F32 (PySem.W.mg_of X G a32) b32 (ok_law_pick T F32 C_law_taken)
  have M_Choices : Mak l.prog w K mg base 4 "Choices" ((cfg w K C0 []).cls "Choices") (spF (cfg w K C0 []) f_Choices_init) [] := by rw [hC0]; exact ⟨f0, _, _, [], ⟨mk0C, a0, i0, kc0C⟩, ok_Choices_init T F0 C_is_tuple C_is_path, gC0, b0, .nil⟩
  exact law_ok law_pure (ok_law T F33 C_stable_of C_wheel C_states_from C_storm C_law_pick M_Choices)
theorem walk {l : PySem.W.OpenLaw} {q : Program} {loose : List Str} {XP : (Str → Option Value) → Heap → Prop} {YP : World → Heap → Prop} {d : DefRec} {K : Params → PySem.W.Frag} (hn : l.most = some 63) (hdf : d.params.defaults = [])
    (hY : ∀ (w : World) (h : Heap), YP w h → (K w.params).In h)
    (F : ∀ (w : World) (mg : Str → Option Value) (fa : Addr) (h : Heap), YP w h → (K w.params).In h → h.Ns mainGlobals mg → mg d.name = some (.ref fa) → LamX.LawAtS l w (K w.params) CX0 7 63 "script" mg fa h) :
    PySem.W.WalkO q loose XP YP l.row.toRowW d [] (fun f vs => PySem.call f vs) :=
  LamX.walk_ofTs (n := 63) (k := 7) (x := "script") (CX := fun _ => CX0) hn (by decide) hdf ⟨rfl, by decide, by decide⟩ hY F fun _ _ _ _ _ z => z
end
end Fx.K44
open PySem PySem.W PyProof.Rows in
set_option maxRecDepth 100000 in
set_option maxHeartbeats 0 in
theorem PySem.Challenge.cw_routeweb_k44_storms_known_holds : PySem.Challenge.rw_routeweb_k44_storms_known.Holds := by
  w_on; o_law; k_head; (case hw => w_witness2)
  k_fill
  refine Fx.K44.walk (l := PySem.Challenge.rw_routeweb_k44_storms_known) rfl rfl (fun w h Y => PySem.W.kIn_of Y) ?F
  case F =>
    intro w mg fa h Y KX G hmg
    skip
    refine' Fx.K44.all_mk KX G hmg ?aC0 ?pg0C ?hd0C ?po0C ?sa0C ?mk0C ?kc0C ?xa0C ?xb0C ?xc0C ?xd0C ?n0_0 ?a0 ?i0 ?l0 ?c0 ?k0 ?a1 ?g1 ?t1 ?r1 ?l1 ?c1 ?k1 ?m0 ?m1 ?m2 ?z_all ?z_bool ?z_dict ?z_enumerate ?z_int ?z_isinstance ?z_len ?z_list ?z_min ?z_range ?z_reversed ?z_set ?z_sorted ?z_tuple ?a2 ?l2 ?c2 ?k2 ?a3 ?l3 ?c3 ?k3 ?a4 ?l4 ?c4 ?k4 ?a5 ?l5 ?c5 ?k5 ?a6 ?l6 ?c6 ?k6 ?a7 ?l7 ?c7 ?k7 ?a8 ?l8 ?c8 ?k8 ?a9 ?l9 ?c9 ?k9 ?a10 ?l10 ?c10 ?k10 ?a11 ?l11 ?c11 ?k11 ?a12 ?l12 ?c12 ?k12 ?a13 ?l13 ?c13 ?k13 ?a14 ?l14 ?c14 ?k14 ?a15 ?l15 ?c15 ?k15 ?a16 ?l16 ?c16 ?k16 ?a17 ?l17 ?c17 ?k17 ?a18 ?l18 ?c18 ?k18 ?a19 ?l19 ?c19 ?k19 ?a20 ?l20 ?c20 ?k20 ?a21 ?l21 ?c21 ?k21 ?a22 ?l22 ?c22 ?k22 ?a23 ?l23 ?c23 ?k23 ?a24 ?l24 ?c24 ?k24 ?a25 ?l25 ?c25 ?k25 ?a26 ?l26 ?c26 ?k26 ?a27 ?l27 ?c27 ?k27 ?a28 ?l28 ?c28 ?k28 ?a29 ?l29 ?c29 ?k29 ?a30 ?l30 ?c30 ?k30 ?a31 ?l31 ?c31 ?k31 ?a32 ?l32 ?c32 ?k32 ?a33 ?l33 ?c33 ?k33
    (case aC0 => k_is)
    (case pg0C => k_is)
    (case hd0C => k_is)
    (case po0C => k_is)
    (case sa0C => k_is)
    (case mk0C => k_is)
    (case kc0C => k_is)
    (case xa0C => k_is)
    (case xb0C => k_is)
    (case xc0C => k_is)
    (case xd0C => k_is)
    (case n0_0 => k_is)
    (case a0 => k_is)
    (case i0 => k_is)
    (case l0 => k_is)
    (case c0 => k_is)
    (case k0 => k_is)
    (case a1 => k_is)
    (case g1 => k_is)
    (case t1 => k_is)
    (case r1 => k_is)
    (case l1 => k_is)
    (case c1 => k_is)
    (case k1 => k_is)
    (case m0 => k_is)
    (case m1 => k_is)
    (case m2 => k_is)
    (case z_all => k_is)
    (case z_bool => k_is)
    (case z_dict => k_is)
    (case z_enumerate => k_is)
    (case z_int => k_is)
    (case z_isinstance => k_is)
    (case z_len => k_is)
    (case z_list => k_is)
    (case z_min => k_is)
    (case z_range => k_is)
    (case z_reversed => k_is)
    (case z_set => k_is)
    (case z_sorted => k_is)
    (case z_tuple => k_is)
    (case a2 => k_is)
    (case l2 => k_is)
    (case c2 => k_is)
    (case k2 => k_is)
    (case a3 => k_is)
    (case l3 => k_is)
    (case c3 => k_is)
    (case k3 => k_is)
    (case a4 => k_is)
    (case l4 => k_is)
    (case c4 => k_is)
    (case k4 => k_is)
    (case a5 => k_is)
    (case l5 => k_is)
    (case c5 => k_is)
    (case k5 => k_is)
    (case a6 => k_is)
    (case l6 => k_is)
    (case c6 => k_is)
    (case k6 => k_is)
    (case a7 => k_is)
    (case l7 => k_is)
    (case c7 => k_is)
    (case k7 => k_is)
    (case a8 => k_is)
    (case l8 => k_is)
    (case c8 => k_is)
    (case k8 => k_is)
    (case a9 => k_is)
    (case l9 => k_is)
    (case c9 => k_is)
    (case k9 => k_is)
    (case a10 => k_is)
    (case l10 => k_is)
    (case c10 => k_is)
    (case k10 => k_is)
    (case a11 => k_is)
    (case l11 => k_is)
    (case c11 => k_is)
    (case k11 => k_is)
    (case a12 => k_is)
    (case l12 => k_is)
    (case c12 => k_is)
    (case k12 => k_is)
    (case a13 => k_is)
    (case l13 => k_is)
    (case c13 => k_is)
    (case k13 => k_is)
    (case a14 => k_is)
    (case l14 => k_is)
    (case c14 => k_is)
    (case k14 => k_is)
    (case a15 => k_is)
    (case l15 => k_is)
    (case c15 => k_is)
    (case k15 => k_is)
    (case a16 => k_is)
    (case l16 => k_is)
    (case c16 => k_is)
    (case k16 => k_is)
    (case a17 => k_is)
    (case l17 => k_is)
    (case c17 => k_is)
    (case k17 => k_is)
    (case a18 => k_is)
    (case l18 => k_is)
    (case c18 => k_is)
    (case k18 => k_is)
    (case a19 => k_is)
    (case l19 => k_is)
    (case c19 => k_is)
    (case k19 => k_is)
    (case a20 => k_is)
    (case l20 => k_is)
    (case c20 => k_is)
    (case k20 => k_is)
    (case a21 => k_is)
    (case l21 => k_is)
    (case c21 => k_is)
    (case k21 => k_is)
    (case a22 => k_is)
    (case l22 => k_is)
    (case c22 => k_is)
    (case k22 => k_is)
    (case a23 => k_is)
    (case l23 => k_is)
    (case c23 => k_is)
    (case k23 => k_is)
    (case a24 => k_is)
    (case l24 => k_is)
    (case c24 => k_is)
    (case k24 => k_is)
    (case a25 => k_is)
    (case l25 => k_is)
    (case c25 => k_is)
    (case k25 => k_is)
    (case a26 => k_is)
    (case l26 => k_is)
    (case c26 => k_is)
    (case k26 => k_is)
    (case a27 => k_is)
    (case l27 => k_is)
    (case c27 => k_is)
    (case k27 => k_is)
    (case a28 => k_is)
    (case l28 => k_is)
    (case c28 => k_is)
    (case k28 => k_is)
    (case a29 => k_is)
    (case l29 => k_is)
    (case c29 => k_is)
    (case k29 => k_is)
    (case a30 => k_is)
    (case l30 => k_is)
    (case c30 => k_is)
    (case k30 => k_is)
    (case a31 => k_is)
    (case l31 => k_is)
    (case c31 => k_is)
    (case k31 => k_is)
    (case a32 => k_is)
    (case l32 => k_is)
    (case c32 => k_is)
    (case k32 => k_is)
    (case a33 => k_is)
    (case l33 => k_is)
    (case c33 => k_is)
    (case k33 => k_is)
