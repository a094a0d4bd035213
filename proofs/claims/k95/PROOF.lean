import PyProof.Rows.All
import Wide.All
import OpenK.AllK
import Wide.FinOn
import KE.GoesEnum
import HandS.ForMost
import HandS.Walk
import HandS.Codes
import HandS.IsInst
import HandS.SortInts
import HandS.Strs
import HandS.SetFor
import HandS.Property
import HandS.TupMul
import HandS.TupAny
import HandS.Style
import HandS.Lambda
import HandS.Words
import HandS.Dict
import KE.KDictKeyed
import KE.KDictWalk
import HandS.Deep
import KE.DataEq
import HandS.Zip
import HandS.Zip0
import PyProof.ZipIter
import HandS.Rev
import HandS.EndTab
import HandS.Exc
import HandS.ExcOwn
import HandS.TryOnly
import HandS.WordsExc
import HandS.Conv
import HandS.Star
import HandS.Iter
import HandS.DictComp
import KE.KDictList
import PyProof.Rows.TupDisplay
import KE.KDictCopyH
import KE.KDictSum
import PyProof.DictTruth
import HandS.SortRule
import KE.KDictOf
import HandS.ExcInit
import HandS.FStr
import HandS.Nested
import KE.KExcSuper
import KE.KSuperObj
import PyProof.FString2
import PyProof.FitsInt
import PySem.Challenge.RW_routeweb_k95_whole_disjoint_paths
import KE.DataMinMax
import KE.DataFind
import KE.GoesEnumKw
import PyProof.Rows.CallKwBuiltin
import KE.SortData
import HandS.DictTup
import HandS.ExcValue
import KE.KRevSl
import HandS.SortKw
import KE.SortKeyHeap
import HandS.ExcField
import HandS.ExcIs
import KE.KExcIs
import HandS.OwnEq
set_option Elab.async false
set_option linter.all false
set_option maxRecDepth 100000
set_option maxHeartbeats 8000000
/-! what stays, data, rules of our own -/
namespace Rw
open PySem PySem.Spec PyProof.Rows L2
/-! ### what stays -/
/-- an object that nobody changes -/
def Fixed : HO → Prop
  | .tup _ => True
  | .frz _ _ => True
  | .ins _ _ _ => True
  | _ => False
def Stay (H H' : Hp) : Prop := ∀ a o, Fixed o → H a = some o → H' a = some o
theorem Stay.refl (H : Hp) : Stay H H := fun _ _ _ h => h
theorem Stay.trans {H H1 H2 : Hp} (p : Stay H H1) (q : Stay H1 H2) : Stay H H2 := fun a o f h => q a o f (p a o f h)
theorem Stay.same {H H' : Hp} (p : Same H H') : Stay H H' := fun a o _ h => p a o h
theorem Stay.new {H : Hp} {p : Addr} {o : HO} (h : H p = none) : Stay H (upd H p o) := fun a u _ e => by
  rw [upd_ne (ne_of_none e h)]
  exact e
theorem Stay.put {H : Hp} {p : Addr} {u o : HO} (h : H p = some u) (n : ¬ Fixed u) : Stay H (upd H p o) := fun a v f e => by
  have : a ≠ p := fun z => by
    rw [z, h] at e
    cases e
    exact n f
  rw [upd_ne this]
  exact e
theorem Same.new {H : Hp} {p : Addr} {o : HO} (h : H p = none) : Same H (upd H p o) := fun a u e => by
  rw [upd_ne (ne_of_none e h)]
  exact e
/-- all but what stands at r -/
def Ext (r : Addr) (H H' : Hp) : Prop := ∀ a o, a ≠ r → H a = some o → H' a = some o
theorem Ext.refl (r : Addr) (H : Hp) : Ext r H H := fun _ _ _ h => h
theorem Ext.trans {r : Addr} {H H1 H2 : Hp} (p : Ext r H H1) (q : Ext r H1 H2) : Ext r H H2 := fun a o n h => q a o n (p a o n h)
theorem Ext.same {r : Addr} {H H' : Hp} (p : Same H H') : Ext r H H' := fun a o _ h => p a o h
theorem Ext.put {r : Addr} {H : Hp} {o : HO} : Ext r H (upd H r o) := fun a u n e => by
  rw [upd_ne n]
  exact e
theorem Ext.free {r p : Addr} {H H' : Hp} (x : Ext r H H') (n : p ≠ r) (h : H' p = none) : H p = none := by
  cases q : H p with
  | none => rfl
  | some o =>
    rw [x p o n q] at h
    cases h
/-! ### data -/
theorem DpAll.length {K : PySem.W.Frag} {H : Hp} : ∀ {vs : List V} {ds : List PyData}, DpAll K H vs ds → vs.length = ds.length
  | _, _, .nil => rfl
  | _, _, .cons _ k => by rw [List.length_cons, List.length_cons, DpAll.length k]
theorem DpAll.get {K : PySem.W.Frag} {H : Hp} : ∀ {vs : List V} {ds : List PyData} {i : Nat} {d : PyData}, DpAll K H vs ds → ds[i]? = some d → ∃ v, vs[i]? = some v ∧ Dp K H v d
  | _, _, _, _, .nil, e => by simp at e
  | _, _, 0, _, .cons h _, e => by simp at e; subst e; exact ⟨_, rfl, h⟩
  | _, _, i + 1, _, .cons _ k, e => by
    obtain ⟨v, e1, e2⟩ := DpAll.get (i := i) k (by simpa using e)
    exact ⟨v, by simpa using e1, e2⟩
theorem DpAll.getV {K : PySem.W.Frag} {H : Hp} : ∀ {vs : List V} {ds : List PyData} {i : Nat} {v : V}, DpAll K H vs ds → vs[i]? = some v → ∃ d, ds[i]? = some d ∧ Dp K H v d
  | _, _, _, _, .nil, e => by simp at e
  | _, _, 0, _, .cons h _, e => by simp at e; subst e; exact ⟨_, rfl, h⟩
  | _, _, i + 1, _, .cons _ k, e => by
    obtain ⟨d, e1, e2⟩ := DpAll.getV (i := i) k (by simpa using e)
    exact ⟨d, by simpa using e1, e2⟩
theorem DpAll.app {K : PySem.W.Frag} {H : Hp} : ∀ {vs ws : List V} {ds es : List PyData}, DpAll K H vs ds → DpAll K H ws es → DpAll K H (vs ++ ws) (ds ++ es)
  | _, _, _, _, .nil, q => q
  | _, _, _, _, .cons h k, q => .cons h (DpAll.app k q)
theorem Dp.tupE {K : PySem.W.Frag} {H : Hp} {v : V} {ds : List PyData} (h : Dp K H v (.tuple ds)) : ∃ a xs, v = .ref a ∧ SqT K H a xs ∧ DpAll K H xs ds := by
  cases h with
  | tup h k => exact ⟨_, _, rfl, h, k⟩
theorem Dp.lstE {K : PySem.W.Frag} {H : Hp} {v : V} {ds : List PyData} (h : Dp K H v (.list ds)) : ∃ a xs, v = .ref a ∧ SqL K H a xs ∧ DpAll K H xs ds := by
  cases h with
  | lst h k => exact ⟨_, _, rfl, h, k⟩
/-! ### isinstance -/
/-! ### the checks' answers -/
/-! ### readings, opened -/
theorem ex_bl {b : Bool} {p : Bool → Prop} : (∃ c, V.bl b = V.bl c ∧ p c) ↔ p b := ⟨fun ⟨_, e, h⟩ => by cases e; exact h, fun h => ⟨b, rfl, h⟩⟩
/-! ### comprehensions whose elements are data, nothing else changes -/
section
variable {K : PySem.W.Frag} {J : It} {n : Nat} {G : Hp → Prop} {Y : Nat → Hp → V → Hp → Prop} {g : TG} {tt : TT} {te : TE} {vs : List Nat} {σ : L2.St} {H : Hp} {Q : VK}
theorem DpAll.snoc {H : Hp} {acc : List V} {ds : List PyData} {k : Nat} {v : V} {d : PyData} (h : DpAll K H acc (ds.take k)) (e : ds[k]? = some d) (hv : Dp K H v d) : DpAll K H (acc ++ [v]) (ds.take (k + 1)) := by
  rw [List.take_succ, e]
  exact DpAll.app h (.cons hv .nil)
end
def small : PyData → Prop
  | .tuple ds => ds.length ≤ 4000
  | .list ds => ds.length ≤ 4000
  | _ => True
/-! ### the rules, the written part told by name (so that a reading does not hang on the block's context) -/
end Rw
/-! a lambda with parameters that captures nothing: made, handed on, called -/
namespace Rw
open PySem PySem.Spec PyProof.Rows L2
open LamX (Tabs TabS TabB ExtN CodeO codeO_ne inv_table among_app)
/-- the object of the lambda at f is o -/
def LamO (f : Addr) (o : Obj) : HO := .ext fun h => h.get? f = some o
end Rw
/-! data without addresses, what a heap holds of it, states -/
namespace Fx
open PySem PySem.Spec PyProof.Rows L2
open LamX (Tabs TabS TabB ExtN CodeO codeO_ne)
/-- a value without the heap -/
inductive D where
  | non | bl (b : Bool) | int (i : Int) | str (s : Str) | ty (n : String)
  | tup (ds : List D) | lst (ds : List D) | ins (c : String) (ds : List D) | dct (ks vs : List D) | dcq (ks vs : List D) | scr (ns : List Int) | fn (k : Nat) | xo (a : Addr) (o : Unit → HO) | exc | rng (lo hi : Int) | fu
/-- what a name holds: a value that stays, or a cell that this def alone may change (b: its place, where it is an argument's) -/
inductive S where
  | d (x : D) | o (b : Option Nat) (x : D)
  /-- a dict whose values are lists that this def alone may change -/
  | q (ks : List D) (dss : List (List D))
structure Err where
  cls : String
  fs : List D
abbrev En := List (Option S)
inductive Out (α : Type) where
  | ok (a : α) (ρ : En) | err (e : Err) (ρ : En) | stuck
def M (α : Type) := En → Out α
def Out.then {α β : Type} : Out α → (α → En → Out β) → Out β
  | .ok a ρ, f => f a ρ
  | .err e ρ, _ => .err e ρ
  | .stuck, _ => .stuck
@[reducible] def M.bind {α β : Type} (m : M α) (f : α → M β) : M β := fun ρ => (m ρ).then f
instance : Monad M where
  pure a := fun ρ => .ok a ρ
  bind := M.bind
/-- a lambda of the text: its full name, its parameters, body and scope -/
structure LamS where
  q : Str
  params : Arguments
  body : Expr
  scope : Scope
/-- the exception that a suite holds: its place, its dict, the fields -/
structure ExcI where
  a : Addr
  d : Option Addr
  fs : List (Str × V)
/-- what a law's context knows: the written part, the classes, their fields, the tables of code objects -/
structure Cfg where
  K : PySem.W.Frag
  cls : String → Addr
  flds : String → List Str
  T : List (Addr × Str)
  err : Err → Value → Option Addr → Hp → Prop
  fns : Nat → LamS
  w : World
  exc : Option ExcI
/-- a tuple of numbers alone -/
def isIntD : D → Bool
  | .int _ => true
  | _ => false
def pairy : D → Bool
  | .tup ds => ds.all isIntD
  | _ => false
/-- tuples of numbers, one at least: such a tuple is known to carry no attributes, so its methods can be called -/
def arcy : List D → Bool
  | [] => false
  | d :: ds => pairy d && ds.all pairy
/-- a tuple's object that carries no attributes -/
def SqN (G : Hp) (a : Addr) (vs : List V) : Prop := ∃ o : Obj, G a = some (.frz o (.tup vs)) ∧ o.dict = none
/-- the key of a datum -/
def keyD : Key → D
  | .inl i => .int i
  | .inr x => .str x
mutual
def nkD : D → Option NestedKey
  | .non => some .none
  | .int i => some (.num i)
  | .str x => some (.text x)
  | .tup ds => match nkDs ds with
    | some ks => some (.tup ks)
    | none => none
  | .bl _ => none
  | .ty _ => none
  | .lst _ => none
  | .ins _ _ => none
  | .dct _ _ => none
  | .dcq _ _ => none
  | .scr _ => none
  | .fn _ => none
  | .xo _ _ => none
  | .exc => none
  | .rng _ _ => none
  | .fu => none
def nkDs : List D → Option (List NestedKey)
  | [] => some []
  | d :: ds => match nkD d, nkDs ds with
    | some k, some ks => some (k :: ks)
    | _, _ => none
end
/-- a dict whose object is known -/
def xdO (a : Addr) (o : Obj) : HO := .ext fun h => h.get? a = some o
def MixObj (w : World) (o : Obj) (kvs : List (Key × Value)) : Prop := ∀ (P : Program) (h : Heap) (a : Addr), h.get? a = some o → h.DictOf (mixKind P w) a kvs
def NkObj (w : World) (o : Obj) (xs : List (NestedKey × Addr × Value)) : Prop := ∀ (P : Program) (h : Heap) (a : Addr), h.get? a = some o → (∀ x ∈ xs, (nestedKind P w).is h x.1 x.2.1) → h.DictOfH (nestedKind P w) a xs
/-- the object o is a dict with the keys ks: ints and texts, or tuples; kv, us: its keys and values -/
inductive DcO (w : World) (a : Addr) (o : Obj) : List D → List V → List V → Prop
  | mix {kvs : List (Key × Value)} {us : List V} : (a == sysModules) = false → o.ExactDict → (∃ es ep, o.data = .dict es ep) → MixObj w o kvs → kvs.length ≤ sizeLine → Vals us (kvs.map (·.2)) → DcO w a o (kvs.map fun p => keyD p.1) (kvs.map fun p => kV p.1) us
  | nk {xs : List (NestedKey × Addr × Value)} {us : List V} {ks : List D} : (a == sysModules) = false → o.ExactDict → (∃ es ep, o.data = .dict es ep) → NkObj w o xs → xs.length ≤ sizeLine → Vals us (xs.map (·.2.2)) → ks.map nkD = xs.map (fun x => some x.1) → (∀ x ∈ xs, x.1.depth ≤ 8) → DcO w a o ks (xs.map fun x => V.ref x.2.1) us
mutual
inductive Rp (c : Cfg) (G : Hp) : V → D → Prop
  | non : Rp c G .non .non
  | bl (b : Bool) : Rp c G (.bl b) (.bl b)
  | int (i : Int) : Rp c G (.int i) (.int i)
  | str (s : Str) : Rp c G (.str s) (.str s)
  | ty (n : String) : Rp c G (.ty n) (.ty n)
  | tup {a : Addr} {vs : List V} {ds : List D} : SqT c.K G a vs → RpAll c G vs ds → (arcy ds = true → SqN G a vs) → Rp c G (.ref a) (.tup ds)
  | lst {a : Addr} {vs : List V} {ds : List D} : G a = some (.lst vs) → RpAll c G vs ds → Rp c G (.ref a) (.lst ds)
  | scr {a : Addr} {ns : List Int} : SqL c.K G a (ns.map V.int) → Rp c G (.ref a) (.scr ns)
  | ins {a dx : Addr} {n : String} {fs : List (Str × V)} {ds : List D} : G a = some (.ins (c.cls n) dx fs) → fs.map (·.1) = (c.flds n).take ds.length → RpAll c G (fs.map (·.2)) ds → Rp c G (.ref a) (.ins n ds)
  | dct {a : Addr} {kvs : List (Key × V)} {vs : List D} : G a = some (.dK kvs) → RpAll c G (kvs.map (·.2)) vs → Rp c G (.ref a) (.dcq (kvs.map fun p => keyD p.1) vs)
  | dcx {a : Addr} {o : Obj} {kv us : List V} {ks ds : List D} : G a = some (xdO a o) → DcO c.w a o ks kv us → RpAll c G kv ks → RpAll c G us ds → Rp c G (.ref a) (.dct ks ds)
  | xo {a : Addr} {o : Unit → HO} : G a = some (o ()) → Rp c G (.ref a) (.xo a o)
  | exc {x : ExcI} : c.exc = some x → (∀ dd, x.d = some dd → G dd = some (.xd x.fs)) → Rp c G (.ref x.a) .exc
  | rng {a : Addr} {lo hi : Int} : G a = some (.rng lo hi) → Rp c G (.ref a) (.rng lo hi)
  | fu {a : Addr} {u : HO} : G a = some u → Rp c G (.ref a) .fu
  | fn {f c' : Addr} {k : Nat} {pm ctv : Value} : G f = some (Rw.LamO f (PySem.W.kla_obj "<lambda>" (c.fns k).q (c.fns k).params (c.fns k).body (c.fns k).scope [] pm c' ctv)) → G c' = some (CodeO c' (c.fns k).q) → Rp c G (.ref f) (.fn k)
inductive RpAll (c : Cfg) (G : Hp) : List V → List D → Prop
  | nil : RpAll c G [] []
  | cons {v : V} {d : D} {vs : List V} {ds : List D} : Rp c G v d → RpAll c G vs ds → RpAll c G (v :: vs) (d :: ds)
end
/-- a cell that is no table and no code object is written -/
inductive isCell : HO → Prop
  | lst (xs : List V) : isCell (.lst xs)
  | ins (C dx : Addr) (fs : List (Str × V)) : isCell (.ins C dx fs)
  | dK (kvs : List (Key × V)) : isCell (.dK kvs)
  | xd (a : Addr) (o : Obj) (es : Array DictEntry) (ep : Nat) : o.data = .dict es ep → isCell (xdO a o)
  | frz (o : Obj) (vs : List V) : isCell (.frz o (.tup vs))
/-- what stands at a changing cell -/
def Cell (c : Cfg) (G H : Hp) (a : Addr) : D → Prop
  | .lst ds => ∃ vs, H a = some (.lst vs) ∧ RpAll c G vs ds
  | .ins n ds => ∃ dx fs, H a = some (.ins (c.cls n) dx fs) ∧ fs.map (·.1) = (c.flds n).take ds.length ∧ RpAll c G (fs.map (·.2)) ds
  | .dct ks ds => ∃ o kv us, H a = some (xdO a o) ∧ DcO c.w a o ks kv us ∧ RpAll c G kv ks ∧ RpAll c G us ds
  | .xo b o => b = a ∧ H a = some (o ()) ∧ isCell (o ())
  | .tup ds => ∃ vs o, H a = some (.frz o (.tup vs)) ∧ o.dict = none ∧ RpAll c G vs ds
  | _ => False
abbrev Owns := List Addr
/-- lists that may be changed, at their places -/
inductive LsAll (c : Cfg) (G H : Hp) : List Addr → List (List D) → Prop
  | nil : LsAll c G H [] []
  | cons {b : Addr} {us : List V} {ds : List D} {bs : List Addr} {dss : List (List D)} : H b = some (.lst us) → RpAll c G us ds → LsAll c G H bs dss → LsAll c G H (b :: bs) (ds :: dss)
/-- where the cells of a def's arguments stand; what stays whatever a def does -/
structure Base where
  at_ : Nat → Option Addr
  pin : Hp
/-- a dict of such lists at a; os: all that is owned -/
def QDct (c : Cfg) (G H : Hp) (a : Addr) (ks : List D) (dss : List (List D)) (os : Owns) : Prop :=
  ∃ (kvs : List (Key × V)) (bs : List Addr), os = a :: bs ∧ H a = some (.dK kvs) ∧ ks = kvs.map (fun p => keyD p.1) ∧ kvs.map (·.2) = bs.map V.ref ∧ LsAll c G H bs dss
def plD : Option Nat → D
  | none => .tup []
  | some j => .tup [.int j]
/-- an instance whose last field is a dict that is owned too -/
def QIns (c : Cfg) (B : Base) (G H : Hp) (a : Addr) (ks : List D) (dss : List (List D)) (os : Owns) : Prop :=
  ∃ (n : String) (ds : List D) (p : Option Nat) (dk dv : List D) (dx : Addr) (fs : List (Str × V)) (b : Addr) (o : Obj) (kv us vs : List V), ks = [.ins n ds, plD p] ∧ dss = [dk, dv] ∧ os = [a, b] ∧ H a = some (.ins (c.cls n) dx fs) ∧ fs.map (·.1) = (c.flds n).take (ds.length + 1) ∧ fs.map (·.2) = vs ++ [V.ref b] ∧ RpAll c G vs ds ∧ H b = some (xdO b o) ∧ DcO c.w b o dk kv us ∧ RpAll c G kv dk ∧ RpAll c G us dv ∧ ∀ j : Nat, p = some j → B.at_ j = some a
def QCell (c : Cfg) (B : Base) (G H : Hp) (a : Addr) (ks : List D) (dss : List (List D)) (os : Owns) : Prop := QDct c G H a ks dss os ∨ QIns c B G H a ks dss os
inductive Sl (c : Cfg) (B : Base) (G H : Hp) : En → List (Option V) → Owns → Prop
  | nil : Sl c B G H [] [] []
  | skip {v : Option V} {es : En} {vs : List (Option V)} {own : Owns} : Sl c B G H es vs own → Sl c B G H (none :: es) (v :: vs) own
  | d {v : V} {x : D} {es : En} {vs : List (Option V)} {own : Owns} : Rp c G v x → Sl c B G H es vs own → Sl c B G H (some (.d x) :: es) (some v :: vs) own
  | o {a : Addr} {b : Option Nat} {x : D} {es : En} {vs : List (Option V)} {own : Owns} : Cell c G H a x → (∀ p, b = some p → B.at_ p = some a) → Sl c B G H es vs own → Sl c B G H (some (.o b x) :: es) (some (.ref a) :: vs) (a :: own)
  | q {a : Addr} {ks : List D} {dss : List (List D)} {es : En} {vs : List (Option V)} {os own : Owns} : QCell c B G H a ks dss os → Sl c B G H es vs own → Sl c B G H (some (.q ks dss) :: es) (some (.ref a) :: vs) (os ++ own)
def isTbl : HO → Bool
  | .tbl _ => true
  | _ => false
structure OkB (c : Cfg) (B : Base) (G H : Hp) (own : Owns) : Prop where
  sub : ∀ a o, G a = some o → H a = some o
  notbl : ∀ a o, G a = some o → isTbl o = false
  nd : own.Nodup
  out : ∀ p ∈ own, G p = none ∧ H p ≠ none
  tabs : Tabs c.T H
  pint : ∀ a o, B.pin a = some o → isTbl o = false
  pin : ∀ a o, B.pin a = some o → H a = some o ∧ a ∉ own
def Rep (c : Cfg) (B : Base) (ts : En) (vs : List (Option V)) (ρ : En) (σ : L2.St) (H : Hp) : Prop :=
  ∃ G o1 o2, OkB c B G H (o1 ++ o2) ∧ Sl c B G H ts vs o1 ∧ Sl c B G H ρ σ o2
section
variable {c : Cfg} {B : Base} {G G' H H' : Hp}
mutual
theorem Rp.mono (s : ∀ a o, G a = some o → G' a = some o) : ∀ {v : V} {d : D}, Rp c G v d → Rp c G' v d
  | _, _, .non => .non
  | _, _, .bl b => .bl b
  | _, _, .int i => .int i
  | _, _, .str x => .str x
  | _, _, .ty n => .ty n
  | _, _, .tup h k n => .tup (by
      rcases h with (h | ⟨o, h⟩) | h
      · exact .inl (.inl (s _ _ h))
      · exact .inl (.inr ⟨o, s _ _ h⟩)
      · exact .inr h) (RpAll.mono s k) (fun e => let ⟨o, h1, h2⟩ := n e; ⟨o, s _ _ h1, h2⟩)
  | _, _, .lst h k => .lst (s _ _ h) (RpAll.mono s k)
  | _, _, .scr h => .scr (Same.seq s h)
  | _, _, .ins h n k => .ins (s _ _ h) n (RpAll.mono s k)
  | _, _, .dct h k => .dct (s _ _ h) (RpAll.mono s k)
  | _, _, .dcx h o k1 k2 => .dcx (s _ _ h) o (RpAll.mono s k1) (RpAll.mono s k2)
  | _, _, .xo h => .xo (s _ _ h)
  | _, _, .exc h k => .exc h fun dd e => s _ _ (k dd e)
  | _, _, .rng h => .rng (s _ _ h)
  | _, _, .fu h => .fu (s _ _ h)
  | _, _, .fn h k => .fn (s _ _ h) (s _ _ k)
termination_by structural _ _ h => h
theorem RpAll.mono (s : ∀ a o, G a = some o → G' a = some o) : ∀ {vs : List V} {ds : List D}, RpAll c G vs ds → RpAll c G' vs ds
  | _, _, .nil => .nil
  | _, _, .cons h k => .cons (Rp.mono s h) (RpAll.mono s k)
termination_by structural _ _ h => h
end
theorem RpAll.length : ∀ {vs : List V} {ds : List D}, RpAll c G vs ds → vs.length = ds.length
  | _, _, .nil => rfl
  | _, _, .cons _ k => by rw [List.length_cons, List.length_cons, RpAll.length k]
theorem RpAll.get : ∀ {vs : List V} {ds : List D} {i : Nat} {d : D}, RpAll c G vs ds → ds[i]? = some d → ∃ v, vs[i]? = some v ∧ Rp c G v d
  | _, _, _, _, .nil, e => by simp at e
  | _, _, 0, _, .cons h _, e => by simp at e; subst e; exact ⟨_, rfl, h⟩
  | _, _, i + 1, _, .cons _ k, e => by
    obtain ⟨v, e1, e2⟩ := RpAll.get (i := i) k (by simpa using e)
    exact ⟨v, by simpa using e1, e2⟩
theorem RpAll.getV : ∀ {vs : List V} {ds : List D} {i : Nat} {v : V}, RpAll c G vs ds → vs[i]? = some v → ∃ d, ds[i]? = some d ∧ Rp c G v d
  | _, _, _, _, .nil, e => by simp at e
  | _, _, 0, _, .cons h _, e => by simp at e; subst e; exact ⟨_, rfl, h⟩
  | _, _, i + 1, _, .cons _ k, e => by
    obtain ⟨d, e1, e2⟩ := RpAll.getV (i := i) k (by simpa using e)
    exact ⟨d, by simpa using e1, e2⟩
theorem RpAll.app : ∀ {vs ws : List V} {ds es : List D}, RpAll c G vs ds → RpAll c G ws es → RpAll c G (vs ++ ws) (ds ++ es)
  | _, _, _, _, .nil, q => q
  | _, _, _, _, .cons h k, q => .cons h (RpAll.app k q)
theorem RpAll.take : ∀ {vs : List V} {ds : List D} (n : Nat), RpAll c G vs ds → RpAll c G (vs.take n) (ds.take n)
  | _, _, 0, _ => by simp only [List.take_zero]; exact .nil
  | _, _, _ + 1, .nil => .nil
  | _, _, n + 1, .cons h k => .cons h (RpAll.take n k)
theorem RpAll.drop : ∀ {vs : List V} {ds : List D} (n : Nat), RpAll c G vs ds → RpAll c G (vs.drop n) (ds.drop n)
  | _, _, 0, h => h
  | _, _, _ + 1, .nil => .nil
  | _, _, n + 1, .cons _ k => RpAll.drop n k
theorem RpAll.set : ∀ {vs : List V} {ds : List D} (i : Nat) {v : V} {d : D}, RpAll c G vs ds → Rp c G v d → RpAll c G (vs.set i v) (ds.set i d)
  | _, _, _, _, _, .nil, _ => .nil
  | _, _, 0, _, _, .cons _ k, q => .cons q k
  | _, _, i + 1, _, _, .cons h k, q => .cons h (RpAll.set i k q)
theorem RpAll.snoc {vs : List V} {ds : List D} {v : V} {d : D} (h : RpAll c G vs ds) (q : Rp c G v d) : RpAll c G (vs ++ [v]) (ds ++ [d]) := h.app (.cons q .nil)
theorem RpAll.of : ∀ {vs : List V} {ds : List D}, vs.length = ds.length → (∀ (i : Nat) (v : V), vs[i]? = some v → ∃ d, ds[i]? = some d ∧ Rp c G v d) → RpAll c G vs ds
  | [], [], _, _ => .nil
  | [], _ :: _, e, _ => by simp at e
  | _ :: _, [], e, _ => by simp at e
  | v :: vs, d :: ds, e, h => by
    obtain ⟨d', e1, h1⟩ := h 0 v rfl
    cases e1
    exact .cons h1 (RpAll.of (by simpa using e) fun i w hw => h (i + 1) w hw)
theorem RpAll.rev {vs : List V} {ds : List D} (h : RpAll c G vs ds) : RpAll c G vs.reverse ds.reverse := by
  refine .of (by simp [h.length]) fun i v e => ?_
  have hi : i < vs.length := by
    have := (List.getElem?_eq_some_iff.mp e).1
    simpa using this
  rw [List.getElem?_reverse hi] at e
  obtain ⟨d, e1, e2⟩ := h.getV e
  refine ⟨d, ?_, e2⟩
  rw [List.getElem?_reverse (by rw [← h.length]; exact hi), ← h.length]
  exact e1
theorem Cell.mono (s : ∀ a o, G a = some o → G' a = some o) {a : Addr} (e : H' a = H a) {x : D} (h : Cell c G H a x) : Cell c G' H' a x := by
  cases x with
  | lst ds =>
    obtain ⟨vs, h, k⟩ := h
    exact ⟨vs, e.trans h, k.mono s⟩
  | ins n ds =>
    obtain ⟨dx, fs, h, hn, k⟩ := h
    exact ⟨dx, fs, e.trans h, hn, k.mono s⟩
  | dct ks ds =>
    obtain ⟨o, kv, us, h, d, k1, k2⟩ := h
    exact ⟨o, kv, us, e.trans h, d, k1.mono s, k2.mono s⟩
  | xo b o =>
    obtain ⟨h1, h2, h3⟩ := h
    exact ⟨h1, e.trans h2, h3⟩
  | tup ds =>
    obtain ⟨vs, o, h, d, k⟩ := h
    exact ⟨vs, o, e.trans h, d, k.mono s⟩
  | _ => exact h.elim
theorem LsAll.mono (s : ∀ a o, G a = some o → G' a = some o) : ∀ {bs : List Addr} {dss : List (List D)}, (∀ p ∈ bs, H' p = H p) → LsAll c G H bs dss → LsAll c G' H' bs dss
  | _, _, _, .nil => .nil
  | _, _, e, .cons h k l => .cons ((e _ List.mem_cons_self).trans h) (k.mono s) (LsAll.mono s (fun p hp => e p (List.mem_cons_of_mem _ hp)) l)
theorem QCell.mono (s : ∀ a o, G a = some o → G' a = some o) {a : Addr} {ks : List D} {dss : List (List D)} {os : Owns} (e : ∀ p ∈ os, H' p = H p) (h : QCell c B G H a ks dss os) : QCell c B G' H' a ks dss os := by
  rcases h with ⟨kvs, bs, rfl, h1, h2, h3, h4⟩ | ⟨n, ds, p, dk, dv, dx, fs, b, o, kv, us, vs, rfl, rfl, rfl, h1, h2, h3, h4, h5, h6, h7, h8, h9⟩
  · exact .inl ⟨kvs, bs, rfl, (e _ List.mem_cons_self).trans h1, h2, h3, h4.mono s fun p hp => e p (List.mem_cons_of_mem _ hp)⟩
  · exact .inr ⟨n, ds, p, dk, dv, dx, fs, b, o, kv, us, vs, rfl, rfl, rfl, (e _ List.mem_cons_self).trans h1, h2, h3, h4.mono s, (e _ (List.mem_cons_of_mem _ List.mem_cons_self)).trans h5, h6, h7.mono s, h8.mono s, h9⟩
theorem nodup_sub {os own own' : Owns} (nd : (os ++ own).Nodup) (h : ∀ p ∈ own', p ∈ own) (n : own'.Nodup) : (os ++ own').Nodup := by
  rw [List.nodup_append] at nd ⊢
  exact ⟨nd.1, n, fun x hx y hy => nd.2.2 x hx y (h y hy)⟩
theorem Sl.mono (s : ∀ a o, G a = some o → G' a = some o) : ∀ {es : En} {vs : List (Option V)} {own : Owns}, (∀ p ∈ own, H' p = H p) → Sl c B G H es vs own → Sl c B G' H' es vs own
  | _, _, _, _, .nil => .nil
  | _, _, _, e, .skip k => .skip (Sl.mono s e k)
  | _, _, _, e, .d h k => .d (h.mono s) (Sl.mono s e k)
  | _, _, _, e, .o h hb k => .o (h.mono s (e _ List.mem_cons_self)) hb (Sl.mono s (fun p hp => e p (List.mem_cons_of_mem _ hp)) k)
  | _, _, _, e, .q h k => .q (h.mono s fun p hp => e p (List.mem_append_left _ hp)) (Sl.mono s (fun p hp => e p (List.mem_append_right _ hp)) k)
theorem Sl.length : ∀ {es : En} {vs : List (Option V)} {own : Owns}, Sl c B G H es vs own → es.length = vs.length
  | _, _, _, .nil => rfl
  | _, _, _, .skip k => by rw [List.length_cons, List.length_cons, Sl.length k]
  | _, _, _, .d _ k => by rw [List.length_cons, List.length_cons, Sl.length k]
  | _, _, _, .o _ _ k => by rw [List.length_cons, List.length_cons, Sl.length k]
  | _, _, _, .q _ k => by rw [List.length_cons, List.length_cons, Sl.length k]
theorem Sl.getD : ∀ {es : En} {vs : List (Option V)} {own : Owns} {i : Nat} {x : D}, Sl c B G H es vs own → es[i]? = some (some (.d x)) → ∃ v, vs[i]? = some (some v) ∧ Rp c G v x
  | _, _, _, _, _, .nil, e => by simp at e
  | _, _, _, 0, _, .skip k, e => by simp at e
  | _, _, _, 0, _, .d h k, e => by simp at e; subst e; exact ⟨_, rfl, h⟩
  | _, _, _, 0, _, .o h _ k, e => by simp at e
  | _, _, _, i + 1, _, .skip k, e => Sl.getD (i := i) k (by simpa using e)
  | _, _, _, i + 1, _, .d h k, e => Sl.getD (i := i) k (by simpa using e)
  | _, _, _, i + 1, _, .o h _ k, e => Sl.getD (i := i) k (by simpa using e)
  | _, _, _, 0, _, .q h k, e => by simp at e
  | _, _, _, i + 1, _, .q _ k, e => Sl.getD (i := i) k (by simpa using e)
theorem Sl.getO : ∀ {es : En} {vs : List (Option V)} {own : Owns} {i : Nat} {b : Option Nat} {x : D}, Sl c B G H es vs own → es[i]? = some (some (.o b x)) → ∃ a, vs[i]? = some (some (.ref a)) ∧ Cell c G H a x ∧ a ∈ own ∧ ∀ p, b = some p → B.at_ p = some a
  | _, _, _, _, _, _, .nil, e => by simp at e
  | _, _, _, 0, _, _, .skip k, e => by simp at e
  | _, _, _, 0, _, _, .d h k, e => by simp at e
  | _, _, _, 0, _, _, .o h hb k, e => by simp at e; obtain ⟨rfl, rfl⟩ := e; exact ⟨_, rfl, h, List.mem_cons_self, hb⟩
  | _, _, _, i + 1, _, _, .skip k, e => Sl.getO (i := i) k (by simpa using e)
  | _, _, _, i + 1, _, _, .d h k, e => Sl.getO (i := i) k (by simpa using e)
  | _, _, _, i + 1, _, _, .o h _ k, e => by
    obtain ⟨a, h1, h2, h3, h4⟩ := Sl.getO (i := i) k (by simpa using e)
    exact ⟨a, h1, h2, List.mem_cons_of_mem _ h3, h4⟩
  | _, _, _, 0, _, _, .q h k, e => by simp at e
  | _, _, _, i + 1, _, _, .q _ k, e => by
    obtain ⟨a, h1, h2, h3, h4⟩ := Sl.getO (i := i) k (by simpa using e)
    exact ⟨a, h1, h2, List.mem_append_right _ h3, h4⟩
/-- one entry: its owned cell, if it has one -/
inductive En1 (c : Cfg) (B : Base) (G H : Hp) : S → V → Owns → Prop
  | d {v : V} {x : D} : Rp c G v x → En1 c B G H (.d x) v []
  | o {a : Addr} {b : Option Nat} {x : D} : Cell c G H a x → (∀ p, b = some p → B.at_ p = some a) → En1 c B G H (.o b x) (.ref a) [a]
  | q {a : Addr} {ks : List D} {dss : List (List D)} {os : Owns} : QCell c B G H a ks dss os → En1 c B G H (.q ks dss) (.ref a) os
theorem Sl.one {s : S} {v : V} {os : Owns} {es : En} {vs : List (Option V)} {own : Owns} (h : En1 c B G H s v os) (k : Sl c B G H es vs own) : Sl c B G H (some s :: es) (some v :: vs) (os ++ own) := by
  cases h with
  | d h => exact .d h k
  | o h hb => exact .o h hb k
  | q h => exact .q h k
theorem Sl.unone {s : S} {v : Option V} {es : En} {vs : List (Option V)} {own : Owns} (k : Sl c B G H (some s :: es) (v :: vs) own) : ∃ w os own', v = some w ∧ En1 c B G H s w os ∧ own = os ++ own' ∧ Sl c B G H es vs own' := by
  cases k with
  | d h k => exact ⟨_, [], _, rfl, .d h, rfl, k⟩
  | o h hb k => exact ⟨_, [_], _, rfl, .o h hb, rfl, k⟩
  | q h k => exact ⟨_, _, _, rfl, .q h, rfl, k⟩
/-- a slot is set to an entry -/
theorem Sl.set : ∀ {es : En} {vs : List (Option V)} {own : Owns} (i : Nat) {s : S} {v : V} {os : Owns}, Sl c B G H es vs own → En1 c B G H s v os →
    ∃ own', Sl c B G H (es.set i (some s)) (vs.set i (some v)) own' ∧ (∀ p ∈ own', p ∈ os ∨ p ∈ own) ∧ ((os ++ own).Nodup → own'.Nodup)
  | _, _, _, _, _, _, os, .nil, _ => ⟨[], .nil, fun _ h => by simp at h, fun _ => by simp⟩
  | _, _, own, 0, _, _, os, .skip k, e => ⟨os ++ own, Sl.one e k, fun p hp => List.mem_append.mp hp, id⟩
  | _, _, own, 0, _, _, os, .d _ k, e => ⟨os ++ own, Sl.one e k, fun p hp => List.mem_append.mp hp, id⟩
  | _, _, a :: own, 0, _, _, os, .o _ _ k, e => ⟨os ++ own, Sl.one e k, fun p hp => (List.mem_append.mp hp).imp id (List.mem_cons_of_mem _), fun nd => nd.sublist (List.Sublist.append_left (List.sublist_cons_self _ _) _)⟩
  | _, _, _, i + 1, _, _, os, .skip k, e => by
    obtain ⟨own', h1, h2, h3⟩ := Sl.set i k e
    exact ⟨own', .skip h1, h2, h3⟩
  | _, _, _, i + 1, _, _, os, .d h k, e => by
    obtain ⟨own', h1, h2, h3⟩ := Sl.set i k e
    exact ⟨own', .d h h1, h2, h3⟩
  | _, _, a :: own, i + 1, _, _, os, .o h hb k, e => by
    obtain ⟨own', h1, h2, h3⟩ := Sl.set i k e
    refine ⟨a :: own', .o h hb h1, fun p hp => ?_, fun nd => ?_⟩
    · rcases List.mem_cons.mp hp with rfl | hp
      · exact .inr List.mem_cons_self
      · exact (h2 p hp).imp id (List.mem_cons_of_mem _)
    · rw [List.nodup_append] at nd
      obtain ⟨n1, n2, n3⟩ := nd
      obtain ⟨n4, n5⟩ := List.nodup_cons.mp n2
      rw [List.nodup_cons]
      refine ⟨fun hm => ?_, h3 ?_⟩
      · rcases h2 a hm with q | q
        · exact n3 a q a List.mem_cons_self rfl
        · exact n4 q
      · rw [List.nodup_append]
        exact ⟨n1, n5, fun x hx y hy => n3 x hx y (List.mem_cons_of_mem _ hy)⟩
  | _, _, _, 0, _, _, os, @Sl.q _ _ _ _ _ _ _ _ _ qs own _ k, e => ⟨os ++ own, Sl.one e k, fun p hp => (List.mem_append.mp hp).imp id (List.mem_append_right _), fun nd => nd.sublist (List.Sublist.append_left (List.sublist_append_right _ _) _)⟩
  | _, _, _, i + 1, _, _, os, @Sl.q _ _ _ _ _ _ _ _ _ qs own h k, e => by
    obtain ⟨own', h1, h2, h3⟩ := Sl.set i k e
    refine ⟨qs ++ own', .q h h1, fun p hp => ?_, fun nd => ?_⟩
    · rcases List.mem_append.mp hp with hp | hp
      · exact .inr (List.mem_append_left _ hp)
      · exact (h2 p hp).imp id (List.mem_append_right _)
    · rw [List.nodup_append] at nd
      obtain ⟨n1, n2, n3⟩ := nd
      rw [List.nodup_append] at n2 ⊢
      obtain ⟨n4, n5, n6⟩ := n2
      refine ⟨n4, h3 ?_, fun x hx y hy => ?_⟩
      · rw [List.nodup_append]
        exact ⟨n1, n5, fun x hx y hy => n3 x hx y (List.mem_append_right _ hy)⟩
      · rcases h2 y hy with z | z
        · exact fun e => n3 y z x (List.mem_append_left _ hx) e.symm
        · exact n6 x hx y z
/-- a slot is forgotten -/
theorem Sl.forget : ∀ {es : En} {vs : List (Option V)} {own : Owns} (i : Nat) (w : Option V), Sl c B G H es vs own →
    ∃ own', Sl c B G H (es.set i none) (vs.set i w) own' ∧ (∀ p ∈ own', p ∈ own) ∧ (own.Nodup → own'.Nodup)
  | _, _, _, _, _, .nil => ⟨[], .nil, fun _ h => h, id⟩
  | _, _, own, 0, _, .skip k => ⟨own, .skip k, fun _ h => h, id⟩
  | _, _, own, 0, _, .d _ k => ⟨own, .skip k, fun _ h => h, id⟩
  | _, _, a :: own, 0, _, .o _ _ k => ⟨own, .skip k, fun p hp => List.mem_cons_of_mem _ hp, fun nd => (List.nodup_cons.mp nd).2⟩
  | _, _, _, i + 1, w, .skip k => by
    obtain ⟨own', h1, h2, h3⟩ := Sl.forget i w k
    exact ⟨own', .skip h1, h2, h3⟩
  | _, _, _, i + 1, w, .d h k => by
    obtain ⟨own', h1, h2, h3⟩ := Sl.forget i w k
    exact ⟨own', .d h h1, h2, h3⟩
  | _, _, a :: own, i + 1, w, .o h hb k => by
    obtain ⟨own', h1, h2, h3⟩ := Sl.forget i w k
    refine ⟨a :: own', .o h hb h1, fun p hp => ?_, fun nd => ?_⟩
    · rcases List.mem_cons.mp hp with rfl | hp
      · exact List.mem_cons_self
      · exact List.mem_cons_of_mem _ (h2 p hp)
    · rw [List.nodup_cons] at nd ⊢
      exact ⟨fun hm => nd.1 (h2 a hm), h3 nd.2⟩
  | _, _, _, 0, _, @Sl.q _ _ _ _ _ _ _ _ _ qs own _ k => ⟨own, .skip k, fun p hp => List.mem_append_right _ hp, fun nd => (List.nodup_append.mp nd).2.1⟩
  | _, _, _, i + 1, w, @Sl.q _ _ _ _ _ _ _ _ _ qs own h k => by
    obtain ⟨own', h1, h2, h3⟩ := Sl.forget i w k
    refine ⟨qs ++ own', .q h h1, fun p hp => ?_, fun nd => nodup_sub nd h2 (h3 (List.nodup_append.mp nd).2.1)⟩
    rcases List.mem_append.mp hp with hp | hp
    · exact List.mem_append_left _ hp
    · exact List.mem_append_right _ (h2 p hp)
end
section
variable {c : Cfg} {B : Base} {G H H' : Hp} {own own' : Owns} {ts : En} {vs : List (Option V)} {ρ : En} {σ : L2.St}
theorem OkB.subO (k : OkB c B G H own) (h1 : ∀ p ∈ own', p ∈ own) (h2 : own'.Nodup) : OkB c B G H own' := ⟨k.sub, k.notbl, h2, fun p hp => k.out p (h1 p hp), k.tabs, k.pint, fun a o e => ⟨(k.pin a o e).1, fun hm => (k.pin a o e).2 (h1 a hm)⟩⟩
theorem tabs_new {T : List (Addr × Str)} {p : Addr} {o : HO} (t : Tabs T H) (hp : H p = none) : Tabs T (upd H p o) := fun q hq => by
  obtain ⟨ps, h1, h2, h3⟩ := t q hq
  refine ⟨ps, by rw [upd_ne (ne_of_none h1 hp)]; exact h1, h2, fun pos cv e => ?_⟩
  obtain ⟨cc, e1, e2⟩ := h3 pos cv e
  exact ⟨cc, e1, by rw [upd_ne (ne_of_none e2 hp)]; exact e2⟩
theorem rep_get (o : Obj) (n : Nat) (h : ∃ es ep, o.data = .dict es ep) (b : Nat) (hb : b < n) : ({ objs := Array.replicate n o } : Heap).get? b = some o := by
  obtain ⟨cl, di, da, sl⟩ := o
  obtain ⟨es, ep, h⟩ := h
  cases h
  unfold Heap.get?
  simp only [Array.getElem?_replicate, hb, if_true]
theorem xdO_code {a q : Addr} {o : Obj} {es : Array DictEntry} {ep : Nat} {x : Str} (h : o.data = .dict es ep) : xdO a o ≠ CodeO q x := fun z => by
  unfold xdO CodeO at z
  injection z with z
  have g1 := rep_get o (a + q + 1) ⟨es, ep, h⟩ a (by omega)
  have g2 := rep_get o (a + q + 1) ⟨es, ep, h⟩ q (by omega)
  have z1 := congrFun z ({ objs := Array.replicate (a + q + 1) o } : Heap)
  have g3 := z1.mp g1
  obtain ⟨oc, vs, t, e1, e2, _⟩ := g3
  rw [g2] at e1
  cases e1
  rw [h] at e2
  cases e2
theorem isCell_tbl {u : HO} (h : isCell u) (ps : Array Value) : u ≠ .tbl ps := fun z => by
  cases h <;> cases z
theorem isCell_code {u : HO} {a : Addr} {q : Str} (h : isCell u) : u ≠ CodeO a q := fun z => by
  cases h with
  | xd a o es ep h => exact xdO_code h z
  | lst => unfold CodeO at z; cases z
  | ins => unfold CodeO at z; cases z
  | dK => unfold CodeO at z; cases z
  | frz => unfold CodeO at z; cases z
theorem tabs_put {T : List (Addr × Str)} {p : Addr} {u o : HO} (t : Tabs T H) (hp : H p = some u) (n : isCell u) : Tabs T (upd H p o) := fun q hq => by
  obtain ⟨ps, h1, h2, h3⟩ := t q hq
  refine ⟨ps, ?_, h2, fun pos cv e => ?_⟩
  · have : q.1 ≠ p := fun z => by
      rw [z, hp] at h1
      exact isCell_tbl n ps (Option.some.inj h1)
    rw [upd_ne this]
    exact h1
  · obtain ⟨cc, e1, e2⟩ := h3 pos cv e
    refine ⟨cc, e1, ?_⟩
    have : cc ≠ p := fun z => by
      rw [z, hp] at e2
      exact isCell_code n (Option.some.inj e2)
    rw [upd_ne this]
    exact e2
theorem OkB.gnone (k : OkB c B G H own) {p : Addr} (hp : H p = none) : G p = none := by
  cases e : G p with
  | none => rfl
  | some o =>
    rw [k.sub p o e] at hp
    cases hp
theorem OkB.alloc (k : OkB c B G H own) {p : Addr} {o : HO} (hp : H p = none) (ho : isTbl o = false) : OkB c B (upd G p o) (upd H p o) own := by
  have gp := k.gnone hp
  refine ⟨fun a u e => ?_, fun a u e => ?_, k.nd, fun q hq => ?_, tabs_new k.tabs hp, k.pint, fun a u e => ⟨by rw [upd_ne (ne_of_none (k.pin a u e).1 hp)]; exact (k.pin a u e).1, (k.pin a u e).2⟩⟩
  · by_cases ha : a = p
    · subst ha
      rw [upd_same] at e ⊢
      exact e
    · rw [upd_ne ha] at e ⊢
      exact k.sub a u e
  · by_cases ha : a = p
    · subst ha
      rw [upd_same] at e
      cases e
      exact ho
    · rw [upd_ne ha] at e
      exact k.notbl a u e
  · obtain ⟨h1, h2⟩ := k.out q hq
    have ha : q ≠ p := fun z => h2 (by rw [z]; exact hp)
    rw [upd_ne ha, upd_ne ha]
    exact ⟨h1, h2⟩
/-- a new cell that may be changed -/
theorem OkB.allocO (k : OkB c B G H own) {p : Addr} {o : HO} (hp : H p = none) : OkB c B G (upd H p o) (p :: own) := by
  have gp := k.gnone hp
  refine ⟨fun a u e => ?_, k.notbl, ?_, fun q hq => ?_, tabs_new k.tabs hp, k.pint, fun a u e => ⟨by rw [upd_ne (ne_of_none (k.pin a u e).1 hp)]; exact (k.pin a u e).1, fun hm => ?_⟩⟩
  · have ha : a ≠ p := fun z => by rw [z, gp] at e; cases e
    rw [upd_ne ha]
    exact k.sub a u e
  · rw [List.nodup_cons]
    exact ⟨fun hm => (k.out p hm).2 hp, k.nd⟩
  · rcases List.mem_cons.mp hq with rfl | hq
    · exact ⟨gp, by rw [upd_same]; simp⟩
    · obtain ⟨h1, h2⟩ := k.out q hq
      have ha : q ≠ p := fun z => h2 (by rw [z]; exact hp)
      rw [upd_ne ha]
      exact ⟨h1, h2⟩
  · rcases List.mem_cons.mp hm with rfl | hm
    · rw [(k.pin _ u e).1] at hp
      cases hp
    · exact (k.pin a u e).2 hm
/-- an owned cell stays from here on -/
theorem OkB.freeze {p : Addr} {o : HO} (k : OkB c B G H own) (hp : p ∈ own) (e : H p = some o) (ho : isTbl o = false) (h1 : ∀ q ∈ own', q ∈ own ∧ q ≠ p) (h2 : own'.Nodup) : OkB c B (upd G p o) H own' := by
  obtain ⟨gp, _⟩ := k.out _ hp
  refine ⟨fun a u e' => ?_, fun a u e' => ?_, h2, fun q hq => ?_, k.tabs, k.pint, fun a u e => ⟨(k.pin a u e).1, fun hm => (k.pin a u e).2 (h1 a hm).1⟩⟩
  · by_cases ha : a = p
    · subst ha
      rw [upd_same] at e'
      rw [e, ← e']
    · rw [upd_ne ha] at e'
      exact k.sub a u e'
  · by_cases ha : a = p
    · subst ha
      rw [upd_same] at e'
      cases e'
      exact ho
    · rw [upd_ne ha] at e'
      exact k.notbl a u e'
  · obtain ⟨m, ne⟩ := h1 q hq
    obtain ⟨h1, h2⟩ := k.out q m
    rw [upd_ne ne]
    exact ⟨h1, h2⟩
/-- an owned cell is written -/
theorem OkB.write {p : Addr} {u o : HO} (k : OkB c B G H own) (hp : p ∈ own) (e : H p = some u) (hu : isCell u) : OkB c B G (upd H p o) own := by
  obtain ⟨gp, _⟩ := k.out _ hp
  refine ⟨fun a u' e' => ?_, k.notbl, k.nd, fun q hq => ?_, tabs_put k.tabs e hu, k.pint, fun a u' e' => ⟨by rw [upd_ne fun z : a = p => (k.pin a u' e').2 (z ▸ hp)]; exact (k.pin a u' e').1, (k.pin a u' e').2⟩⟩
  · have ha : a ≠ p := fun z => by rw [z, gp] at e'; cases e'
    rw [upd_ne ha]
    exact k.sub a u' e'
  · obtain ⟨h1, h2⟩ := k.out q hq
    refine ⟨h1, ?_⟩
    by_cases ha : q = p
    · rw [ha, upd_same]
      simp
    · rw [upd_ne ha]
      exact h2
end
end Fx
/-! what a reading makes of a state -/
namespace Fx
open PySem PySem.Spec PyProof.Rows L2
open LamX (Tabs TabS TabB ExtN CodeO codeO_ne)
/-- data that wait, the last one first -/
abbrev tmp (ds : List D) : En := ds.reverse.map fun x => some (S.d x)
abbrev tmv (us : List V) : List (Option V) := us.reverse.map some
section
variable {c : Cfg} {B : Base} {G H H' : Hp} {own own' : Owns} {ts : En} {vs : List (Option V)} {ρ : En} {σ : L2.St}
theorem Sl.tmpR : ∀ {ds : List D} {us : List V} {own : Owns}, us.length = ds.length → Sl c B G H (ds.map (fun x => some (S.d x)) ++ ts) (us.map some ++ vs) own → RpAll c G us ds ∧ Sl c B G H ts vs own
  | [], [], _, _, h => ⟨.nil, h⟩
  | [], _ :: _, _, e, _ => by simp at e
  | _ :: _, [], _, e, _ => by simp at e
  | x :: ds, u :: us, _, e, h => by
    cases h with
    | d h k =>
      obtain ⟨h1, h2⟩ := Sl.tmpR (by simpa using e) k
      exact ⟨.cons h h1, h2⟩
theorem Sl.tmp {ds : List D} {us : List V} (e : us.length = ds.length) (h : Sl c B G H (tmp ds ++ ts) (tmv us ++ vs) own) : RpAll c G us ds ∧ Sl c B G H ts vs own := by
  obtain ⟨h1, h2⟩ := Sl.tmpR (by simpa using e) h
  refine ⟨?_, h2⟩
  have := h1.rev
  simpa using this
theorem upd_sub {p : Addr} {o : HO} (h : G p = none) : ∀ a u, G a = some u → upd G p o a = some u := fun a u e => by
  rw [upd_ne (ne_of_none e h)]
  exact e
/-- the owned cells stay behind a new object -/
theorem own_new {p : Addr} {o : HO} (k : OkB c B G H own) (hp : H p = none) : ∀ q ∈ own, upd H p o q = H q := fun q hq => by
  have ha : q ≠ p := fun z => (k.out q hq).2 (by rw [z]; exact hp)
  rw [upd_ne ha]
/-- a new object of what waits -/
theorem Rep.new {ds : List D} {us : List V} {p : Addr} {o : HO} {x : D} (r : Rep c B (tmp ds ++ ts) (tmv us ++ vs) ρ σ H) (hl : us.length = ds.length) (hp : H p = none) (ho : isTbl o = false) (hx : ∀ G', G' p = some o → RpAll c G' us ds → Rp c G' (.ref p) x) :
    Rep c B (some (.d x) :: ts) (some (.ref p) :: vs) ρ σ (upd H p o) := by
  obtain ⟨G, o1, o2, k, h1, h2⟩ := r
  obtain ⟨a1, a2⟩ := h1.tmp hl
  have gp := k.gnone hp
  have ow := own_new (o := o) k hp
  exact ⟨upd G p o, o1, o2, k.alloc hp ho, .d (hx _ upd_same (a1.mono (upd_sub gp))) (a2.mono (upd_sub gp) fun q hq => ow q (List.mem_append_left _ hq)), h2.mono (upd_sub gp) fun q hq => ow q (List.mem_append_right _ hq)⟩
theorem Rep.newO {ds : List D} {us : List V} {p : Addr} {o : HO} {x : D} (r : Rep c B (tmp ds ++ ts) (tmv us ++ vs) ρ σ H) (hl : us.length = ds.length) (hp : H p = none) (hx : ∀ G H', H' p = some o → RpAll c G us ds → Cell c G H' p x) :
    Rep c B (some (.o none x) :: ts) (some (.ref p) :: vs) ρ σ (upd H p o) := by
  obtain ⟨G, o1, o2, k, h1, h2⟩ := r
  obtain ⟨a1, a2⟩ := h1.tmp hl
  have ow := own_new (o := o) k hp
  refine ⟨G, p :: o1, o2, k.allocO hp, .o (hx _ _ upd_same a1) (fun _ e => nomatch e) (a2.mono (fun _ _ e => e) fun q hq => ow q (List.mem_append_left _ hq)), h2.mono (fun _ _ e => e) fun q hq => ow q (List.mem_append_right _ hq)⟩
/-- what waits gives a value, the heap as it is -/
theorem Rep.repl {ds : List D} {us : List V} {v : V} {x : D} (r : Rep c B (tmp ds ++ ts) (tmv us ++ vs) ρ σ H) (hl : us.length = ds.length) (hx : ∀ G, RpAll c G us ds → Rp c G v x) : Rep c B (some (.d x) :: ts) (some v :: vs) ρ σ H := by
  obtain ⟨G, o1, o2, k, h1, h2⟩ := r
  obtain ⟨a1, a2⟩ := h1.tmp hl
  exact ⟨G, o1, o2, k, .d (hx _ a1) a2, h2⟩
theorem Rep.drop {s : Option S} {v : Option V} (r : Rep c B (s :: ts) (v :: vs) ρ σ H) : Rep c B ts vs ρ σ H := by
  obtain ⟨G, o1, o2, k, h1, h2⟩ := r
  cases h1 with
  | skip h => exact ⟨G, _, o2, k, h, h2⟩
  | d _ h => exact ⟨G, _, o2, k, h, h2⟩
  | o _ _ h =>
    refine ⟨G, _, o2, k.subO (fun p hp => List.mem_cons_of_mem _ hp) ?_, h, h2⟩
    have := k.nd
    rw [List.cons_append, List.nodup_cons] at this
    exact this.2
  | q _ h =>
    refine ⟨G, _, o2, k.subO (fun p hp => ?_) ?_, h, h2⟩
    · rw [List.append_assoc]
      exact List.mem_append_right _ hp
    · have := k.nd
      rw [List.append_assoc] at this
      exact (List.nodup_append.mp this).2.1
theorem Rep.dropN {ds : List D} {us : List V} (hl : us.length = ds.length) (r : Rep c B (tmp ds ++ ts) (tmv us ++ vs) ρ σ H) : Rep c B ts vs ρ σ H := by
  obtain ⟨G, o1, o2, k, h1, h2⟩ := r
  exact ⟨G, o1, o2, k, (h1.tmp hl).2, h2⟩
def canFz : D → Bool
  | .lst _ => true
  | .dct _ _ => true
  | _ => false
theorem Cell.fz {a : Addr} {x : D} (hx : canFz x = true) (hc : Cell c G H a x) : ∃ o, H a = some o ∧ isTbl o = false ∧ ∀ G', (∀ b u, G b = some u → G' b = some u) → G' a = some o → Rp c G' (.ref a) x := by
  cases x with
  | lst ds =>
    obtain ⟨vs, h, k⟩ := hc
    exact ⟨_, h, rfl, fun G' s e => .lst e (k.mono s)⟩
  | dct ks ds =>
    obtain ⟨o, kv, us, h, d, k1, k2⟩ := hc
    exact ⟨_, h, rfl, fun G' s e => .dcx e d (k1.mono s) (k2.mono s)⟩
  | _ => cases hx
/-- a new cell stays from here on -/
theorem Rep.fz {x : D} {v : V} (hx : canFz x = true) (r : Rep c B (some (.o none x) :: ts) (some v :: vs) ρ σ H) : Rep c B (some (.d x) :: ts) (some v :: vs) ρ σ H := by
  obtain ⟨G, o1, o2, k, h1, h2⟩ := r
  cases h1 with
  | @o a _ _ _ _ own hc hb h =>
    obtain ⟨o, e, ho, f⟩ := hc.fz hx
    have nd := k.nd
    rw [List.cons_append, List.nodup_cons] at nd
    have gp := (k.out _ (List.mem_append_left _ List.mem_cons_self)).1
    exact ⟨upd G a o, own, o2, k.freeze (List.mem_append_left _ List.mem_cons_self) e ho (fun q hq => ⟨List.mem_cons_of_mem _ hq, fun z => nd.1 (z ▸ hq)⟩) nd.2, .d (f _ (upd_sub gp) upd_same) (h.mono (upd_sub gp) fun _ _ => rfl), h2.mono (upd_sub gp) fun _ _ => rfl⟩
/-- a name's cell stays from here on -/
theorem Sl.fzAt : ∀ {es : En} {vs : List (Option V)} {own : Owns} {i : Nat} {b : Option Nat} {x : D} {a : Addr}, own.Nodup → Sl c B G H es vs own → es[i]? = some (some (.o b x)) → vs[i]? = some (some (.ref a)) → Rp c G (.ref a) x →
    ∃ own', Sl c B G H (es.set i (some (.d x))) vs own' ∧ (∀ q ∈ own', q ∈ own ∧ q ≠ a) ∧ own'.Nodup := by
  intro es
  induction es with
  | nil => intro vs own i b x a _ _ e; simp at e
  | cons s es ih =>
    intro vs own i b x a nd h e ev hr
    cases h with
    | skip k =>
      cases i with
      | zero => simp at e
      | succ i =>
        obtain ⟨own', h1, h2, h3⟩ := ih nd k (by simpa using e) (by simpa using ev) hr
        exact ⟨own', .skip h1, h2, h3⟩
    | d hh k =>
      cases i with
      | zero => simp at e
      | succ i =>
        obtain ⟨own', h1, h2, h3⟩ := ih nd k (by simpa using e) (by simpa using ev) hr
        exact ⟨own', .d hh h1, h2, h3⟩
    | @o a' b' x' _ _ own hh hb k =>
      rw [List.nodup_cons] at nd
      cases i with
      | zero =>
        simp at e ev
        obtain ⟨rfl, rfl⟩ := e
        subst ev
        exact ⟨own, .d hr k, fun q hq => ⟨List.mem_cons_of_mem _ hq, fun z => nd.1 (z ▸ hq)⟩, nd.2⟩
      | succ i =>
        have e' : es[i]? = some (some (.o b x)) := by simpa using e
        obtain ⟨a2, e2, _, m2, _⟩ := k.getO e'
        obtain ⟨own', h1, h2, h3⟩ := ih nd.2 k e' (by simpa using ev) hr
        have ea : a2 = a := by
          have : _ = some (some (V.ref a)) := (by simpa using ev)
          rw [this] at e2
          cases e2
          rfl
        subst ea
        refine ⟨a' :: own', .o hh hb h1, fun q hq => ?_, ?_⟩
        · rcases List.mem_cons.mp hq with rfl | hq
          · exact ⟨List.mem_cons_self, fun z => nd.1 (z ▸ m2)⟩
          · exact ⟨List.mem_cons_of_mem _ (h2 q hq).1, (h2 q hq).2⟩
        · rw [List.nodup_cons]
          exact ⟨fun hm => nd.1 (h2 a' hm).1, h3⟩
    | @q a' ks' dss' _ _ qs own hh k =>
      cases i with
      | zero => simp at e
      | succ i =>
        have e' : es[i]? = some (some (.o b x)) := by simpa using e
        obtain ⟨a2, e2, _, m2, _⟩ := k.getO e'
        have n2 := (List.nodup_append.mp nd)
        obtain ⟨own', h1, h2, h3⟩ := ih n2.2.1 k e' (by simpa using ev) hr
        have ea : a2 = a := by
          have : _ = some (some (V.ref a)) := (by simpa using ev)
          rw [this] at e2
          cases e2
          rfl
        subst ea
        refine ⟨qs ++ own', .q hh h1, fun q hq => ?_, nodup_sub nd (fun p hp => (h2 p hp).1) h3⟩
        rcases List.mem_append.mp hq with hq | hq
        · exact ⟨List.mem_append_left _ hq, fun z => n2.2.2 q hq a2 m2 z⟩
        · exact ⟨List.mem_append_right _ (h2 q hq).1, (h2 q hq).2⟩
theorem Rep.fzAt {i : Nat} {b : Option Nat} {x : D} (hx : canFz x = true) (e : ρ[i]? = some (some (.o b x))) (r : Rep c B ts vs ρ σ H) : Rep c B ts vs (ρ.set i (some (.d x))) σ H := by
  obtain ⟨G, o1, o2, k, h1, h2⟩ := r
  obtain ⟨a, ev, hc, hm, _⟩ := h2.getO e
  obtain ⟨o, eo, ho, f⟩ := hc.fz hx
  have gp := (k.out _ (List.mem_append_right _ hm)).1
  have nd := k.nd
  rw [List.nodup_append] at nd
  obtain ⟨n1, n2, n3⟩ := nd
  obtain ⟨own', g1, g2, g3⟩ := (h2.mono (upd_sub (o := o) gp) (fun _ _ => rfl) (H' := H)).fzAt n2 e ev (f _ (upd_sub gp) upd_same)
  refine ⟨upd G a o, o1, own', k.freeze (List.mem_append_right _ hm) eo ho (fun q hq => ?_) ?_, h1.mono (upd_sub gp) fun _ _ => rfl, g1⟩
  · rcases List.mem_append.mp hq with hq | hq
    · exact ⟨List.mem_append_left _ hq, fun z => n3 q hq a hm z⟩
    · exact ⟨List.mem_append_right _ (g2 q hq).1, (g2 q hq).2⟩
  · rw [List.nodup_append]
    exact ⟨n1, g3, fun x hx y hy => n3 x hx y (g2 y hy).1⟩
theorem Rep.var {i : Nat} {x : D} (e : ρ[i]? = some (some (.d x))) (r : Rep c B ts vs ρ σ H) : ∃ v, σ[i]? = some (some v) ∧ Rep c B (some (.d x) :: ts) (some v :: vs) ρ σ H := by
  obtain ⟨G, o1, o2, k, h1, h2⟩ := r
  obtain ⟨v, e1, hr⟩ := h2.getD e
  exact ⟨v, e1, G, o1, o2, k, .d hr h1, h2⟩
theorem Rep.varO {i : Nat} {b : Option Nat} {x : D} (e : ρ[i]? = some (some (.o b x))) (r : Rep c B ts vs ρ σ H) : ∃ a, σ[i]? = some (some (.ref a)) ∧ ∃ G, (∀ a o, G a = some o → H a = some o) ∧ Cell c G H a x := by
  obtain ⟨G, o1, o2, k, h1, h2⟩ := r
  obtain ⟨a, e1, hr, _⟩ := h2.getO e
  exact ⟨a, e1, G, k.sub, hr⟩
theorem Sl.getQ : ∀ {es : En} {vs : List (Option V)} {own : Owns} {i : Nat} {ks : List D} {dss : List (List D)}, Sl c B G H es vs own → es[i]? = some (some (.q ks dss)) → ∃ a os, vs[i]? = some (some (.ref a)) ∧ QCell c B G H a ks dss os ∧ ∀ p ∈ os, p ∈ own
  | _, _, _, _, _, _, .nil, e => by simp at e
  | _, _, _, 0, _, _, .skip k, e => by simp at e
  | _, _, _, 0, _, _, .d h k, e => by simp at e
  | _, _, _, 0, _, _, .o h _ k, e => by simp at e
  | _, _, _, 0, _, _, .q h k, e => by simp at e; obtain ⟨rfl, rfl⟩ := e; exact ⟨_, _, rfl, h, fun p hp => List.mem_append_left _ hp⟩
  | _, _, _, i + 1, _, _, .skip k, e => Sl.getQ (i := i) k (by simpa using e)
  | _, _, _, i + 1, _, _, .d h k, e => Sl.getQ (i := i) k (by simpa using e)
  | _, _, _, i + 1, _, _, .o h _ k, e => by
    obtain ⟨a, os, h1, h2, h3⟩ := Sl.getQ (i := i) k (by simpa using e)
    exact ⟨a, os, h1, h2, fun p hp => List.mem_cons_of_mem _ (h3 p hp)⟩
  | _, _, _, i + 1, _, _, .q h k, e => by
    obtain ⟨a, os, h1, h2, h3⟩ := Sl.getQ (i := i) k (by simpa using e)
    exact ⟨a, os, h1, h2, fun p hp => List.mem_append_right _ (h3 p hp)⟩
theorem Rep.varQ {i : Nat} {ks : List D} {dss : List (List D)} (e : ρ[i]? = some (some (.q ks dss))) (r : Rep c B ts vs ρ σ H) : ∃ a, σ[i]? = some (some (.ref a)) ∧ ∃ G os, (∀ a o, G a = some o → H a = some o) ∧ QCell c B G H a ks dss os := by
  obtain ⟨G, o1, o2, k, h1, h2⟩ := r
  obtain ⟨a, os, e1, hr, _⟩ := h2.getQ e
  exact ⟨a, e1, G, os, k.sub, hr⟩
/-- a value is stored -/
theorem Rep.set {i : Nat} {s : S} {v : V} (r : Rep c B (some s :: ts) (some v :: vs) ρ σ H) : Rep c B ts vs (ρ.set i (some s)) (σ.set i (some v)) H := by
  obtain ⟨G, o1, o2, k, h1, h2⟩ := r
  obtain ⟨w, os, o1', ew, e1, rfl, h1'⟩ := h1.unone
  cases ew
  obtain ⟨own', g1, g2, g3⟩ := h2.set i e1
  have nd := k.nd
  rw [List.append_assoc, List.nodup_append, List.nodup_append] at nd
  obtain ⟨n1, ⟨n2, n4, n5⟩, n3⟩ := nd
  refine ⟨G, o1', own', k.subO (fun p hp => ?_) ?_, h1', g1⟩
  · rcases List.mem_append.mp hp with hp | hp
    · exact List.mem_append_left _ (List.mem_append_right _ hp)
    · rcases g2 p hp with q | q
      · exact List.mem_append_left _ (List.mem_append_left _ q)
      · exact List.mem_append_right _ q
  · rw [List.nodup_append]
    refine ⟨n2, g3 ?_, fun x hx y hy z => ?_⟩
    · rw [List.nodup_append]
      exact ⟨n1, n4, fun x hx y hy => n3 x hx y (List.mem_append_right _ hy)⟩
    · rcases g2 y hy with hq | hq
      · exact n3 y hq x (List.mem_append_left _ hx) z.symm
      · exact n5 x hx y hq z
theorem Rep.forget {i : Nat} (w : Option V) (r : Rep c B ts vs ρ σ H) : Rep c B ts vs (ρ.set i none) (σ.set i w) H := by
  obtain ⟨G, o1, o2, k, h1, h2⟩ := r
  obtain ⟨own', g1, g2, g3⟩ := h2.forget i w
  have nd := k.nd
  rw [List.nodup_append] at nd
  refine ⟨G, o1, own', k.subO (fun p hp => (List.mem_append.mp hp).elim (List.mem_append_left _) fun h => List.mem_append_right _ (g2 p h)) ?_, h1, g1⟩
  rw [List.nodup_append]
  exact ⟨nd.1, g3 nd.2.1, fun x hx y hy => nd.2.2 x hx y (g2 y hy)⟩
/-- a name's cell is written -/
theorem Sl.write : ∀ {es : En} {vs : List (Option V)} {own : Owns} {i : Nat} {b : Option Nat} {x y : D} {a : Addr}, own.Nodup → Sl c B G H es vs own → es[i]? = some (some (.o b x)) → vs[i]? = some (some (.ref a)) → (∀ q, q ≠ a → H' q = H q) → Cell c G H' a y →
    Sl c B G H' (es.set i (some (.o b y))) vs own := by
  intro es
  induction es with
  | nil => intro vs own i b x y a _ _ e; simp at e
  | cons s es ih =>
    intro vs own i b x y a nd h e ev hh hc
    cases h with
    | skip k =>
      cases i with
      | zero => simp at e
      | succ i => exact .skip (ih nd k (by simpa using e) (by simpa using ev) hh hc)
    | d hr k =>
      cases i with
      | zero => simp at e
      | succ i => exact .d hr (ih nd k (by simpa using e) (by simpa using ev) hh hc)
    | @o a' b' x' _ _ own ho hb k =>
      rw [List.nodup_cons] at nd
      cases i with
      | zero =>
        simp at e ev
        obtain ⟨rfl, rfl⟩ := e
        subst ev
        exact .o hc hb (k.mono (fun _ _ e => e) fun q hq => hh _ fun z => nd.1 (z ▸ hq))
      | succ i =>
        have e' : es[i]? = some (some (.o b x)) := by simpa using e
        obtain ⟨a2, e2, _, m2, _⟩ := k.getO e'
        have ea : a2 = a := by
          have : _ = some (some (V.ref a)) := (by simpa using ev)
          rw [this] at e2
          cases e2
          rfl
        subst ea
        have na : a' ≠ a2 := fun z => nd.1 (z ▸ m2)
        exact .o (ho.mono (fun _ _ e => e) (hh _ na)) hb (ih nd.2 k e' (by simpa using ev) hh hc)
    | @q a' ks' dss' _ _ qs own ho k =>
      cases i with
      | zero => simp at e
      | succ i =>
        have e' : es[i]? = some (some (.o b x)) := by simpa using e
        obtain ⟨a2, e2, _, m2, _⟩ := k.getO e'
        have n2 := (List.nodup_append.mp nd)
        have ea : a2 = a := by
          have : _ = some (some (V.ref a)) := (by simpa using ev)
          rw [this] at e2
          cases e2
          rfl
        subst ea
        exact .q (ho.mono (fun _ _ e => e) fun p hp => hh _ fun z => n2.2.2 p hp a2 m2 z) (ih n2.2.1 k e' (by simpa using ev) hh hc)
theorem Rep.write {ds : List D} {us : List V} {i : Nat} {b : Option Nat} {x y : D} {a : Addr} {u o : HO} (e : ρ[i]? = some (some (.o b x))) (ev : σ[i]? = some (some (.ref a))) (hl : us.length = ds.length) (r : Rep c B (tmp ds ++ ts) (tmv us ++ vs) ρ σ H) (hu : H a = some u) (cu : isCell u)
    (hy : ∀ G H', H' a = some o → Cell c G H a x → RpAll c G us ds → Cell c G H' a y) : Rep c B ts vs (ρ.set i (some (.o b y))) σ (upd H a o) := by
  obtain ⟨G, o1, o2, k, h1, h2⟩ := r
  obtain ⟨a1, a2⟩ := h1.tmp hl
  obtain ⟨a', e1, hc, hm, _⟩ := h2.getO e
  rw [ev] at e1
  cases e1
  have nd := k.nd
  rw [List.nodup_append] at nd
  refine ⟨G, o1, o2, k.write (List.mem_append_right _ hm) hu cu, a2.mono (fun _ _ e => e) fun q hq => ?_, h2.write nd.2.1 e ev (fun q hq => upd_ne hq) (hy G _ upd_same hc a1)⟩
  exact upd_ne fun z => nd.2.2 q hq a hm z
end
/-! ### what a reading makes of a state -/
def Post {α : Type} (K : α → En → Prop) (E : Err → En → Prop) : Out α → Prop
  | .ok a ρ => K a ρ
  | .err e ρ => E e ρ
  | .stuck => False
theorem post_then {α β : Type} {K : β → En → Prop} {E : Err → En → Prop} {m : Out α} {f : α → En → Out β} : Post K E (m.then f) ↔ Post (fun a ρ => Post K E (f a ρ)) E m := by
  cases m <;> exact Iff.rfl
theorem Post.imp {α : Type} {K K' : α → En → Prop} {E E' : Err → En → Prop} {m : Out α} (h : Post K E m) (hk : ∀ a ρ, K a ρ → K' a ρ) (he : ∀ e ρ, E e ρ → E' e ρ) : Post K' E' m := by
  cases m with
  | ok a ρ => exact hk _ _ h
  | err e ρ => exact he _ _ h
  | stuck => exact h
theorem Post.imp1 {α : Type} {K K' : α → En → Prop} {E : Err → En → Prop} {m : Out α} (h : Post K E m) (hk : ∀ a ρ, K a ρ → K' a ρ) : Post K' E m := h.imp hk fun _ _ h => h
section
variable (c : Cfg) (W : WX)
/-- what is wanted of an exception -/
def ErrP (B : Base) (ts : En) (vs : List (Option V)) (σ : L2.St) (e : Err) (ρ : En) : Prop := ∀ k d H', c.err e k d H' → Rep c B ts vs ρ σ H' → W k d σ H'
def OkP (B : Base) (ts : En) (vs : List (Option V)) (σ : L2.St) (Q : VK) (s : S) (ρ : En) : Prop := ∀ v H', Rep c B (some s :: ts) (some v :: vs) ρ σ H' → Q v H'
def OkT (B : Base) (ts : En) (vs : List (Option V)) (σ : L2.St) (Q : Bool → Hp → Prop) (b : Bool) (ρ : En) : Prop := ∀ H', Rep c B ts vs ρ σ H' → Q b H'
def OkA (B : Base) (ts : En) (vs : List (Option V)) (σ : L2.St) (Q : List V → Hp → Prop) (ds : List D) (ρ : En) : Prop := ∀ us H', us.length = ds.length → Rep c B (tmp ds ++ ts) (tmv us ++ vs) ρ σ H' → Q us H'
def Den (te : TE) (f : M S) : Prop := ∀ B ts vs ρ σ H Q, Rep c B ts vs ρ σ H → Post (OkP c B ts vs σ Q) (ErrP c W B ts vs σ) (f ρ) → te σ H Q
def DenT (tt : TT) (f : M Bool) : Prop := ∀ B ts vs ρ σ H Q, Rep c B ts vs ρ σ H → Post (OkT c B ts vs σ Q) (ErrP c W B ts vs σ) (f ρ) → tt σ H Q
def DenA (ta : TA) (f : M (List D)) : Prop := ∀ B ts vs ρ σ H Q, Rep c B ts vs ρ σ H → Post (OkA c B ts vs σ Q) (ErrP c W B ts vs σ) (f ρ) → ta σ H Q
end
/-- a value that stays -/
def toD : S → Option D
  | .d x => some x
  | .o none x => if canFz x then some x else none
  | .o (some _) _ => none
  | .q _ _ => none
def dv (f : M S) : M D := fun ρ => (f ρ).then fun s ρ' => match toD s with
  | some x => .ok x ρ'
  | none => .stuck
section
variable {c : Cfg} {W : WX} {B : Base} {H : Hp} {ts : En} {vs : List (Option V)} {ρ : En} {σ : L2.St}
theorem ErrP.drop {s : Option S} {v : Option V} {e : Err} {ρ : En} (h : ErrP c W B ts vs σ e ρ) : ErrP c W B (s :: ts) (v :: vs) σ e ρ := fun k d H' he r => h k d H' he r.drop
theorem Rep.toD {s : S} {x : D} {v : V} (h : toD s = some x) (r : Rep c B (some s :: ts) (some v :: vs) ρ σ H) : Rep c B (some (.d x) :: ts) (some v :: vs) ρ σ H := by
  cases s with
  | d y => cases h; exact r
  | o b y =>
    cases b with
    | some _ => cases h
    | none =>
      have h : (if canFz y then some y else none) = some x := h
      split at h
      · rename_i hy
        cases h
        exact r.fz hy
      · cases h
  | q _ _ => cases h
theorem Den.dv {te : TE} {f : M S} {Q : VK} (h : Den c W te f) (r : Rep c B ts vs ρ σ H) (q : Post (fun x ρ' => ∀ v H', Rep c B (some (.d x) :: ts) (some v :: vs) ρ' σ H' → Q v H') (ErrP c W B ts vs σ) (dv f ρ)) : te σ H Q := by
  refine h B ts vs ρ σ H Q r ?_
  unfold Fx.dv at q
  rw [post_then] at q
  refine q.imp1 fun s ρ' p v H' r' => ?_
  split at p
  · rename_i x hx
    exact p v H' (r'.toD hx)
  · exact p.elim
end
def mVar (i : Nat) : M S := fun ρ => match ρ[i]? with
  | some (some (.d x)) => .ok (.d x) ρ
  | some (some (.o none x)) => if canFz x then .ok (.d x) (ρ.set i (some (.d x))) else .stuck
  | _ => .stuck
def mC (x : D) : M S := fun ρ => .ok (.d x) ρ
/-- a value of two, one, some -/
def mOp (g : D → D → Option S) (fa fb : M S) : M S := fun ρ => (dv fa ρ).then fun x ρ1 => (dv fb ρ1).then fun y ρ2 => match g x y with
  | some s => .ok s ρ2
  | none => .stuck
def mUn (g : D → Option S) (fa : M S) : M S := fun ρ => (dv fa ρ).then fun x ρ1 => match g x with
  | some s => .ok s ρ1
  | none => .stuck
def aNil : M (List D) := fun ρ => .ok [] ρ
def aCons (fa : M S) (fr : M (List D)) : M (List D) := fun ρ => (dv fa ρ).then fun x ρ1 => (fr ρ1).then fun ds ρ2 => .ok (x :: ds) ρ2
def mCB (g : List D → Option S) (fa : M (List D)) : M S := fun ρ => (fa ρ).then fun ds ρ1 => match g ds with
  | some s => .ok s ρ1
  | none => .stuck
/-- an operation on values does on data what g does -/
def OpDen (c : Cfg) (r : R2) (g : D → D → Option S) : Prop := ∀ (B : Base) (ts : En) (vs : List (Option V)) (ρ : En) (σ : L2.St) (H : Hp) (Q : VK) (x y : D) (v u : V) (s : S),
  Rep c B (some (.d y) :: some (.d x) :: ts) (some u :: some v :: vs) ρ σ H → g x y = some s → OkP c B ts vs σ Q s ρ → r v u H Q
def UnDen (c : Cfg) (r : V → Hp → VK → Prop) (g : D → Option S) : Prop := ∀ (B : Base) (ts : En) (vs : List (Option V)) (ρ : En) (σ : L2.St) (H : Hp) (Q : VK) (x : D) (v : V) (s : S),
  Rep c B (some (.d x) :: ts) (some v :: vs) ρ σ H → g x = some s → OkP c B ts vs σ Q s ρ → r v H Q
def CbDen (c : Cfg) (r : List V → Hp → VK → Prop) (g : List D → Option S) : Prop := ∀ (B : Base) (ts : En) (vs : List (Option V)) (ρ : En) (σ : L2.St) (H : Hp) (Q : VK) (ds : List D) (us : List V) (s : S),
  us.length = ds.length → Rep c B (tmp ds ++ ts) (tmv us ++ vs) ρ σ H → g ds = some s → OkP c B ts vs σ Q s ρ → r us H Q
section
variable {c : Cfg} {W : WX} {ta tb tc : TE} {fa fb fc : M S} {tt tu : TT} {ft fu : M Bool}
theorem den_var {i : Nat} : Den c W (tVar i) (mVar i) := by
  intro B ts vs ρ σ H Q r h
  unfold mVar at h
  split at h
  · rename_i x e
    obtain ⟨v, e1, r1⟩ := r.var e
    exact ⟨v, e1, h v H r1⟩
  · rename_i x e
    split at h
    · rename_i hx
      have r1 := r.fzAt hx e
      have hlt := (List.getElem?_eq_some_iff.mp e).1
      have e2 : (ρ.set i (some (.d x)))[i]? = some (some (.d x)) := by rw [List.getElem?_set_self hlt]
      obtain ⟨v, e1, r2⟩ := r1.var e2
      exact ⟨v, e1, h v H r2⟩
    · exact h.elim
  · exact h.elim
theorem den_c {v : V} {x : D} (hx : ∀ G, Rp c G v x) : Den c W (tC v) (mC x) := fun B ts vs ρ σ H Q r h => h v H (Rep.repl (ds := []) (us := []) r rfl fun G _ => hx G)
theorem den_op {r : R2} {g : D → D → Option S} (ho : OpDen c r g) (ha : Den c W ta fa) (hb : Den c W tb fb) : Den c W (tOp r ta tb) (mOp g fa fb) := by
  intro B ts vs ρ σ H Q rp h
  unfold mOp at h
  rw [post_then] at h
  refine ha.dv rp (h.imp1 fun x ρ1 h v H1 r1 => ?_)
  rw [post_then] at h
  refine hb.dv r1 (h.imp (fun y ρ2 h u H2 r2 => ?_) fun _ _ h => h.drop)
  split at h
  · rename_i s hs
    exact ho B ts vs ρ2 σ H2 Q x y v u s r2 hs h
  · exact h.elim
theorem den_un {r : V → Hp → VK → Prop} {g : D → Option S} (ho : UnDen c r g) (ha : Den c W ta fa) : Den c W (tUn r ta) (mUn g fa) := by
  intro B ts vs ρ σ H Q rp h
  unfold mUn at h
  rw [post_then] at h
  refine ha.dv rp (h.imp1 fun x ρ1 h v H1 r1 => ?_)
  split at h
  · rename_i s hs
    exact ho B ts vs ρ1 σ H1 Q x v s r1 hs h
  · exact h.elim
theorem den_nil : DenA c W tNil aNil := fun B ts vs ρ σ H Q r h => h [] H rfl r
theorem den_cons {tr : TA} {fr : M (List D)} (ha : Den c W ta fa) (hr : DenA c W tr fr) : DenA c W (tCons ta tr) (aCons fa fr) := by
  intro B ts vs ρ σ H Q rp h
  unfold aCons at h
  rw [post_then] at h
  refine ha.dv rp (h.imp1 fun x ρ1 h v H1 r1 => ?_)
  rw [post_then] at h
  refine hr B _ _ ρ1 σ H1 _ r1 (h.imp (fun ds ρ2 h us H2 hl r2 => ?_) fun _ _ h => h.drop)
  refine h (v :: us) H2 (by simp [hl]) ?_
  unfold tmp tmv
  rw [List.reverse_cons, List.map_append, List.reverse_cons, List.map_append, List.append_assoc, List.append_assoc]
  exact r2
theorem den_cb {r : List V → Hp → VK → Prop} {g : List D → Option S} {tA : TA} {fA : M (List D)} (ho : CbDen c r g) (ha : DenA c W tA fA) : Den c W (tCB r tA) (mCB g fA) := by
  intro B ts vs ρ σ H Q rp h
  unfold mCB at h
  rw [post_then] at h
  refine ha B ts vs ρ σ H _ rp (h.imp1 fun ds ρ1 h us H1 hl r1 => ?_)
  split at h
  · rename_i s hs
    exact ho B ts vs ρ1 σ H1 Q ds us s hl r1 hs h
  · exact h.elim
end
end Fx
/-! tuples that a def makes, with their objects: no attributes -/
namespace Fx
open PySem PySem.Spec PyProof.Rows L2
section
variable {X : Cx} {es : List Expr} {pos : Pos} {t : TA}
/-- what a new tuple's place holds -/
def NewT (H : Hp) (xs : List V) (Q : VK) : Prop := ∀ (p : Addr) (o : Obj), H p = none → o.dict = none → Q (.ref p) (upd H p (.frz o (.tup xs)))
theorem newT_laid {pins : List (Addr × Obj)} {σ : L2.St} {H : Hp} {s : Shared} {xs : List V} {us : List Value} {Q : VK} (I : Inv X pins σ H s) (z : xs.length ≤ sizeLine) (r : Vals xs us) (q : NewT H xs Q) :
    EP X pins σ Q (.ref s.heap.objs.size) { s with heap := s.heap.push { cls := .type "tuple", data := .seq us.toArray } } := by
  have free : H s.heap.objs.size = none := I.hok.fresh (Nat.le_refl _)
  have isT : IsTup (s.heap.push { cls := .type "tuple", data := .seq us.toArray }) s.heap.objs.size us.toArray := IsTup.new _ _
  have got : (s.heap.push { cls := .type "tuple", data := .seq us.toArray }).get? s.heap.objs.size = some { cls := .type "tuple", data := .seq us.toArray } := Heap.get?_push_size _ rfl
  refine ⟨.ref s.heap.objs.size, _, I.laid (t' := s.toks) (o := .frz { cls := .type "tuple", data := .seq us.toArray } (.tup xs)) (fun _ _ e => Heap.get?_push_of_some _ e) (Nat.le_refl _) ⟨got, z, us, r, isT⟩, rfl, q _ _ free rfl⟩
def tTupN (t : TA) : TE := fun σ H Q => t σ H fun xs H1 => xs.length ≤ sizeLine ∧ NewT H1 xs Q
theorem pe_tupN {kk} (h : PA X es t) : PE X (.Tuple es kk pos) (tTupN t) :=
  ⟨fun pins s σ H Q I hq => wpAny_Tuple_spliced (thn (h.run pos pins s σ H _ I hq) fun us s1 ⟨xs, H1, I1, r, z, q⟩ => ⟨r.length ▸ z, newT_laid I1 z r q⟩)⟩
/-- tuple(x) -/
def rTupN (K : PySem.W.Frag) : List V → Hp → VK → Prop := fun xs H Q => ∃ p ys, xs = [.ref p] ∧ ((SqL K H p ys ∧ NewT H ys Q) ∨ (SqT K H p ys ∧ Q (.ref p) H))
theorem call_tupN : CallR X (.type "tuple") (rTupN X.K) := by
  rintro pins s σ H xs us Q I r ⟨p, ys, rfl, hh⟩
  obtain ⟨u, rfl, rx⟩ := vals1 r
  cases rx
  cases hh with
  | inl hh =>
    obtain ⟨its, r', pl, hz⟩ := I.list hh.1
    refine call_tuple_list pl.isList (fun h' kp => newT_laid (I.kept (t' := s.toks) kp) hz r' hh.2) ?_
    have := r'.length
    simp only [List.size_toArray]
    omega
  | inr hh =>
    obtain ⟨its, r', pl, _⟩ := I.tuple hh.1
    exact call_tuple_same pl ⟨.ref p, H, I, rfl, hh.2⟩
/-- t + u -/
def rCatN (K : PySem.W.Frag) : R2 := fun x y H Q => ∃ a b xs ys, x = .ref a ∧ y = .ref b ∧ SqT K H a xs ∧ SqT K H b ys ∧ xs.length + ys.length ≤ sizeLine ∧
  (xs = [] → Q (.ref b) H) ∧ (xs ≠ [] → ys = [] → Q (.ref a) H) ∧ (xs ≠ [] → ys ≠ [] → NewT H (xs ++ ys) Q)
theorem op_catN : OpR X (binaryOp .Add) (rCatN X.K) := by
  rintro pins s σ H x y v u Q I rx ry ⟨a, b, xs, ys, rfl, rfl, ha, hb, hz, q0, q1, q2⟩
  cases rx
  cases ry
  obtain ⟨us, r1, p1, _⟩ := I.tuple ha
  obtain ⟨ws, r2, p2, _⟩ := I.tuple hb
  by_cases hx : xs = []
  · subst hx
    cases r1
    exact cat_tup0 p1 p2 ⟨.ref b, H, I, rfl, q0 rfl⟩
  · refine HT.cat_tup p1 p2 (fun z => hx (r1.nil_iff.mp z)) (fun z => ⟨.ref a, H, I, rfl, q1 hx (r2.nil_iff.mp z)⟩) (fun z => ?_) (by rw [← r1.length, ← r2.length]; exact hz)
    exact newT_laid I (by rw [List.length_append]; exact hz) (r1.append r2) (q2 hx fun w => z (r2.nil_iff.mpr w))
/-- t[lo:hi] -/
def rSlN (K : PySem.W.Frag) : V → Option Int → Option Int → Hp → VK → Prop := fun x lo hi H Q => ∃ a xs, x = .ref a ∧ SqT K H a xs ∧
  (HT.sIx xs.length 0 lo = 0 ∧ HT.sIx xs.length xs.length hi = xs.length → Q (.ref a) H) ∧ (¬ (HT.sIx xs.length 0 lo = 0 ∧ HT.sIx xs.length xs.length hi = xs.length) → NewT H (cutV xs lo hi) Q)
theorem sl_tupN : SlR X (rSlN X.K) := by
  rintro pins s σ H x v vl vu lo hi sl Q I rx hs pl pu ⟨a, xs, rfl, hx, q1, q2⟩
  cases rx
  obtain ⟨us, r, ht, hz⟩ := I.tuple hx
  have n : us.toArray.size = xs.length := by rw [List.size_toArray, r.length]
  refine ⟨"tuple", _, PyProof.Rows.slot_tuple_getitem.lookup, ht.typeIs, ?_⟩
  by_cases hw : HT.sIx xs.length 0 lo = 0 ∧ HT.sIx xs.length xs.length hi = xs.length
  · exact getItem_tuple_whole ht hs pl pu (n.symm ▸ hw) ⟨.ref a, H, I, rfl, q1 hw⟩
  · refine HT.getItem_tuple_cut ht hs pl pu (n.symm ▸ hw) ?_ (n.symm ▸ hz)
    rw [n]
    exact newT_laid I (Nat.le_trans (cutV_length xs lo hi) hz) ((r.drop (HT.sIx xs.length 0 lo)).take (HT.sIx xs.length xs.length hi - HT.sIx xs.length 0 lo)) (q2 hw)
end
end Fx
/-! operations on data -/
namespace Fx
open PySem PySem.Spec PyProof.Rows L2
/-! ### data as the library has them -/
mutual
/-- plain, at most n deep -/
def pl : Nat → D → Bool
  | _, .non => true
  | _, .bl _ => true
  | _, .int _ => true
  | _, .str _ => true
  | n + 1, .tup ds => plA n ds
  | n + 1, .lst ds => plA n ds
  | _, _ => false
def plA : Nat → List D → Bool
  | _, [] => true
  | n, d :: ds => pl n d && plA n ds
end
mutual
def toP : D → PyData
  | .non => .none
  | .bl b => .bool b
  | .int i => .int i
  | .str s => .str s
  | .tup ds => .tuple (toPs ds)
  | .lst ds => .list (toPs ds)
  | _ => .none
def toPs : List D → List PyData
  | [] => []
  | d :: ds => toP d :: toPs ds
end
theorem toPs_map : ∀ ds : List D, toPs ds = ds.map toP
  | [] => by simp [toPs]
  | d :: ds => by simp [toPs, toPs_map ds]
mutual
theorem pl_plain : ∀ {n : Nat} {d : D}, pl n d = true → (toP d).plain = true ∧ (toP d).depth ≤ n
  | n, .non, h => by simp [toP, PyData.plain, PyData.depth]
  | n, .bl b, h => by simp [toP, PyData.plain, PyData.depth]
  | n, .int i, h => by simp [toP, PyData.plain, PyData.depth]
  | n, .str s, h => by simp [toP, PyData.plain, PyData.depth]
  | n + 1, .tup ds, h => by
    have h := plA_plain (n := n) (ds := ds) (by simpa [pl] using h)
    simp only [toP, PyData.plain, PyData.depth]
    exact ⟨h.1, by omega⟩
  | n + 1, .lst ds, h => by
    have h := plA_plain (n := n) (ds := ds) (by simpa [pl] using h)
    simp only [toP, PyData.plain, PyData.depth]
    exact ⟨h.1, by omega⟩
  | 0, .tup ds, h => by simp [pl] at h
  | 0, .lst ds, h => by simp [pl] at h
  | n, .ty _, h => by simp [pl] at h
  | n, .ins _ _, h => by simp [pl] at h
  | n, .dct _ _, h => by simp [pl] at h
  | n, .dcq _ _, h => by simp [pl] at h
  | n, .xo _ _, h => by simp [pl] at h
  | n, .exc, h => by simp [pl] at h
  | n, .rng _ _, h => by simp [pl] at h
  | n, .fu, h => by simp [pl] at h
  | n, .scr _, h => by simp [pl] at h
theorem plA_plain : ∀ {n : Nat} {ds : List D}, plA n ds = true → PyData.plainAll (toPs ds) = true ∧ PyData.depthAll (toPs ds) ≤ n
  | _, [], _ => by simp [toPs, PyData.plainAll, PyData.depthAll]
  | n, d :: ds, h => by
    simp only [plA, Bool.and_eq_true] at h
    have h1 := pl_plain h.1
    have h2 := plA_plain h.2
    simp only [toPs, PyData.plainAll, PyData.depthAll, Bool.and_eq_true]
    exact ⟨⟨h1.1, h2.1⟩, by omega⟩
end
theorem plA_all {n : Nat} : ∀ {ds : List D}, plA n ds = ds.all (pl n)
  | [] => by simp [plA]
  | d :: ds => by simp [plA, plA_all (ds := ds)]
mutual
theorem Rp.dp {c : Cfg} {G H : Hp} (s : ∀ a o, G a = some o → H a = some o) : ∀ {n : Nat} {v : V} {d : D}, pl n d = true → Rp c G v d → Dp c.K H v (toP d)
  | _, _, _, _, .non => by simp only [toP]; exact .non
  | _, _, _, _, .bl b => by simp only [toP]; exact .bl b
  | _, _, _, _, .int i => by simp only [toP]; exact .int i
  | _, _, _, _, .str x => by simp only [toP]; exact .str x
  | n + 1, _, _, h, .tup t k _ => by
    simp only [toP]
    refine .tup ?_ (RpAll.dp s (n := n) (by simpa [pl] using h) k)
    rcases t with (t | ⟨o, t⟩) | t
    · exact .inl (.inl (s _ _ t))
    · exact .inl (.inr ⟨o, s _ _ t⟩)
    · exact .inr t
  | n + 1, _, _, h, .lst t k => by
    simp only [toP]
    exact .lst (SqL.of (s _ _ t)) (RpAll.dp s (n := n) (by simpa [pl] using h) k)
  | 0, _, _, h, .tup _ _ _ => by simp [pl] at h
  | 0, _, _, h, .lst _ _ => by simp [pl] at h
  | _, _, _, h, .ty _ => by simp [pl] at h
  | _, _, _, h, .ins _ _ _ => by simp [pl] at h
  | _, _, _, h, .dct _ _ => by simp [pl] at h
  | _, _, _, h, .dcx _ _ _ _ => by simp [pl] at h
  | _, _, _, h, .xo _ => by simp [pl] at h
  | _, _, _, h, .exc _ _ => by simp [pl] at h
  | _, _, _, h, .rng _ => by simp [pl] at h
  | _, _, _, h, .fu _ => by simp [pl] at h
  | _, _, _, h, .scr _ => by simp [pl] at h
  | _, _, _, h, .fn _ _ => by simp [pl] at h
termination_by structural _ _ _ _ h => h
theorem RpAll.dp {c : Cfg} {G H : Hp} (s : ∀ a o, G a = some o → H a = some o) : ∀ {n : Nat} {vs : List V} {ds : List D}, plA n ds = true → RpAll c G vs ds → DpAll c.K H vs (toPs ds)
  | _, _, _, _, .nil => by simp only [toPs]; exact .nil
  | n, _, _, h, .cons t k => by
    simp only [plA, Bool.and_eq_true] at h
    simp only [toPs]
    exact .cons (Rp.dp s h.1 t) (RpAll.dp s h.2 k)
termination_by structural _ _ _ _ h => h
end
def eqD (x y : D) : Bool := PyData.eqv (toP x) (toP y)
def ok1 (x : D) : Option S := some (.d x)
/-! ### rules that take more than one kind -/
section
variable {X : Cx} {f : Value → Value → Sem Value} {r r' : R2}
theorem OpR.or (h : OpR X f r) (h' : OpR X f r') : OpR X f (fun x y H Q => r x y H Q ∨ r' x y H Q) := by
  intro pins s σ H x y v u Q I rx ry q
  rcases q with q | q
  · exact h pins s σ H x y v u Q I rx ry q
  · exact h' pins s σ H x y v u Q I rx ry q
/-- one of two, by what g does -/
def gOr (g g' : D → D → Option S) : D → D → Option S := fun x y => match g x y with
  | some s => some s
  | none => g' x y
theorem OpDen.or {c : Cfg} {g g' : D → D → Option S} (h : OpDen c r g) (h' : OpDen c r' g') : OpDen c (fun x y H Q => r x y H Q ∨ r' x y H Q) (gOr g g') := fun B ts vs ρ σ H Q x y v u s r1 e q => by
  unfold gOr at e
  split at e
  · rename_i s1 e1
    cases e
    exact .inl (h B ts vs ρ σ H Q x y v u s r1 e1 q)
  · exact .inr (h' B ts vs ρ σ H Q x y v u s r1 e q)
end
section
variable {c : Cfg} {B : Base} {ts : En} {vs : List (Option V)} {ρ : En} {σ : L2.St} {H : Hp}
/-- what waits, opened -/
structure Opn (c : Cfg) (B : Base) (ts : En) (vs : List (Option V)) (ρ : En) (σ : L2.St) (H G : Hp) : Prop where
  sub : ∀ a o, G a = some o → H a = some o
  val : ∀ {v : V} {x : D}, Rp c G v x → Rep c B (some (.d x) :: ts) (some v :: vs) ρ σ H
  new : ∀ {p : Addr} {o : HO} {x : D}, H p = none → isTbl o = false → (∀ G', (∀ a u, G a = some u → G' a = some u) → G' p = some o → Rp c G' (.ref p) x) → Rep c B (some (.d x) :: ts) (some (.ref p) :: vs) ρ σ (upd H p o)
  newO : ∀ {p : Addr} {o : HO} {x : D}, H p = none → (∀ H', H' p = some o → Cell c G H' p x) → Rep c B (some (.o none x) :: ts) (some (.ref p) :: vs) ρ σ (upd H p o)
theorem Rep.opn {ds : List D} {us : List V} (hl : us.length = ds.length) (r : Rep c B (tmp ds ++ ts) (tmv us ++ vs) ρ σ H) : ∃ G, Opn c B ts vs ρ σ H G ∧ RpAll c G us ds := by
  obtain ⟨G, o1, o2, k, h1, h2⟩ := r
  obtain ⟨a1, a2⟩ := h1.tmp hl
  refine ⟨G, ⟨k.sub, fun hv => ⟨G, o1, o2, k, .d hv a2, h2⟩, fun {p o x} hp ho hx => ?_, fun {p o x} hp hx => ?_⟩, a1⟩
  · have gp := k.gnone hp
    have ow := own_new (o := o) k hp
    exact ⟨upd G p o, o1, o2, k.alloc hp ho, .d (hx _ (upd_sub gp) upd_same) (a2.mono (upd_sub gp) fun q hq => ow q (List.mem_append_left _ hq)), h2.mono (upd_sub gp) fun q hq => ow q (List.mem_append_right _ hq)⟩
  · have ow := own_new (o := o) k hp
    exact ⟨G, p :: o1, o2, k.allocO hp, .o (hx _ upd_same) (fun _ e => nomatch e) (a2.mono (fun _ _ e => e) fun q hq => ow q (List.mem_append_left _ hq)), h2.mono (fun _ _ e => e) fun q hq => ow q (List.mem_append_right _ hq)⟩
theorem Rep.two {x y : D} {v u : V} (r : Rep c B (some (.d y) :: some (.d x) :: ts) (some u :: some v :: vs) ρ σ H) : ∃ G, Opn c B ts vs ρ σ H G ∧ Rp c G v x ∧ Rp c G u y := by
  obtain ⟨G, s, h⟩ := Rep.opn (ds := [x, y]) (us := [v, u]) rfl r
  cases h with
  | cons h1 h2 =>
    cases h2 with
    | cons h2 h3 => exact ⟨G, s, h1, h2⟩
theorem Rep.one {x : D} {v : V} (r : Rep c B (some (.d x) :: ts) (some v :: vs) ρ σ H) : ∃ G, Opn c B ts vs ρ σ H G ∧ Rp c G v x := by
  obtain ⟨G, s, h⟩ := Rep.opn (ds := [x]) (us := [v]) rfl r
  cases h with
  | cons h1 h2 => exact ⟨G, s, h1⟩
theorem SqT.up {K : PySem.W.Frag} {G H : Hp} {a : Addr} {xs : List V} (s : ∀ a o, G a = some o → H a = some o) (h : SqT K G a xs) : SqT K H a xs := by
  rcases h with (h | ⟨o, h⟩) | h
  · exact .inl (.inl (s _ _ h))
  · exact .inl (.inr ⟨o, s _ _ h⟩)
  · exact .inr h
end
theorem Rp.tupE {c : Cfg} {G : Hp} {v : V} {ds : List D} (h : Rp c G v (.tup ds)) : ∃ a xs, v = .ref a ∧ SqT c.K G a xs ∧ RpAll c G xs ds := by cases h with | tup h k n => exact ⟨_, _, rfl, h, k⟩
theorem Rp.tupN {c : Cfg} {G : Hp} {v : V} {ds : List D} (h : Rp c G v (.tup ds)) : ∃ a xs, v = .ref a ∧ SqT c.K G a xs ∧ RpAll c G xs ds ∧ (arcy ds = true → SqN G a xs) := by cases h with | tup h k n => exact ⟨_, _, rfl, h, k, n⟩
theorem Rp.lstE {c : Cfg} {G : Hp} {v : V} {ds : List D} (h : Rp c G v (.lst ds)) : ∃ a xs, v = .ref a ∧ G a = some (.lst xs) ∧ RpAll c G xs ds := by cases h with | lst h k => exact ⟨_, _, rfl, h, k⟩
theorem Rp.scrE {c : Cfg} {G : Hp} {v : V} {ns : List Int} (h : Rp c G v (.scr ns)) : ∃ a, v = .ref a ∧ SqL c.K G a (ns.map V.int) := by cases h with | scr h => exact ⟨_, rfl, h⟩
/-! ### + - * % // ** -/
def gII (f : Int → Int → Int) : D → D → Option S
  | .int i, .int j => ok1 (.int (f i j))
  | _, _ => none
def gIIc (C : Int → Int → Bool) (f : Int → Int → Int) : D → D → Option S
  | .int i, .int j => if C i j then ok1 (.int (f i j)) else none
  | _, _ => none
theorem od_II {c : Cfg} {f : Int → Int → Int} : OpDen c (rI0 fun i j => .int (f i j)) (gII f) := by
  intro B ts vs ρ σ H Q x y v u s r e q
  obtain ⟨G, O, h1, h2⟩ := r.two
  cases x <;> cases y <;> first | cases e | skip
  cases h1
  cases h2
  exact ⟨_, _, rfl, rfl, q _ _ (O.val (.int _))⟩
theorem od_IIc {c : Cfg} {C : Int → Int → Prop} {Cb : Int → Int → Bool} {f : Int → Int → Int} (hC : ∀ i j, Cb i j = true → C i j) : OpDen c (rI C fun i j => .int (f i j)) (gIIc Cb f) := by
  intro B ts vs ρ σ H Q x y v u s r e q
  obtain ⟨G, O, h1, h2⟩ := r.two
  cases x <;> cases y <;> first | cases e | skip
  rename_i i j
  have e : (if Cb i j then ok1 (.int (f i j)) else none) = some s := e
  split at e
  · rename_i hc
    cases e
    cases h1
    cases h2
    exact ⟨_, _, rfl, rfl, hC _ _ hc, q _ _ (O.val (.int _))⟩
  · cases e
def small (n : Nat) : Bool := decide (n ≤ 16777216)
theorem small_line {n : Nat} (h : small n = true) : n ≤ sizeLine := by
  rw [sizeLine_eq]
  exact of_decide_eq_true h
def gCatT : D → D → Option S
  | .tup xs, .tup ys => if small (xs.length + ys.length) then ok1 (.tup (xs ++ ys)) else none
  | _, _ => none
theorem od_catT {c : Cfg} : OpDen c (rCatN c.K) gCatT := by
  intro B ts vs ρ σ H Q x y v u s r e q
  obtain ⟨G, O, h1, h2⟩ := r.two
  cases x <;> cases y <;> first | cases e | skip
  rename_i xs ys
  have e : (if small (xs.length + ys.length) then ok1 (.tup (xs ++ ys)) else none) = some s := e
  split at e
  · rename_i hz
    cases e
    obtain ⟨a, us, rfl, ha, ka, na⟩ := h1.tupN
    obtain ⟨b, ws, rfl, hb, kb, nb⟩ := h2.tupN
    refine ⟨a, b, us, ws, rfl, rfl, SqT.up O.sub ha, SqT.up O.sub hb, by rw [ka.length, kb.length]; exact small_line hz, ?_⟩
    refine ⟨fun hx => ?_, fun hx hy => ?_, fun hx hy p o hp ho => ?_⟩
    · subst hx
      cases ka
      exact q _ _ (O.val (.tup hb kb nb))
    · subst hy
      cases kb
      rw [List.append_nil] at q
      exact q _ _ (O.val (.tup ha ka na))
    · exact q _ _ (O.new hp rfl fun G' m e => .tup (.inl (.inr ⟨o, e⟩)) ((ka.app kb).mono m) fun _ => ⟨o, e, ho⟩)
  · cases e
def gCatL : D → D → Option S
  | .lst xs, .lst ys => if small (xs.length + ys.length) then some (.o none (.lst (xs ++ ys))) else none
  | _, _ => none
theorem od_catL {c : Cfg} : OpDen c rCat gCatL := by
  intro B ts vs ρ σ H Q x y v u s r e q
  obtain ⟨G, O, h1, h2⟩ := r.two
  cases x <;> cases y <;> first | cases e | skip
  rename_i xs ys
  have e : (if small (xs.length + ys.length) then some (S.o none (.lst (xs ++ ys))) else none) = some s := e
  split at e
  · rename_i hz
    cases e
    obtain ⟨a, us, rfl, ha, ka⟩ := h1.lstE
    obtain ⟨b, ws, rfl, hb, kb⟩ := h2.lstE
    exact ⟨a, b, us, ws, rfl, rfl, O.sub _ _ ha, O.sub _ _ hb, by rw [ka.length, kb.length]; exact small_line hz, fun p hp => q _ _ (O.newO hp fun H' e => ⟨_, e, ka.app kb⟩)⟩
  · cases e
def gCatS : D → D → Option S
  | .str x, .str y => if small (x.length + y.length) then ok1 (.str (x ++ y)) else none
  | _, _ => none
theorem od_catS {c : Cfg} : OpDen c (fun x y H Q => ∃ i j, x = .str i ∧ y = .str j ∧ i.length + j.length ≤ sizeLine ∧ Q (.str (i ++ j)) H) gCatS := by
  intro B ts vs ρ σ H Q x y v u s r e q
  obtain ⟨G, O, h1, h2⟩ := r.two
  cases x <;> cases y <;> first | cases e | skip
  rename_i xs ys
  have e : (if small (xs.length + ys.length) then ok1 (.str (xs ++ ys)) else none) = some s := e
  split at e
  · rename_i hz
    cases e
    cases h1
    cases h2
    exact ⟨_, _, rfl, rfl, small_line hz, q _ _ (O.val (.str _))⟩
  · cases e
def rAddG (K : PySem.W.Frag) : R2 := fun x y H Q => rI0 (fun i j => .int (i + j)) x y H Q ∨ rCatN K x y H Q ∨ rCat x y H Q ∨ (∃ i j, x = .str i ∧ y = .str j ∧ i.length + j.length ≤ sizeLine ∧ Q (.str (i ++ j)) H)
theorem op_addG {X : Cx} : OpR X (binaryOp .Add) (rAddG X.K) := OpR.or op_add (OpR.or op_catN (OpR.or op_cat op_add_str))
def gAdd : D → D → Option S
  | .int i, .int j => ok1 (.int (i + j))
  | .tup xs, .tup ys => if small (xs.length + ys.length) then ok1 (.tup (xs ++ ys)) else none
  | .lst xs, .lst ys => if small (xs.length + ys.length) then some (.o none (.lst (xs ++ ys))) else none
  | .str x, .str y => if small (x.length + y.length) then ok1 (.str (x ++ y)) else none
  | _, _ => none
theorem od_add {c : Cfg} : OpDen c (rAddG c.K) gAdd := by
  intro B ts vs ρ σ H Q x y v u s r e q
  cases x <;> cases y <;> first | cases e | skip
  · exact .inl (od_II (f := (· + ·)) B ts vs ρ σ H Q _ _ v u _ r rfl q)
  · exact .inr (.inr (.inr (od_catS B ts vs ρ σ H Q _ _ v u s r e q)))
  · exact .inr (.inl (od_catT B ts vs ρ σ H Q _ _ v u s r e q))
  · exact .inr (.inr (.inl (od_catL B ts vs ρ σ H Q _ _ v u s r e q)))
end Fx
/-! more operations on data -/
namespace Fx
open PySem PySem.Spec PyProof.Rows L2
/-! ### - * % // ** -/
def gMinus : D → D → Option S := gII (· - ·)
theorem od_sub {c : Cfg} : OpDen c (rI0 fun i j => .int (i - j)) gMinus := od_II
def i64 (i : Int) : Bool := decide (-18446744073709551616 < i) && decide (i < 18446744073709551616)
theorem i64_iff {i : Int} : i64 i = true ↔ -(2 ^ 64) < i ∧ i < 2 ^ 64 := by
  unfold i64
  simp only [Bool.and_eq_true, decide_eq_true_eq]
  constructor <;> (intro h; constructor <;> omega)
def gMulI : D → D → Option S := gIIc (fun i j => i64 i || i64 j) (· * ·)
theorem od_mulI {c : Cfg} : OpDen c (rI CMul fun i j => .int (i * j)) gMulI := od_IIc fun i j h => by
  rw [Bool.or_eq_true, i64_iff, i64_iff] at h
  exact h
def gMod : D → D → Option S := gIIc (fun _ j => decide (0 < j)) (· % ·)
theorem od_mod {c : Cfg} : OpDen c (rI (fun _ j => 0 < j) fun i j => .int (i % j)) gMod := od_IIc fun i j h => of_decide_eq_true h
def gDiv : D → D → Option S := gIIc (fun _ j => decide (0 < j) && decide (j < 1073741824)) (· / ·)
theorem od_div {c : Cfg} : OpDen c (rI CDiv fun i j => .int (i / j)) gDiv := od_IIc fun i j h => by
  simp only [Bool.and_eq_true, decide_eq_true_eq] at h
  exact h
def gPow : D → D → Option S := gIIc (fun i j => decide (0 ≤ j) && decide (j ≤ 64) && decide (i.natAbs < 18446744073709551616)) (fun i j => i ^ j.toNat)
theorem od_pow {c : Cfg} : OpDen c (rI CPow fun i j => .int (i ^ j.toNat)) gPow := od_IIc fun i j h => by
  simp only [Bool.and_eq_true, decide_eq_true_eq] at h
  exact ⟨h.1.1, by omega, by have := h.2; omega⟩
def gNeg : D → Option S
  | .int i => ok1 (.int (-i))
  | _ => none
theorem ud_neg {c : Cfg} : UnDen c (rU fun i => .int (-i)) gNeg := by
  intro B ts vs ρ σ H Q x v s r e q
  obtain ⟨G, O, h1⟩ := r.one
  cases x <;> first | cases e | skip
  cases h1
  exact ⟨_, rfl, q _ _ (O.val (.int _))⟩
/-- list * int -/
def gRepL : D → D → Option S
  | .lst xs, .int k => if small (xs.length * k.toNat) && decide (k < 1073741824) && decide (-1073741824 < k) then some (.o none (.lst (List.replicate k.toNat xs).flatten)) else none
  | _, _ => none
theorem RpAll.rep {c : Cfg} {G : Hp} {us : List V} {xs : List D} (h : RpAll c G us xs) : ∀ n : Nat, RpAll c G (List.replicate n us).flatten (List.replicate n xs).flatten
  | 0 => .nil
  | n + 1 => by
    rw [List.replicate_succ, List.replicate_succ, List.flatten_cons, List.flatten_cons]
    exact h.app (RpAll.rep h n)
theorem od_repL {c : Cfg} : OpDen c rRep gRepL := by
  intro B ts vs ρ σ H Q x y v u s r e q
  obtain ⟨G, O, h1, h2⟩ := r.two
  cases x <;> cases y <;> first | cases e | skip
  rename_i xs k
  have e : (if small (xs.length * k.toNat) && decide (k < 1073741824) && decide (-1073741824 < k) then some (S.o none (.lst (List.replicate k.toNat xs).flatten)) else none) = some s := e
  split at e
  · rename_i hz
    simp only [Bool.and_eq_true, decide_eq_true_eq] at hz
    cases e
    cases h2
    obtain ⟨a, us, rfl, ha, ka⟩ := h1.lstE
    exact ⟨a, k, us, rfl, rfl, O.sub _ _ ha, by omega, by omega, by rw [ka.length]; exact small_line hz.1.1, fun p hp => q _ _ (O.newO hp fun H' e => ⟨_, e, ka.rep _⟩)⟩
  · cases e
def rMulG : R2 := fun x y H Q => rI CMul (fun i j => .int (i * j)) x y H Q ∨ rRep x y H Q
theorem op_mulG {X : Cx} : OpR X (binaryOp .Mult) rMulG := OpR.or op_mul op_rep
def gMul : D → D → Option S
  | .int i, .int j => if i64 i || i64 j then ok1 (.int (i * j)) else none
  | .lst xs, .int k => if small (xs.length * k.toNat) && decide (k < 1073741824) && decide (-1073741824 < k) then some (.o none (.lst (List.replicate k.toNat xs).flatten)) else none
  | _, _ => none
theorem od_mul {c : Cfg} : OpDen c rMulG gMul := by
  intro B ts vs ρ σ H Q x y v u s r e q
  cases x <;> cases y <;> first | cases e | skip
  · exact .inl (od_mulI B ts vs ρ σ H Q _ _ v u _ r e q)
  · exact .inr (od_repL B ts vs ρ σ H Q _ _ v u s r e q)
/-! ### comparisons -/
def pl60 (d : D) : Bool := pl 60 d
theorem pl60_shaped {d : D} (h : pl60 d = true) : (toP d).plain = true ∧ (toP d).depth ≤ 60 := pl_plain h
def rEqP (K : PySem.W.Frag) (neg : Bool) : R2 := fun x y H Q => ∃ d e, Dp K H x d ∧ Dp K H y e ∧ d.plain = true ∧ e.plain = true ∧ d.depth ≤ 64 ∧ Q (.bl (if neg then !PyData.eqv d e else PyData.eqv d e)) H
section
variable {X : Cx}
theorem op_eqP (hu : X.A.units + 66 < cLine) : OpR X (compareOp .Eq) (rEqP X.K false) := by
  intro pins s σ H x y v u Q I rx ry h
  obtain ⟨d, e, hd, he, sd, se, dp, q⟩ := h
  obtain ⟨as, r1⟩ := Dp.reads I d x v hd rx
  obtain ⟨bs, r2⟩ := Dp.reads I e y u he ry
  exact SeqAt.eq_plain r1 r2 sd se (by omega) ⟨.bl _, H, I, rfl, q⟩
theorem op_neP (hu : X.A.units + 66 < cLine) : OpR X (compareOp .NotEq) (rEqP X.K true) := by
  intro pins s σ H x y v u Q I rx ry h
  obtain ⟨d, e, hd, he, sd, se, dp, q⟩ := h
  obtain ⟨as, r1⟩ := Dp.reads I d x v hd rx
  obtain ⟨bs, r2⟩ := Dp.reads I e y u he ry
  exact SeqAt.ne_plain r1 r2 sd se (by omega) ⟨.bl _, H, I, rfl, q⟩
def rInP (K : PySem.W.Frag) (neg : Bool) : R2 := fun x y H Q => ∃ d ds, Dp K H x d ∧ (Dp K H y (.list ds) ∨ Dp K H y (.tuple ds)) ∧ d.plain = true ∧ PyData.plainAll ds = true ∧ d.depth ≤ 64 ∧ Q (.bl (if neg then !(ds.any fun z => PyData.eqv z d) else ds.any fun z => PyData.eqv z d)) H
theorem op_inP (hu : X.A.units + 66 < cLine) : OpR X (compareOp .In) (rInP X.K false) := by
  intro pins s σ H x y v u Q I rx ry h
  obtain ⟨d, ds, hd, he, sd, se, dp, q⟩ := h
  obtain ⟨as, r1⟩ := Dp.reads I d x v hd rx
  rcases he with he | he
  · obtain ⟨bs, r2⟩ := Dp.reads I _ y u he ry
    exact SeqAt.in_list_data r2 r1 se sd (by omega) ⟨.bl _, H, I, rfl, q⟩
  · obtain ⟨bs, r2⟩ := Dp.reads I _ y u he ry
    exact SeqAt.in_tuple_data r2 r1 se sd (by omega) ⟨.bl _, H, I, rfl, q⟩
theorem op_ninP (hu : X.A.units + 66 < cLine) : OpR X (compareOp .NotIn) (rInP X.K true) := by
  intro pins s σ H x y v u Q I rx ry h
  obtain ⟨d, ds, hd, he, sd, se, dp, q⟩ := h
  obtain ⟨as, r1⟩ := Dp.reads I d x v hd rx
  rcases he with he | he
  · obtain ⟨bs, r2⟩ := Dp.reads I _ y u he ry
    exact SeqAt.notIn_list_data r2 r1 se sd (by omega) ⟨.bl _, H, I, rfl, q⟩
  · obtain ⟨bs, r2⟩ := Dp.reads I _ y u he ry
    exact SeqAt.notIn_tuple_data r2 r1 se sd (by omega) ⟨.bl _, H, I, rfl, q⟩
end
def gEq (x y : D) : Option S := if pl60 x && pl60 y then ok1 (.bl (eqD x y)) else none
def gNe (x y : D) : Option S := if pl60 x && pl60 y then ok1 (.bl (!eqD x y)) else none
theorem od_eqN {c : Cfg} (neg : Bool) {g : D → D → Option S} (hg : ∀ x y s, g x y = some s → pl60 x = true ∧ pl60 y = true ∧ s = .d (.bl (if neg then !eqD x y else eqD x y))) : OpDen c (rEqP c.K neg) g := by
  intro B ts vs ρ σ H Q x y v u s r e q
  obtain ⟨G, O, h1, h2⟩ := r.two
  obtain ⟨p1, p2, rfl⟩ := hg x y s e
  exact ⟨toP x, toP y, h1.dp O.sub p1, h2.dp O.sub p2, (pl60_shaped p1).1, (pl60_shaped p2).1, Nat.le_trans (pl60_shaped p1).2 (by decide), q _ _ (O.val (.bl _))⟩
theorem od_eq {c : Cfg} : OpDen c (rEqP c.K false) gEq := od_eqN false fun x y s e => by
  unfold gEq at e
  split at e
  · rename_i h
    rw [Bool.and_eq_true] at h
    cases e
    exact ⟨h.1, h.2, rfl⟩
  · cases e
theorem od_ne {c : Cfg} : OpDen c (rEqP c.K true) gNe := od_eqN true fun x y s e => by
  unfold gNe at e
  split at e
  · rename_i h
    rw [Bool.and_eq_true] at h
    cases e
    exact ⟨h.1, h.2, rfl⟩
  · cases e
/-- the items of a list, a tuple -/
def itemsD : D → Option (List D)
  | .tup ds => some ds
  | .lst ds => some ds
  | _ => none
def inD (x : D) (ds : List D) : Bool := ds.any fun z => eqD z x
def gInN (neg : Bool) (x y : D) : Option S := match itemsD y with
  | some ds => if pl60 x && plA 60 ds then ok1 (.bl (if neg then !inD x ds else inD x ds)) else none
  | none => none
def gIn : D → D → Option S := gInN false
def gNotIn : D → D → Option S := gInN true
theorem od_in {c : Cfg} {neg : Bool} : OpDen c (rInP c.K neg) (gInN neg) := by
  intro B ts vs ρ σ H Q x y v u s r e q
  obtain ⟨G, O, h1, h2⟩ := r.two
  unfold gInN at e
  split at e
  · rename_i ds hi
    split at e
    · rename_i hp
      rw [Bool.and_eq_true] at hp
      cases e
      have e3 : (toPs ds).any (fun z => PyData.eqv z (toP x)) = inD x ds := by
        rw [toPs_map, List.any_map]
        rfl
      refine ⟨toP x, toPs ds, h1.dp O.sub hp.1, ?_, (pl60_shaped hp.1).1, (plA_plain hp.2).1, Nat.le_trans (pl60_shaped hp.1).2 (by decide), ?_⟩
      · cases y <;> first | cases hi | skip
        · have := h2.dp (n := 61) O.sub (by simpa [pl] using hp.2)
          simp only [toP] at this
          exact .inr this
        · have := h2.dp (n := 61) O.sub (by simpa [pl] using hp.2)
          simp only [toP] at this
          exact .inl this
      · rw [e3]
        exact q _ _ (O.val (.bl _))
    · cases e
  · cases e
def gBB (f : Int → Int → Bool) : D → D → Option S
  | .int i, .int j => ok1 (.bl (f i j))
  | _, _ => none
theorem od_BB {c : Cfg} {f : Int → Int → Bool} : OpDen c (rI0 fun i j => .bl (f i j)) (gBB f) := by
  intro B ts vs ρ σ H Q x y v u s r e q
  obtain ⟨G, O, h1, h2⟩ := r.two
  cases x <;> cases y <;> first | cases e | skip
  cases h1
  cases h2
  exact ⟨_, _, rfl, rfl, q _ _ (O.val (.bl _))⟩
def gLt : D → D → Option S := gBB fun i j => decide (i < j)
def gLe : D → D → Option S := gBB fun i j => decide (i ≤ j)
def gGt : D → D → Option S := gBB fun i j => decide (j < i)
def gGe : D → D → Option S := gBB fun i j => decide (j ≤ i)
def isN : D → Bool
  | .non => true
  | _ => false
def gIsN (x y : D) : Option S := if isN y then ok1 (.bl (isN x)) else none
def gNotN (x y : D) : Option S := if isN y then ok1 (.bl (!isN x)) else none
/-! ### subscripts -/
def gIx : D → D → Option S
  | .tup xs, .int i => (atI xs i).bind ok1
  | .lst xs, .int i => (atI xs i).bind ok1
  | .scr ns, .int i => (atI ns i).bind fun n => ok1 (.int n)
  | .str z, .int i => if small z.length then (atI z.cps.toList i).bind fun k => ok1 (.str ⟨#[k]⟩) else none
  | _, _ => none
theorem RpAll.atI {c : Cfg} {G : Hp} {us : List V} {xs : List D} {i : Int} {d : D} (h : RpAll c G us xs) (e : atI xs i = some d) : ∃ v, atI us i = some v ∧ Rp c G v d := by
  unfold L2.atI at e ⊢
  rw [h.length]
  cases e1 : ixN xs.length i with
  | none => rw [e1] at e; cases e
  | some j =>
    rw [e1] at e
    exact h.get e
theorem atI_map {α β : Type} {f : α → β} {xs : List α} {i : Int} : atI (xs.map f) i = (atI xs i).map f := by
  unfold atI
  rw [List.length_map]
  cases ixN xs.length i with
  | none => rfl
  | some j => exact List.getElem?_map
theorem od_ix {c : Cfg} : OpDen c (rIx c.K) gIx := by
  intro B ts vs ρ σ H Q x y v u s r e q
  obtain ⟨G, O, h1, h2⟩ := r.two
  cases x <;> cases y <;> first | cases e | skip
  · rename_i z i
    have e : (if small z.length then (atI z.cps.toList i).bind fun k => ok1 (.str ⟨#[k]⟩) else none) = some s := e
    split at e
    · rename_i hz
      cases h1
      cases h2
      cases e1 : atI z.cps.toList i with
      | none => rw [e1] at e; cases e
      | some k =>
        rw [e1] at e
        cases e
        exact .inr (.inr ⟨z, i, k, rfl, rfl, small_line hz, e1, q _ _ (O.val (.str _))⟩)
    · cases e
  · rename_i xs i
    have e : (atI xs i).bind ok1 = some s := e
    cases e1 : atI xs i with
    | none => rw [e1] at e; cases e
    | some d =>
      rw [e1] at e
      cases e
      cases h2
      obtain ⟨a, us, rfl, ha, ka⟩ := h1.tupE
      obtain ⟨w, e2, hw⟩ := ka.atI e1
      exact .inr (.inl ⟨a, us, i, w, rfl, rfl, SqT.up O.sub ha, e2, q _ _ (O.val hw)⟩)
  · rename_i xs i
    have e : (atI xs i).bind ok1 = some s := e
    cases e1 : atI xs i with
    | none => rw [e1] at e; cases e
    | some d =>
      rw [e1] at e
      cases e
      cases h2
      obtain ⟨a, us, rfl, ha, ka⟩ := h1.lstE
      obtain ⟨w, e2, hw⟩ := ka.atI e1
      exact .inl ⟨a, us, i, w, rfl, rfl, SqL.of (O.sub _ _ ha), e2, q _ _ (O.val hw)⟩
  · rename_i ns i
    have e : (atI ns i).bind (fun n => ok1 (.int n)) = some s := e
    cases e1 : atI ns i with
    | none => rw [e1] at e; cases e
    | some n =>
      rw [e1] at e
      cases e
      cases h2
      obtain ⟨a, rfl, ha⟩ := h1.scrE
      exact .inl ⟨a, _, i, _, rfl, rfl, Same.seq O.sub ha, by rw [atI_map, e1]; rfl, q _ _ (O.val (.int _))⟩
/-! ### displays -/
def mTup (fa : M (List D)) : M S := fun ρ => (fa ρ).then fun ds ρ1 => if small ds.length then .ok (.d (.tup ds)) ρ1 else .stuck
def mLst (fa : M (List D)) : M S := fun ρ => (fa ρ).then fun ds ρ1 => if small ds.length then .ok (.o none (.lst ds)) ρ1 else .stuck
section
variable {c : Cfg} {W : WX} {tA : TA} {fA : M (List D)}
theorem den_tup (ha : DenA c W tA fA) : Den c W (tTupN tA) (mTup fA) := by
  intro B ts vs ρ σ H Q rp h
  unfold mTup at h
  rw [post_then] at h
  refine ha B ts vs ρ σ H _ rp (h.imp1 fun ds ρ1 h us H1 hl r1 => ?_)
  split at h
  · rename_i hz
    obtain ⟨G, O, k⟩ := r1.opn hl
    exact ⟨by rw [hl]; exact small_line hz, fun p o hp ho => h _ _ (O.new hp rfl fun G' m e => .tup (.inl (.inr ⟨o, e⟩)) (k.mono m) fun _ => ⟨o, e, ho⟩)⟩
  · exact h.elim
theorem den_lst (ha : DenA c W tA fA) : Den c W (tLst tA) (mLst fA) := by
  intro B ts vs ρ σ H Q rp h
  unfold mLst at h
  rw [post_then] at h
  refine ha B ts vs ρ σ H _ rp (h.imp1 fun ds ρ1 h us H1 hl r1 => ?_)
  split at h
  · rename_i hz
    obtain ⟨G, O, k⟩ := r1.opn hl
    exact ⟨by rw [hl]; exact small_line hz, fun p hp => h _ _ (O.newO hp fun H' e => ⟨_, e, k⟩)⟩
  · exact h.elim
end
/-! ### calls of built-ins -/
theorem Rep.one' {c : Cfg} {B : Base} {ts : En} {vs : List (Option V)} {ρ : En} {σ : L2.St} {H : Hp} {x : D} {us : List V} (hl : us.length = [x].length) (r : Rep c B (tmp [x] ++ ts) (tmv us ++ vs) ρ σ H) : ∃ v, us = [v] ∧ ∃ G, Opn c B ts vs ρ σ H G ∧ Rp c G v x := by
  obtain ⟨G, O, k⟩ := r.opn hl
  cases k with
  | cons h k =>
    cases k
    exact ⟨_, rfl, G, O, h⟩
theorem Rep.two' {c : Cfg} {B : Base} {ts : En} {vs : List (Option V)} {ρ : En} {σ : L2.St} {H : Hp} {x y : D} {us : List V} (hl : us.length = [x, y].length) (r : Rep c B (tmp [x, y] ++ ts) (tmv us ++ vs) ρ σ H) : ∃ v w, us = [v, w] ∧ ∃ G, Opn c B ts vs ρ σ H G ∧ Rp c G v x ∧ Rp c G w y := by
  obtain ⟨G, O, k⟩ := r.opn hl
  cases k with
  | cons h k =>
    cases k with
    | cons h' k =>
      cases k
      exact ⟨_, _, rfl, G, O, h, h'⟩
def rLenG (K : PySem.W.Frag) : List V → Hp → VK → Prop := fun xs H Q => (∃ p ys, xs = [.ref p] ∧ (SqL K H p ys ∨ SqT K H p ys) ∧ Q (.int ys.length) H) ∨ (∃ z, xs = [.str z] ∧ z.length ≤ sizeLine ∧ Q (.int z.length) H)
theorem cr_lenG {X : Cx} : CallR X (.builtin "len") (rLenG X.K) := CallR.or call_len_seq call_len_str
def lenD : D → Option Nat
  | .tup ds => some ds.length
  | .lst ds => some ds.length
  | .scr ns => some ns.length
  | .str z => if small z.length then some z.length else none
  | _ => none
def gLen : List D → Option S
  | [x] => (lenD x).bind fun n => ok1 (.int n)
  | _ => none
theorem cd_len {c : Cfg} : CbDen c (rLenG c.K) gLen := by
  intro B ts vs ρ σ H Q ds us s hl r e q
  match ds, hl, r, e with
  | [x], hl, r, e =>
    obtain ⟨v, rfl, G, O, h⟩ := r.one' hl
    have e : (lenD x).bind (fun n => ok1 (.int n)) = some s := e
    cases x with
    | str z =>
      have e : ((if small z.length then some z.length else none).bind fun n => ok1 (.int n)) = some s := e
      split at e
      · rename_i hz
        cases e
        cases h
        exact .inr ⟨z, rfl, small_line hz, q _ _ (O.val (.int _))⟩
      · cases e
    | tup ds =>
      cases e
      obtain ⟨a, xs, rfl, ha, ka⟩ := h.tupE
      exact .inl ⟨a, xs, rfl, .inr (SqT.up O.sub ha), by rw [ka.length]; exact q _ _ (O.val (.int _))⟩
    | lst ds =>
      cases e
      obtain ⟨a, xs, rfl, ha, ka⟩ := h.lstE
      exact .inl ⟨a, xs, rfl, .inl (SqL.of (O.sub _ _ ha)), by rw [ka.length]; exact q _ _ (O.val (.int _))⟩
    | scr ns =>
      cases e
      obtain ⟨a, rfl, ha⟩ := h.scrE
      exact .inl ⟨a, _, rfl, .inl (Same.seq O.sub ha), by rw [List.length_map]; exact q _ _ (O.val (.int _))⟩
    | _ => cases e
  | [], _, _, e => cases e
  | _ :: _ :: _, _, _, e => cases e
/-- tuple(x), list(x) of a list, a tuple -/
def gTuple : List D → Option S
  | [.tup ds] => ok1 (.tup ds)
  | [.lst ds] => ok1 (.tup ds)
  | _ => none
theorem cd_tuple {c : Cfg} : CbDen c (rTupN c.K) gTuple := by
  intro B ts vs ρ σ H Q ds us s hl r e q
  match ds, hl, r, e with
  | [.tup ds], hl, r, e =>
    cases e
    obtain ⟨v, rfl, G, O, h⟩ := r.one' hl
    obtain ⟨a, xs, rfl, ha, ka, na⟩ := h.tupN
    exact ⟨a, xs, rfl, .inr ⟨SqT.up O.sub ha, q _ _ (O.val (.tup ha ka na))⟩⟩
  | [.lst ds], hl, r, e =>
    cases e
    obtain ⟨v, rfl, G, O, h⟩ := r.one' hl
    obtain ⟨a, xs, rfl, ha, ka⟩ := h.lstE
    exact ⟨a, xs, rfl, .inl ⟨SqL.of (O.sub _ _ ha), fun p o hp ho => q _ _ (O.new hp rfl fun G' m e => .tup (.inl (.inr ⟨o, e⟩)) (ka.mono m) fun _ => ⟨o, e, ho⟩)⟩⟩
def gList : List D → Option S
  | [.tup ds] => some (.o none (.lst ds))
  | [.lst ds] => some (.o none (.lst ds))
  | _ => none
theorem cd_list {c : Cfg} : CbDen c (fun xs H Q => ∃ p ys, xs = [.ref p] ∧ (SqL c.K H p ys ∨ SqT c.K H p ys) ∧ ∀ l, H l = none → Q (.ref l) (upd H l (.lst ys))) gList := by
  intro B ts vs ρ σ H Q ds us s hl r e q
  match ds, hl, r, e with
  | [.tup ds], hl, r, e =>
    cases e
    obtain ⟨v, rfl, G, O, h⟩ := r.one' hl
    obtain ⟨a, xs, rfl, ha, ka⟩ := h.tupE
    exact ⟨a, xs, rfl, .inr (SqT.up O.sub ha), fun p hp => q _ _ (O.newO hp fun H' e => ⟨_, e, ka⟩)⟩
  | [.lst ds], hl, r, e =>
    cases e
    obtain ⟨v, rfl, G, O, h⟩ := r.one' hl
    obtain ⟨a, xs, rfl, ha, ka⟩ := h.lstE
    exact ⟨a, xs, rfl, .inl (SqL.of (O.sub _ _ ha)), fun p hp => q _ _ (O.newO hp fun H' e => ⟨_, e, ka⟩)⟩
/-- all, any of a list of bools -/
def blsD : List D → Option (List Bool)
  | [] => some []
  | .bl b :: ds => (blsD ds).map (b :: ·)
  | _ => none
theorem RpAll.bls {c : Cfg} {G : Hp} : ∀ {us : List V} {ds : List D} {bs : List Bool}, blsD ds = some bs → RpAll c G us ds → us = bs.map V.bl
  | _, [], _, e, h => by cases e; cases h; rfl
  | _, d :: ds, bs, e, h => by
    cases d <;> first | cases e | skip
    rename_i b
    have e : (blsD ds).map (b :: ·) = some bs := e
    cases e1 : blsD ds with
    | none => rw [e1] at e; cases e
    | some bs' =>
      rw [e1] at e
      cases e
      cases h with
      | cons h k =>
        cases h
        rw [k.bls e1]
        rfl
def gAll : List D → Option S
  | [.lst ds] => (blsD ds).bind fun bs => ok1 (.bl (bs.all id))
  | _ => none
theorem cd_all {c : Cfg} : CbDen c (rAll c.K) gAll := by
  intro B ts vs ρ σ H Q ds us s hl r e q
  match ds, hl, r, e with
  | [.lst ds], hl, r, e =>
    obtain ⟨v, rfl, G, O, h⟩ := r.one' hl
    obtain ⟨a, xs, rfl, ha, ka⟩ := h.lstE
    have e : (blsD ds).bind (fun bs => ok1 (.bl (bs.all id))) = some s := e
    cases e1 : blsD ds with
    | none => rw [e1] at e; cases e
    | some bs =>
      rw [e1] at e
      cases e
      have := ka.bls e1
      subst this
      exact ⟨a, bs, rfl, SqL.of (O.sub _ _ ha), q _ _ (O.val (.bl _))⟩
end Fx
/-! tests, statements, targets, loops, comprehensions -/
namespace Fx
open PySem PySem.Spec PyProof.Rows L2
theorem RpAll.sl {c : Cfg} {B : Base} {G H : Hp} {ts : En} {vs : List (Option V)} {own : Owns} : ∀ {us : List V} {ds : List D}, RpAll c G us ds → Sl c B G H ts vs own → Sl c B G H ((ds.map fun x => some (S.d x)) ++ ts) (us.map some ++ vs) own
  | _, _, .nil, h => h
  | _, _, .cons a k, h => .d a (RpAll.sl k h)
/-! ### tests -/
def mTest (f : M S) : M Bool := fun ρ => (dv f ρ).then fun x ρ' => match x with
  | .bl b => .ok b ρ'
  | _ => .stuck
def mNot (f : M Bool) : M Bool := fun ρ => (f ρ).then fun b ρ' => .ok (!b) ρ'
def mAnd (f g : M Bool) : M Bool := fun ρ => (f ρ).then fun b ρ' => if b = true then g ρ' else .ok false ρ'
def mOr (f g : M Bool) : M Bool := fun ρ => (f ρ).then fun b ρ' => if b = true then .ok true ρ' else g ρ'
def mAndV (f g : M S) : M S := fun ρ => (mTest f ρ).then fun b ρ' => if b = true then g ρ' else .ok (.d (.bl false)) ρ'
def mOrV (f g : M S) : M S := fun ρ => (mTest f ρ).then fun b ρ' => if b = true then .ok (.d (.bl true)) ρ' else g ρ'
def mNotV (f : M S) : M S := fun ρ => (mTest f ρ).then fun b ρ' => .ok (.d (.bl (!b))) ρ'
def mIf (t : M Bool) (f g : M S) : M S := fun ρ => (t ρ).then fun b ρ' => if b = true then f ρ' else g ρ'
def mYes : M Bool := fun ρ => .ok true ρ
section
variable {c : Cfg} {W : WX} {B : Base} {H : Hp} {ts : En} {vs : List (Option V)} {ρ : En} {σ : L2.St} {te ta tb : TE} {fe fa fb : M S} {tt tu : TT} {ft fu : M Bool}
theorem Den.test (h : Den c W te fe) {Q : Bool → Hp → Prop} (r : Rep c B ts vs ρ σ H) (q : Post (fun b ρ' => ∀ H', Rep c B ts vs ρ' σ H' → Q b H') (ErrP c W B ts vs σ) (mTest fe ρ)) : te σ H fun x H' => ∃ k, x = .bl k ∧ Q k H' := by
  unfold mTest at q
  rw [post_then] at q
  refine h.dv r (q.imp1 fun x ρ' p v H' r' => ?_)
  cases x <;> first | exact p.elim | skip
  obtain ⟨G, O, hv⟩ := r'.one
  cases hv
  exact ⟨_, rfl, p H' r'.drop⟩
theorem dt_test (h : Den c W te fe) : DenT c W (tTest te) (mTest fe) := fun B ts vs ρ σ H Q r q => h.test r q
theorem dt_B (h : Den c W te fe) : DenT c W (tB te) (mTest fe) := fun B ts vs ρ σ H Q r q => h.test r q
theorem dt_not (h : DenT c W tt ft) : DenT c W (tNot tt) (mNot ft) := fun B ts vs ρ σ H Q r q => by
  unfold mNot at q
  rw [post_then] at q
  exact h B ts vs ρ σ H _ r q
theorem dt_and (h : DenT c W tt ft) (k : DenT c W tu fu) : DenT c W (tAnd tt tu) (mAnd ft fu) := fun B ts vs ρ σ H Q r q => by
  unfold mAnd at q
  rw [post_then] at q
  refine h B ts vs ρ σ H _ r (q.imp1 fun b ρ' p H' r' => ?_)
  cases b with
  | true => exact k B ts vs ρ' σ H' Q r' p
  | false => exact p H' r'
theorem dt_or (h : DenT c W tt ft) (k : DenT c W tu fu) : DenT c W (tOr tt tu) (mOr ft fu) := fun B ts vs ρ σ H Q r q => by
  unfold mOr at q
  rw [post_then] at q
  refine h B ts vs ρ σ H _ r (q.imp1 fun b ρ' p H' r' => ?_)
  cases b with
  | true => exact p H' r'
  | false => exact k B ts vs ρ' σ H' Q r' p
theorem dt_yes : DenT c W tYes mYes := fun B ts vs ρ σ H Q r q => q H r
theorem OkP.bl {Q : VK} {b : Bool} {ρ : En} (h : OkP c B ts vs σ Q (.d (.bl b)) ρ) {H : Hp} (r : Rep c B ts vs ρ σ H) : Q (.bl b) H := h _ _ (Rep.repl (ds := []) (us := []) r rfl fun G _ => .bl b)
theorem den_andV (h : Den c W ta fa) (k : Den c W tb fb) : Den c W (tAndV ta tb) (mAndV fa fb) := fun B ts vs ρ σ H Q r q => by
  unfold mAndV at q
  rw [post_then] at q
  refine h.test (Q := fun b H1 => if b = true then tb σ H1 Q else Q (.bl false) H1) r (q.imp1 fun b ρ' p H' r' => ?_)
  cases b with
  | true => exact k B ts vs ρ' σ H' Q r' p
  | false => exact OkP.bl p r'
theorem den_notV (h : Den c W ta fa) : Den c W (tNotV ta) (mNotV fa) := fun B ts vs ρ σ H Q r q => by
  unfold mNotV at q
  rw [post_then] at q
  exact h.test r (q.imp1 fun b ρ' p H' r' => OkP.bl p r')
end
/-! ### statements -/
inductive Fl where
  | nx | rt (s : S) | bk | ct
def EndP (c : Cfg) (B : Base) (ts : En) (vs : List (Option V)) (D : Ends) : Fl → En → Prop
  | .nx, ρ => ∀ σ H, Rep c B ts vs ρ σ H → D.nx σ H
  | .bk, ρ => ∀ σ H, Rep c B ts vs ρ σ H → D.bk σ H
  | .ct, ρ => ∀ σ H, Rep c B ts vs ρ σ H → D.ct σ H
  | .rt s, ρ => ∀ v σ H, Rep c B (some s :: ts) (some v :: vs) ρ σ H → D.rt v H
def ErrS (c : Cfg) (W : WX) (B : Base) (ts : En) (vs : List (Option V)) (e : Err) (ρ : En) : Prop := ∀ σ k d H, c.err e k d H → Rep c B ts vs ρ σ H → W k d σ H
def DenS (c : Cfg) (W : WX) (t : TS) (F : M Fl) : Prop := ∀ B ts vs ρ σ H D, Rep c B ts vs ρ σ H → Post (EndP c B ts vs D) (ErrS c W B ts vs) (F ρ) → t D σ H
/-- but for the slots js -/
def Off (js : List Nat) (σ σ' : L2.St) : Prop := σ'.length = σ.length ∧ ∀ i, i ∉ js → σ'[i]? = σ[i]?
def DenG (c : Cfg) (W : WX) (g : TG) (F : D → M Unit) (js : List Nat) : Prop := ∀ B ts vs ρ σ H x v Q, Rep c B (some (.d x) :: ts) (some v :: vs) ρ σ H → Post (fun _ ρ' => ∀ σ' H', Off js σ σ' → Rep c B ts vs ρ' σ' H' → Q σ' H') (ErrS c W B ts vs) (F x ρ) → g v σ H Q
def DenGs (c : Cfg) (W : WX) (g : TGs) (F : List D → M Unit) (js : List Nat) : Prop := ∀ B ts vs ρ σ H ds us Q, us.length = ds.length → Rep c B ((ds.map fun x => some (S.d x)) ++ ts) (us.map some ++ vs) ρ σ H → Post (fun _ ρ' => ∀ σ' H', Off js σ σ' → Rep c B ts vs ρ' σ' H' → Q σ' H') (ErrS c W B ts vs) (F ds ρ) → g us σ H Q
def mNx : M Fl := fun ρ => .ok .nx ρ
def mBk : M Fl := fun ρ => .ok .bk ρ
def mCt : M Fl := fun ρ => .ok .ct ρ
def mSt : M Fl := fun _ => .stuck
def mSeq (F G : M Fl) : M Fl := fun ρ => (F ρ).then fun f ρ' => match f with
  | .nx => G ρ'
  | .rt s => .ok (.rt s) ρ'
  | .bk => .ok .bk ρ'
  | .ct => .ok .ct ρ'
def mRet (f : M S) : M Fl := fun ρ => (f ρ).then fun s ρ' => .ok (.rt s) ρ'
def mRetN : M Fl := fun ρ => .ok (.rt (.d .non)) ρ
/-- the value of a name is handed back, its cell with it -/
def mRetO (i : Nat) : M Fl := fun ρ => match ρ[i]? with
  | some (some (.o none x)) => .ok (.rt (.o none x)) (ρ.set i none)
  | some (some (.d x)) => .ok (.rt (.d x)) ρ
  | _ => .stuck
def mIfS (t : M Bool) (F G : M Fl) : M Fl := fun ρ => (t ρ).then fun b ρ' => if b = true then F ρ' else G ρ'
def mDrop (f : M S) : M Fl := fun ρ => (f ρ).then fun _ ρ' => .ok .nx ρ'
def mAsg (f : M S) (g : D → M Unit) : M Fl := fun ρ => (dv f ρ).then fun x ρ' => (g x ρ').then fun _ ρ2 => .ok .nx ρ2
def mAsgO (i : Nat) (f : M S) : M Fl := fun ρ => (f ρ).then fun s ρ' => match s with
  | .o none x => .ok .nx (ρ'.set i (some (.o none x)))
  | .d x => .ok .nx (ρ'.set i (some (.d x)))
  | _ => .stuck
def gmName (i : Nat) : D → M Unit := fun x ρ => .ok () (ρ.set i (some (.d x)))
def gmNil : List D → M Unit := fun ds ρ => match ds with
  | [] => .ok () ρ
  | _ => .stuck
def gmCons (g : D → M Unit) (gs : List D → M Unit) : List D → M Unit := fun ds ρ => match ds with
  | d :: r => (g d ρ).then fun _ ρ' => gs r ρ'
  | [] => .stuck
def gmTup (n : Nat) (gs : List D → M Unit) : D → M Unit := fun x ρ => match x with
  | .tup ds => if ds.length = n then gs ds ρ else .stuck
  | _ => .stuck
section
variable {c : Cfg} {W : WX} {te : TE} {fe : M S} {tt : TT} {ft : M Bool} {t u : TS} {F G : M Fl} {g : TG} {gm : D → M Unit} {js js' : List Nat}
theorem ErrS.toP {B : Base} {ts : En} {vs : List (Option V)} {σ : L2.St} {e : Err} {ρ : En} (h : ErrS c W B ts vs e ρ) : ErrP c W B ts vs σ e ρ := fun k d H' he r => h σ k d H' he r
theorem ErrS.drop {B : Base} {ts : En} {vs : List (Option V)} {s : Option S} {v : Option V} {e : Err} {ρ : En} (h : ErrS c W B ts vs e ρ) : ErrS c W B (s :: ts) (v :: vs) e ρ := fun σ k d H' he r => h σ k d H' he r.drop
theorem ds_nx : DenS c W tNext mNx := fun B ts vs ρ σ H D r q => q σ H r
theorem ds_never : DenS c W tNever mSt := fun B ts vs ρ σ H D r q => q
theorem ds_seq (h : DenS c W t F) (k : DenS c W u G) : DenS c W (tSeq t u) (mSeq F G) := fun B ts vs ρ σ H D r q => by
  unfold mSeq at q
  rw [post_then] at q
  refine h B ts vs ρ σ H { D with nx := u D } r (q.imp1 fun f ρ' p => ?_)
  cases f with
  | nx => exact fun σ' H' r' => k B ts vs ρ' σ' H' D r' p
  | rt s => exact p
  | bk => exact p
  | ct => exact p
theorem ds_ret (h : Den c W te fe) : DenS c W (tRet te) (mRet fe) := fun B ts vs ρ σ H D r q => by
  unfold mRet at q
  rw [post_then] at q
  exact h B ts vs ρ σ H _ r (q.imp (fun s ρ' p v H' r' => p v σ H' r') fun _ _ h => h.toP)
theorem ds_if (h : DenT c W tt ft) (k : DenS c W t F) (l : DenS c W u G) : DenS c W (tIfS tt t u) (mIfS ft F G) := fun B ts vs ρ σ H D r q => by
  unfold mIfS at q
  rw [post_then] at q
  refine h B ts vs ρ σ H _ r (q.imp (fun b ρ' p H' r' => ?_) fun _ _ h => h.toP)
  cases b with
  | true => exact k B ts vs ρ' σ H' D r' p
  | false => exact l B ts vs ρ' σ H' D r' p
theorem ds_drop (h : Den c W te fe) : DenS c W (tDrop te) (mDrop fe) := fun B ts vs ρ σ H D r q => by
  unfold mDrop at q
  rw [post_then] at q
  exact h B ts vs ρ σ H _ r (q.imp (fun s ρ' p v H' r' => p σ H' r'.drop) fun _ _ h => h.toP)
theorem ds_asg (h : Den c W te fe) (k : DenG c W g gm js) : DenS c W (tAsg te g) (mAsg fe gm) := fun B ts vs ρ σ H D r q => by
  unfold mAsg at q
  rw [post_then] at q
  refine h.dv r (q.imp (fun x ρ' p v H' r' => ?_) fun _ _ h => h.toP)
  rw [post_then] at p
  exact k B ts vs ρ' σ H' x v D.nx r' (p.imp1 fun _ ρ2 p2 σ2 H2 _ r2 => p2 σ2 H2 r2)
theorem ds_asgO {i : Nat} (h : Den c W te fe) : DenS c W (tAsg te (gName i)) (mAsgO i fe) := fun B ts vs ρ σ H D r q => by
  unfold mAsgO at q
  rw [post_then] at q
  refine h B ts vs ρ σ H _ r (q.imp (fun s ρ' p v H' r' => ?_) fun _ _ h => h.toP)
  cases s with
  | d x => exact p _ H' r'.set
  | o b x =>
    cases b with
    | some _ => exact p.elim
    | none => exact p _ H' r'.set
  | q _ _ => exact p.elim
theorem dg_name {i : Nat} : DenG c W (gName i) (gmName i) [i] := fun B ts vs ρ σ H x v Q r q => q _ H ⟨by rw [List.length_set], fun j hj => List.getElem?_set_ne fun e => hj (by simp [e])⟩ r.set
theorem dgs_nil : DenGs c W gNil gmNil [] := fun B ts vs ρ σ H ds us Q hl r q => by
  cases ds with
  | nil =>
    cases us with
    | nil => exact ⟨rfl, q σ H ⟨rfl, fun _ _ => rfl⟩ r⟩
    | cons _ _ => simp at hl
  | cons _ _ => exact q.elim
theorem dgs_cons {gs : TGs} {gms : List D → M Unit} (h : DenG c W g gm js) (k : DenGs c W gs gms js') : DenGs c W (gCons g gs) (gmCons gm gms) (js ++ js') := fun B ts vs ρ σ H ds us Q hl r q => by
  cases ds with
  | nil => exact q.elim
  | cons x ds =>
    cases us with
    | nil => simp at hl
    | cons v us =>
      have hl' : us.length = ds.length := by simpa using hl
      refine ⟨v, us, rfl, ?_⟩
      have q : Post _ _ ((gm x ρ).then fun _ ρ' => gms ds ρ') := q
      rw [post_then] at q
      refine h B _ _ ρ σ H x v _ r (q.imp (fun _ ρ' p σ' H' o1 r' => k B ts vs ρ' σ' H' ds us Q hl' r' (p.imp1 fun _ ρ2 p σ2 H2 o2 r2 => p σ2 H2 ⟨o2.1.trans o1.1, fun i hi => (o2.2 i fun z => hi (List.mem_append_right _ z)).trans (o1.2 i fun z => hi (List.mem_append_left _ z))⟩ r2)) fun e ρ' h σ' k' d H' he r' => h σ' k' d H' he ?_)
      have r2 := Rep.dropN (ds := ds.reverse) (us := us.reverse) (by simpa using hl') (by simpa [tmp, tmv] using r')
      exact r2
theorem dg_tup {gs : TGs} {gms : List D → M Unit} {n : Nat} (k : DenGs c W gs gms js) : DenG c W (gTup c.K n gs) (gmTup n gms) js := fun B ts vs ρ σ H x v Q r q => by
  cases x <;> first | exact q.elim | skip
  rename_i ds
  have q : Post _ _ (if ds.length = n then gms ds ρ else .stuck) := q
  split at q
  · rename_i hn
    obtain ⟨G, o1, o2, kk, h1, h2⟩ := r
    cases h1 with
    | d hv h1 =>
      obtain ⟨a, xs, rfl, ha, ka⟩ := hv.tupE
      refine ⟨a, xs, rfl, SqT.up kk.sub ha, by rw [ka.length, hn], k B ts vs ρ σ H ds xs Q ka.length ⟨G, o1, o2, kk, ?_, h2⟩ q⟩
      exact ka.sl h1
  · exact q.elim
end
/-! ### loops -/
/-- what a walk gives, turn by turn, while what it walks waits -/
def IsWalk (c : Cfg) (st : List D) (sv : List V) (J : It) (items : List D) : Prop := ∃ n Gw Y, Walk J n Gw Y ∧ n = items.length ∧
  (∀ B ts vs ρ σ H, Rep c B (tmp st ++ ts) (tmv sv ++ vs) ρ σ H → Gw H) ∧
  ∀ B ts vs ρ σ H k x H', k < n → Rep c B (tmp st ++ ts) (tmv sv ++ vs) ρ σ H → Y k H x H' → ∃ d, items[k]? = some d ∧ Rep c B (some (.d d) :: (tmp st ++ ts)) (some x :: (tmv sv ++ vs)) ρ σ H'
def OkI (c : Cfg) (B : Base) (ts : En) (vs : List (Option V)) (σ : L2.St) (R : It → Hp → Prop) (items : List D) (ρ : En) : Prop :=
  ∀ J st sv H', sv.length = st.length → Rep c B (tmp st ++ ts) (tmv sv ++ vs) ρ σ H' → IsWalk c st sv J items → R J H'
def DenI (c : Cfg) (W : WX) (wi : TI) (f : M (List D)) : Prop := ∀ B ts vs ρ σ H R, Rep c B ts vs ρ σ H → Post (OkI c B ts vs σ R) (ErrP c W B ts vs σ) (f ρ) → wi σ H R
/-- a for's turns -/
def mLoop (gm : D → M Unit) (F : M Fl) : List D → M Fl
  | [] => fun ρ => .ok .nx ρ
  | x :: xs => fun ρ => (gm x ρ).then fun _ ρ1 => (F ρ1).then fun f ρ2 => match f with
    | .nx => mLoop gm F xs ρ2
    | .ct => mLoop gm F xs ρ2
    | .bk => .ok .nx ρ2
    | .rt s => .ok (.rt s) ρ2
def mFor (fI : M (List D)) (gm : D → M Unit) (F : M Fl) : M Fl := fun ρ => (fI ρ).then fun items ρ1 => mLoop gm F items ρ1
def mWhile (ft : M Bool) (F : M Fl) : Nat → M Fl
  | 0 => fun _ => .stuck
  | n + 1 => fun ρ => (ft ρ).then fun b ρ1 => if b = true then (F ρ1).then fun f ρ2 => match f with
      | .nx => mWhile ft F n ρ2
      | .ct => mWhile ft F n ρ2
      | .bk => .ok .nx ρ2
      | .rt s => .ok (.rt s) ρ2
    else .ok .nx ρ1
section
variable {c : Cfg} {W : WX} {wi : TI} {fI : M (List D)} {te : TE} {fe : M S} {tt : TT} {ft : M Bool} {t u : TS} {F G : M Fl} {g : TG} {gm : D → M Unit} {js js' : List Nat}
theorem EndP.dropN {B : Base} {ts : En} {vs : List (Option V)} {st : List D} {sv : List V} {s : S} {v : V} {ρ : En} {σ : L2.St} {H : Hp} (hl : sv.length = st.length) (r : Rep c B (some s :: (tmp st ++ ts)) (some v :: (tmv sv ++ vs)) ρ σ H) : Rep c B (some s :: ts) (some v :: vs) ρ σ H := by
  obtain ⟨G, o1, o2, k, h1, h2⟩ := r
  obtain ⟨w, os, o1', ew, e1, rfl, h1'⟩ := h1.unone
  cases ew
  exact ⟨G, os ++ o1', o2, k, Sl.one e1 (h1'.tmp hl).2, h2⟩
theorem ds_for (h : DenI c W wi fI) (k : DenG c W g gm js) (l : DenS c W t F) : DenS c W (tFor wi g t) (mFor fI gm F) := fun B ts vs ρ σ H D r q => by
  unfold mFor at q
  rw [post_then] at q
  refine h B ts vs ρ σ H _ r (q.imp (fun items ρ1 q J st sv H1 hl r1 w => ?_) fun _ _ h => h.toP)
  obtain ⟨n, Gw, Y, wk, rfl, hG, hY⟩ := w
  refine for_it wk (fun i σ H => ∃ ρ, Rep c B (tmp st ++ ts) (tmv sv ++ vs) ρ σ H ∧ Post (EndP c B ts vs D) (ErrS c W B ts vs) (mLoop gm F (items.drop i) ρ)) ⟨ρ1, r1, q⟩ (fun i σ H _ ⟨ρ, r, _⟩ => hG _ _ _ _ _ _ r) ?_ ?_
  · rintro i x σ1 H1 H2 hi ⟨ρ, r, q⟩ y
    obtain ⟨d, ed, r2⟩ := hY _ _ _ _ _ _ _ _ _ hi r y
    have hd : items.drop i = d :: items.drop (i + 1) := by
      rw [List.drop_eq_getElem_cons hi]
      rw [List.getElem?_eq_getElem hi] at ed
      cases ed
      rfl
    rw [hd] at q
    have q : Post _ _ ((gm d ρ).then fun _ ρ1 => (F ρ1).then fun f ρ2 => _) := q
    rw [post_then] at q
    have er : ∀ e ρ, ErrS c W B ts vs e ρ → ErrS c W B (tmp st ++ ts) (tmv sv ++ vs) e ρ := fun e ρ h σ k d H' he r => h σ k d H' he (r.dropN hl)
    refine k B _ _ ρ σ1 H2 d x _ r2 (q.imp (fun _ ρ2 q σ2 H3 _ r3 => ?_) er)
    rw [post_then] at q
    refine l B _ _ ρ2 σ2 H3 _ r3 (q.imp (fun f ρ3 p => ?_) er)
    cases f with
    | nx => exact fun σ4 H4 r4 => ⟨ρ3, r4, p⟩
    | ct => exact fun σ4 H4 r4 => ⟨ρ3, r4, p⟩
    | bk => exact fun σ4 H4 r4 => p σ4 H4 (r4.dropN hl)
    | rt s => exact fun v σ4 H4 r4 => p v σ4 H4 (EndP.dropN hl r4)
  · rintro σ1 H1 ⟨ρ, r, q⟩
    rw [List.drop_length] at q
    exact q σ1 H1 (r.dropN hl)
theorem ds_while {n : Nat} (h : DenT c W tt ft) (l : DenS c W t F) : DenS c W (tWhile tt t) (mWhile ft F n) := fun B ts vs ρ σ H D r q => by
  refine ⟨fun m σ H => ∃ ρ, Rep c B ts vs ρ σ H ∧ Post (EndP c B ts vs D) (ErrS c W B ts vs) (mWhile ft F m ρ), ⟨n, ρ, r, q⟩, ?_⟩
  rintro m σ H ⟨ρ, r, q⟩
  cases m with
  | zero => exact q.elim
  | succ m =>
    have q : Post _ _ ((ft ρ).then fun b ρ1 => _) := q
    rw [post_then] at q
    refine h B ts vs ρ σ H _ r (q.imp (fun b ρ1 q H1 r1 => ?_) fun _ _ h => h.toP)
    cases b with
    | false => exact q σ H1 r1
    | true =>
      have q : Post _ _ ((F ρ1).then fun f ρ2 => _) := q
      rw [post_then] at q
      refine ⟨fun σ H => ∃ ρ, Rep c B ts vs ρ σ H ∧ Post (EndP c B ts vs D) (ErrS c W B ts vs) (mWhile ft F m ρ), fun σ' H' h => ⟨m, Nat.lt_succ_self m, h⟩, ?_⟩
      refine l B ts vs ρ1 σ H1 _ r1 (q.imp1 fun f ρ2 p => ?_)
      cases f with
      | nx => exact fun σ4 H4 r4 => ⟨ρ2, r4, p⟩
      | ct => exact fun σ4 H4 r4 => ⟨ρ2, r4, p⟩
      | bk => exact p
      | rt s => exact p
end
/-! ### what is walked -/
def iSeq (f : M S) : M (List D) := fun ρ => (dv f ρ).then fun x ρ' => match itemsD x with
  | some ds => .ok ds ρ'
  | none => .stuck
def intsFrom (lo : Int) : Nat → List D
  | 0 => []
  | n + 1 => .int lo :: intsFrom (lo + 1) n
theorem intsFrom_length : ∀ (n : Nat) (lo : Int), (intsFrom lo n).length = n
  | 0, _ => rfl
  | n + 1, lo => by simp [intsFrom, intsFrom_length n]
theorem intsFrom_get : ∀ (n : Nat) (lo : Int) (k : Nat), k < n → (intsFrom lo n)[k]? = some (.int (lo + k))
  | 0, _, _, h => absurd h (Nat.not_lt_zero _)
  | n + 1, lo, 0, _ => by simp [intsFrom]
  | n + 1, lo, k + 1, h => by
    simp only [intsFrom, List.getElem?_cons_succ]
    rw [intsFrom_get n (lo + 1) k (by omega)]
    congr 2
    push_cast
    omega
def rOk (i : Int) : Bool := decide (-4611686018427387904 ≤ i) && decide (i < 4611686018427387904)
def iRange1 (fa : M (List D)) : M (List D) := fun ρ => (fa ρ).then fun ds ρ' => match ds with
  | [.int j] => if rOk j then .ok (intsFrom 0 j.toNat) ρ' else .stuck
  | _ => .stuck
section
variable {c : Cfg} {W : WX} {wi : TI} {fI : M (List D)} {te : TE} {fe : M S} {tA : TA} {fA : M (List D)}
theorem rOk_iff {i : Int} : rOk i = true ↔ -(2 ^ 62) ≤ i ∧ i < 2 ^ 62 := by
  unfold rOk
  simp only [Bool.and_eq_true, decide_eq_true_eq]
  constructor <;> (intro h; constructor <;> omega)
theorem walk_ints {lo : Int} {n : Nat} : IsWalk c [] [] (Itr lo n) (intsFrom lo n) := by
  refine ⟨n, _, _, walk_range, (intsFrom_length n lo).symm, fun _ _ _ _ _ _ _ => trivial, ?_⟩
  rintro B ts vs ρ σ H k x H' hk r ⟨rfl, rfl⟩
  exact ⟨_, intsFrom_get n lo k hk, Rep.repl (ds := []) (us := []) r rfl fun G _ => .int _⟩
theorem di_range1 (h : DenA c W tA fA) : DenI c W (iRng1 tA) (iRange1 fA) := fun B ts vs ρ σ H R r q => by
  unfold iRange1 at q
  rw [post_then] at q
  refine h B ts vs ρ σ H _ r (q.imp1 fun ds ρ' p us H' hl r' => ?_)
  split at p
  · rename_i j
    split at p
    · rename_i hj
      rw [rOk_iff] at hj
      obtain ⟨v, rfl, G, O, hv⟩ := r'.one' hl
      cases hv
      exact ⟨j, rfl, hj.1, hj.2, p _ [] [] H' rfl (Rep.dropN (ds := [.int j]) (us := [.int j]) rfl r') walk_ints⟩
    · exact p.elim
  · exact p.elim
end
end Fx
/-! zip of two tuples, its pairs kept by a name: the pair that was handed out before may be alive or not -/
namespace Fx
open PySem RZ
open Builtin.SmallTypes (ownedTupleIsFree ownedTupleHandOut nextOf)
section
variable {prog : Program} {w : World} {A : Around} {E : Value → Shared → Prop} {s : Shared} {z TI TO i1 i2 l1 l2 : Addr} {k1 k2 : Nat} {xs ys : Array Value} {x y v : Value} {f : Bool}
/-- the zip object: v names the pair that it handed out, if any -/
abbrev ZAt (h : Heap) (z TI TO : Addr) (v : Value) (f : Bool) : Prop := h.get? z = some { cls := .type "zip", dict := none, data := .fields #[v, .bool f, .bool false, .ref TI, .ref TO], slots := #[] }
def Old (v : Value) : Prop := v = .none ∨ ∃ T : Addr, v = rawInt T
theorem zip_free {Q : Bool → Shared → Prop} (g : ZAt s.heap z TI TO v f) (hv : Old v) (q : ∀ b h' f', ZAt h' z TI TO v f' → Heap.SameBut z s.heap h' → Q b { s with heap := h' }) :
    wpAny (model prog w) A (ownedTupleIsFree (Value.ref z)) Q E s := by
  have look : ∀ (a : Addr) (P : Option Obj → Shared → Prop), P (s.heap.get? a) s → wpAny (model prog w) A (loadIfAlive a) P E s := fun a P h _ _ _ => h
  unfold ownedTupleIsFree
  rcases hv with rfl | ⟨T, rfl⟩
  · exact wpAny_bind (wpAny_field g rfl (x := Value.none) rfl (wpAny_pure (q true s.heap f g (Heap.SameBut.refl _ _))))
  · apply wpAny_bind
    refine wpAny_field g rfl (x := rawInt T) rfl ?_
    show wpAny _ _ (loadIfAlive (Int.toNat (T : Int)) >>= _) _ _ _
    rw [Int.toNat_natCast]
    apply wpAny_bind
    apply look
    cases s.heap.get? T with
    | none => exact wpAny_pure (q true s.heap f g (Heap.SameBut.refl _ _))
    | some o =>
      simp only [Option.isNone_some, Bool.false_eq_true, ite_false]
      apply wpAny_bind
      refine wpAny_field g rfl (x := Value.bool f) rfl ?_
      by_cases e : f = true
      · subst e
        exact wpAny_pure (q false s.heap true g (Heap.SameBut.refl _ _))
      · have e : f = false := by simpa using e
        subst e
        exact wpAny_bind (wpAny_setField_rec g (by simp) fun h' g' same => wpAny_pure (q false h' true g' same))
end
end Fx
/-! zip of a tuple and a list, its pairs taken apart -/
namespace Fx
open PySem PySem.Spec PyProof.Rows L2 RZ
open Builtin.SmallTypes (ownedTupleIsFree ownedTupleHandOut nextOf)
section
variable {prog : Program} {w : World} {A : Around} {E : Value → Shared → Prop} {s : Shared} {z TI TO i1 i2 l1 l2 : Addr} {k1 k2 : Nat} {xs ys : Array Value} {x y v : Value} {f : Bool}
/-- next(z), both have an item -/
theorem zip_turnM {Q : Value → Shared → Prop} (D : ZipApart z TI TO i1 i2 l1 l2) (g : ZAt s.heap z TI TO v f) (hv : Old v) (t1 : IsPair s.heap TI (.ref i1) (.ref i2)) (t2 : ∃ a b, IsPair s.heap TO a b)
    (j1 : s.heap.IsTupleIter i1 l1 k1) (j2 : s.heap.IsListIter i2 l2 k2) (c1 : s.heap.IsTuple l1 xs) (c2 : s.heap.IsList l2 ys) (ex : xs[k1]? = some x) (ey : ys[k2]? = some y)
    (q : ∀ h' v' f', Old v' → ZAt h' z TI TO v' f' → (∃ a b, IsPair h' TO a b) → h'.IsTupleIter i1 l1 (k1 + 1) → h'.IsListIter i2 l2 (k2 + 1) → IsPair h' s.heap.objs.size x y → h'.objs.size = s.heap.objs.size + 1 →
      (∀ c o, c ≠ z → c ≠ TO → c ≠ i1 → c ≠ i2 → s.heap.get? c = some o → h'.get? c = some o) → Q (.ref s.heap.objs.size) { s with heap := h' }) :
    wpAny (model prog w) A (Builtin.«zip.__next__» ⟨[Value.ref z], []⟩) (fun r s' => ∃ u, r = .done (.ret u) ∧ Q u s') E s := by
  obtain ⟨a, b, t2⟩ := t2
  show wpAny _ _ (field (Value.ref z) 2 >>= _) _ _ _
  apply wpAny_bind
  refine wpAny_field g rfl (x := Value.bool false) rfl ?_
  show wpAny _ _ (field (Value.ref z) 3 >>= _) _ _ _
  apply wpAny_bind
  refine wpAny_field g rfl (x := Value.ref TI) rfl ?_
  apply wpAny_bind
  apply wpAny_seqItems t1 rfl
  show wpAny _ _ (ownedTupleIsFree (Value.ref z) >>= _) _ _ _
  apply wpAny_bind
  refine zip_free g hv fun free h1 f1 g1 s1 => ?_
  have m1 : ∀ c o, c ≠ z → s.heap.get? c = some o → h1.get? c = some o := fun c o n e => s1.extBut _ _ n e
  cases free with
  | false =>
    simp only [Bool.false_eq_true, ite_false]
    apply wpAny_bind
    rw [← Array.forIn_toList]
    simp only [List.forIn_cons, List.forIn_nil]
    apply wpAny_bind
    apply wpAny_bind
    apply wpAny_holding
    show wpAny _ _ (nextOf (Value.ref i1) >>= _) _ _ _
    apply wpAny_bind
    refine nextOf_tuple_item (s := { s with heap := h1 }) (j1.extBut s1.extBut D.i1z) (c1.extBut s1.extBut D.l1z) ex fun h2 p2 s2 => wpAny_pure (wpAny_pure ?_)
    apply wpAny_bind
    apply wpAny_bind
    apply wpAny_holding
    show wpAny _ _ (nextOf (Value.ref i2) >>= _) _ _ _
    apply wpAny_bind
    refine wpAny_nextOf_list_item (s := { s with heap := h2 }) ((j2.extBut s1.extBut D.i2z).extBut s2.extBut D.i12.symm) ((c2.extBut s1.extBut D.l2z).extBut s2.extBut D.l2i1) ey fun h3 p3 s3 => wpAny_pure (wpAny_pure (wpAny_pure ?_))
    show wpAny _ _ (newTuple [x, y] >>= _) _ _ _
    apply wpAny_bind
    refine wpAny_newTuple ?_
    have n : h3.objs.size = s.heap.objs.size := by rw [s3.1, s2.1, s1.1]
    have m3 : ∀ c o, c ≠ z → c ≠ i1 → c ≠ i2 → s.heap.get? c = some o → h3.get? c = some o := fun c o n1 n2 n3 e => s3.extBut _ _ n3 (s2.extBut _ _ n2 (m1 c o n1 e))
    have g3 : ZAt h3 z TI TO v f1 := s3.extBut _ _ D.i2z.symm (s2.extBut _ _ D.i1z.symm g1)
    have up : ∀ c o, h3.get? c = some o → (h3.push { cls := .type "tuple", data := .seq #[x, y] }).get? c = some o := fun c o e => Heap.get?_push_of_some _ e
    have new : IsPair (h3.push { cls := .type "tuple", data := .seq #[x, y] }) h3.objs.size x y := Heap.get?_push_size _ rfl
    have len : (h3.push { cls := .type "tuple", data := .seq #[x, y] }).objs.size = h3.objs.size + 1 := Heap.size_push ..
    refine wpAny_pure ⟨_, rfl, ?_⟩
    show Q (Value.ref h3.objs.size) _
    rw [n] at new len ⊢
    exact q _ v f1 hv (up _ _ g3) ⟨a, b, up _ _ (m3 _ _ D.TOz D.TOi1 D.TOi2 t2)⟩ ((p2.extBut s3.extBut D.i12).at fun o e => up _ o e) (p3.at fun o e => up _ o e) new len fun c o n1 n2 n3 n4 e => up _ _ (m3 c o n1 n3 n4 e)
  | true =>
    simp only [ite_true]
    apply wpAny_bind
    apply wpAny_rule
    apply wpAny_bind
    refine wpAny_field g1 rfl (x := Value.ref TO) rfl ?_
    apply wpAny_bind
    refine wpAny_setField_rec g1 (by simp) fun h2 g2 s2 => ?_
    replace g2 : ZAt h2 z TI TO .ellipsis f1 := g2
    apply wpAny_bind
    simp only [List.zipIdx_cons, List.zipIdx_nil, List.forIn_cons, List.forIn_nil]
    apply wpAny_bind
    apply wpAny_bind
    apply wpAny_onRaise
    show wpAny _ _ (nextOf (Value.ref i1) >>= _) _ _ _
    apply wpAny_bind
    refine nextOf_tuple_item (s := { s with heap := h2 }) ((j1.extBut s1.extBut D.i1z).extBut s2.extBut D.i1z) ((c1.extBut s1.extBut D.l1z).extBut s2.extBut D.l1z) ex fun h3 p3 s3 => wpAny_pure ?_
    have o3 : IsPair h3 TO a b := s3.extBut _ _ D.TOi1 (s2.extBut _ _ D.TOz (m1 _ _ D.TOz t2))
    apply wpAny_bind
    apply wpAny_seqItems o3 rfl
    apply wpAny_bind
    refine wpAny_updateSeq_pair o3 fun h4 o4 s4 => ?_
    replace o4 : IsPair h4 TO x b := o4
    apply wpAny_bind
    refine wpAny_letGo (wpAny_pure ?_)
    apply wpAny_bind
    apply wpAny_bind
    apply wpAny_onRaise
    show wpAny _ _ (nextOf (Value.ref i2) >>= _) _ _ _
    apply wpAny_bind
    refine wpAny_nextOf_list_item (s := { s with heap := h4 }) ((((j2.extBut s1.extBut D.i2z).extBut s2.extBut D.i2z).extBut s3.extBut D.i12.symm).extBut s4.extBut D.TOi2.symm) ((((c2.extBut s1.extBut D.l2z).extBut s2.extBut D.l2z).extBut s3.extBut D.l2i1).extBut s4.extBut D.l2TO) ey fun h5 p5 s5 => wpAny_pure ?_
    have o5 : IsPair h5 TO x b := s5.extBut _ _ D.TOi2 o4
    apply wpAny_bind
    apply wpAny_seqItems o5 rfl
    apply wpAny_bind
    refine wpAny_updateSeq_pair o5 fun h6 o6 s6 => ?_
    replace o6 : IsPair h6 TO x y := o6
    apply wpAny_bind
    refine wpAny_letGo (wpAny_pure (wpAny_pure ?_))
    apply wpAny_bind
    apply wpAny_seqItems o6 rfl
    apply wpAny_bind
    refine wpAny_newTuple ?_
    have n : h6.objs.size = s.heap.objs.size := by rw [s6.1, s5.1, s4.1, s3.1, s2.1, s1.1]
    have g6 : ZAt h6 z TI TO .ellipsis f1 := s6.extBut _ _ D.TOz.symm (s5.extBut _ _ D.i2z.symm (s4.extBut _ _ D.TOz.symm (s3.extBut _ _ D.i1z.symm g2)))
    have m6 : ∀ c o, c ≠ z → c ≠ TO → c ≠ i1 → c ≠ i2 → s.heap.get? c = some o → h6.get? c = some o := fun c o n1 n2 n3 n4 e => s6.extBut _ _ n2 (s5.extBut _ _ n4 (s4.extBut _ _ n2 (s3.extBut _ _ n3 (s2.extBut _ _ n1 (m1 c o n1 e)))))
    have q1 : h6.IsTupleIter i1 l1 (k1 + 1) := ((p3.extBut s4.extBut D.TOi1.symm).extBut s5.extBut D.i12).extBut s6.extBut D.TOi1.symm
    have q2 : h6.IsListIter i2 l2 (k2 + 1) := p5.extBut s6.extBut D.TOi2.symm
    have zl : z < h6.objs.size := Heap.lt_size g6
    show wpAny _ _ (ownedTupleHandOut (Value.ref z) (Value.ref h6.objs.size) >>= _) _ _ _
    apply wpAny_bind
    unfold ownedTupleHandOut
    have g7 : ZAt (h6.push { cls := .type "tuple", data := .seq #[x, y] }) z TI TO .ellipsis f1 := Heap.get?_push_of_some _ g6
    apply wpAny_bind
    refine wpAny_setField_rec g7 (by simp) fun h8 g8 s8 => ?_
    replace g8 : ZAt h8 z TI TO (rawInt h6.objs.size) f1 := g8
    refine wpAny_setField_rec g8 (by simp) fun h9 g9 s9 => ?_
    replace g9 : ZAt h9 z TI TO (rawInt h6.objs.size) false := g9
    have up : ∀ c o, c ≠ z → h6.get? c = some o → h9.get? c = some o := fun c o n1 e => s9.extBut _ _ n1 (s8.extBut _ _ n1 (Heap.get?_push_of_some _ e))
    have new : IsPair h9 h6.objs.size x y := s9.extBut _ _ (Nat.ne_of_gt zl) (s8.extBut _ _ (Nat.ne_of_gt zl) (Heap.get?_push_size _ rfl))
    have len : h9.objs.size = h6.objs.size + 1 := by rw [s9.1, s8.1, Heap.size_push]
    refine wpAny_pure ⟨_, rfl, ?_⟩
    show Q (Value.ref h6.objs.size) _
    rw [n] at g9 new len ⊢
    exact q h9 _ false (.inr ⟨_, rfl⟩) g9 ⟨x, y, up _ _ D.TOz o6⟩ (q1.at fun o e => up _ o D.i1z e) (q2.at fun o e => up _ o D.i2z e) new len fun c o n1 n2 n3 n4 e => up c o n1 (m6 c o n1 n2 n3 n4 e)
/-- next(z), one of the two has come to its end -/
theorem zip_overM {Q : Fin → Shared → Prop} (hh : A.handled = none) (D : ZipApart z TI TO i1 i2 l1 l2) (g : ZAt s.heap z TI TO v f) (hv : Old v) (t1 : IsPair s.heap TI (.ref i1) (.ref i2)) (t2 : ∃ a b, IsPair s.heap TO a b)
    (j1 : s.heap.IsTupleIter i1 l1 k1) (j2 : s.heap.IsListIter i2 l2 k2) (c1 : s.heap.IsTuple l1 xs) (c2 : s.heap.IsList l2 ys) (ee : xs[k1]? = none ∨ ys[k2]? = none)
    (q : ∀ h' e, (∀ c o, c ≠ z → c ≠ TO → c ≠ i1 → c ≠ i2 → s.heap.get? c = some o → h'.get? c = some o) → (∃ o, h'.get? e = some o ∧ o.cls = .type "StopIteration") → E (.ref e) { s with heap := h' }) :
    wpAny (model prog w) A (Builtin.«zip.__next__» ⟨[Value.ref z], []⟩) Q E s := by
  obtain ⟨a, b, t2⟩ := t2
  show wpAny _ _ (field (Value.ref z) 2 >>= _) _ _ _
  apply wpAny_bind
  refine wpAny_field g rfl (x := Value.bool false) rfl ?_
  show wpAny _ _ (field (Value.ref z) 3 >>= _) _ _ _
  apply wpAny_bind
  refine wpAny_field g rfl (x := Value.ref TI) rfl ?_
  apply wpAny_bind
  apply wpAny_seqItems t1 rfl
  show wpAny _ _ (ownedTupleIsFree (Value.ref z) >>= _) _ _ _
  apply wpAny_bind
  refine zip_free g hv fun free h1 f1 g1 s1 => ?_
  have m1 : ∀ c o, c ≠ z → s.heap.get? c = some o → h1.get? c = some o := fun c o n e => s1.extBut _ _ n e
  cases free with
  | false =>
    simp only [Bool.false_eq_true, ite_false]
    apply wpAny_bind
    rw [← Array.forIn_toList]
    simp only [List.forIn_cons, List.forIn_nil]
    apply wpAny_bind
    apply wpAny_bind
    apply wpAny_holding
    show wpAny _ _ (nextOf (Value.ref i1) >>= _) _ _ _
    apply wpAny_bind
    cases ex : xs[k1]? with
    | none => exact nextOf_tuple_end (s := { s with heap := h1 }) hh (j1.extBut s1.extBut D.i1z) (c1.extBut s1.extBut D.l1z) ex fun h2 e s2 stop => q h2 e (fun c o n1 _ n3 _ k => s2 _ _ n3 (m1 c o n1 k)) stop
    | some x =>
      have ey : ys[k2]? = none := ee.resolve_left fun k => by rw [ex] at k; cases k
      refine nextOf_tuple_item (s := { s with heap := h1 }) (j1.extBut s1.extBut D.i1z) (c1.extBut s1.extBut D.l1z) ex fun h2 p2 s2 => wpAny_pure (wpAny_pure ?_)
      apply wpAny_bind
      apply wpAny_bind
      apply wpAny_holding
      show wpAny _ _ (nextOf (Value.ref i2) >>= _) _ _ _
      apply wpAny_bind
      exact wpAny_nextOf_list_end (s := { s with heap := h2 }) hh ((j2.extBut s1.extBut D.i2z).extBut s2.extBut D.i12.symm) ((c2.extBut s1.extBut D.l2z).extBut s2.extBut D.l2i1) ey fun h3 e s3 stop => q h3 e (fun c o n1 _ n3 n4 k => s3 _ _ n4 (s2.extBut _ _ n3 (m1 c o n1 k))) stop
  | true =>
    simp only [ite_true]
    apply wpAny_bind
    apply wpAny_rule
    apply wpAny_bind
    refine wpAny_field g1 rfl (x := Value.ref TO) rfl ?_
    apply wpAny_bind
    refine wpAny_setField_rec g1 (by simp) fun h2 g2 s2 => ?_
    replace g2 : ZAt h2 z TI TO .ellipsis f1 := g2
    apply wpAny_bind
    simp only [List.zipIdx_cons, List.zipIdx_nil, List.forIn_cons, List.forIn_nil]
    apply wpAny_bind
    apply wpAny_bind
    apply wpAny_onRaise
    show wpAny _ _ (nextOf (Value.ref i1) >>= _) _ _ _
    apply wpAny_bind
    have back : ∀ (h3 : Heap) (e : Addr), ZAt h3 z TI TO .ellipsis f1 → (∀ c o, c ≠ z → c ≠ TO → c ≠ i1 → c ≠ i2 → s.heap.get? c = some o → h3.get? c = some o) → (∃ o, h3.get? e = some o ∧ o.cls = .type "StopIteration") →
        wpAny (model prog w) A (setField (Value.ref z) 0 .none) (fun _ s' => E (.ref e) s') E { s with heap := h3 } := fun h3 e g3 m3 ⟨o, ho, hc⟩ => by
      have ne : e ≠ z := fun k => by
        rw [k, g3] at ho
        cases ho
        simp at hc
      exact wpAny_setField_rec (s := { s with heap := h3 }) g3 (by simp) fun h4 _ s4 => q h4 e (fun c o n1 n2 n3 n4 k => s4.extBut _ _ n1 (m3 c o n1 n2 n3 n4 k)) ⟨o, s4.extBut _ _ ne ho, hc⟩
    cases ex : xs[k1]? with
    | none => exact nextOf_tuple_end (s := { s with heap := h2 }) hh ((j1.extBut s1.extBut D.i1z).extBut s2.extBut D.i1z) ((c1.extBut s1.extBut D.l1z).extBut s2.extBut D.l1z) ex fun h3 e s3 stop => back h3 e (s3 _ _ D.i1z.symm g2) (fun c o n1 _ n3 _ k => s3 _ _ n3 (s2.extBut _ _ n1 (m1 c o n1 k))) stop
    | some x =>
      have ey : ys[k2]? = none := ee.resolve_left fun k => by rw [ex] at k; cases k
      refine nextOf_tuple_item (s := { s with heap := h2 }) ((j1.extBut s1.extBut D.i1z).extBut s2.extBut D.i1z) ((c1.extBut s1.extBut D.l1z).extBut s2.extBut D.l1z) ex fun h3 p3 s3 => wpAny_pure ?_
      have o3 : IsPair h3 TO a b := s3.extBut _ _ D.TOi1 (s2.extBut _ _ D.TOz (m1 _ _ D.TOz t2))
      apply wpAny_bind
      apply wpAny_seqItems o3 rfl
      apply wpAny_bind
      refine wpAny_updateSeq_pair o3 fun h4 o4 s4 => ?_
      apply wpAny_bind
      refine wpAny_letGo (wpAny_pure ?_)
      apply wpAny_bind
      apply wpAny_bind
      apply wpAny_onRaise
      show wpAny _ _ (nextOf (Value.ref i2) >>= _) _ _ _
      apply wpAny_bind
      exact wpAny_nextOf_list_end (s := { s with heap := h4 }) hh ((((j2.extBut s1.extBut D.i2z).extBut s2.extBut D.i2z).extBut s3.extBut D.i12.symm).extBut s4.extBut D.TOi2.symm) ((((c2.extBut s1.extBut D.l2z).extBut s2.extBut D.l2z).extBut s3.extBut D.l2i1).extBut s4.extBut D.l2TO) ey fun h5 e s5 stop =>
        back h5 e (s5 _ _ D.i2z.symm (s4.extBut _ _ D.TOz.symm (s3.extBut _ _ D.i1z.symm g2))) (fun c o n1 n2 n3 n4 k => s5 _ _ n4 (s4.extBut _ _ n2 (s3.extBut _ _ n3 (s2.extBut _ _ n1 (m1 c o n1 k))))) stop
theorem next_turnM {Q : Option Value → Shared → Prop} (D : ZipApart z TI TO i1 i2 l1 l2) (g : ZAt s.heap z TI TO v f) (hv : Old v) (t1 : IsPair s.heap TI (.ref i1) (.ref i2)) (t2 : ∃ a b, IsPair s.heap TO a b)
    (j1 : s.heap.IsTupleIter i1 l1 k1) (j2 : s.heap.IsListIter i2 l2 k2) (c1 : s.heap.IsTuple l1 xs) (c2 : s.heap.IsList l2 ys) (ex : xs[k1]? = some x) (ey : ys[k2]? = some y)
    (q : ∀ h' v' f', Old v' → ZAt h' z TI TO v' f' → (∃ a b, IsPair h' TO a b) → h'.IsTupleIter i1 l1 (k1 + 1) → h'.IsListIter i2 l2 (k2 + 1) → IsPair h' s.heap.objs.size x y → h'.objs.size = s.heap.objs.size + 1 →
      (∀ c o, c ≠ z → c ≠ TO → c ≠ i1 → c ≠ i2 → s.heap.get? c = some o → h'.get? c = some o) → Q (some (.ref s.heap.objs.size)) { s with heap := h' }) : wpAny (model prog w) A (pyNext (Value.ref z)) Q E s := by
  have ty : s.TypeIs (Value.ref z) "zip" := ⟨_, g, rfl⟩
  unfold pyNext
  apply wpAny_bind
  apply wpAny_attempt
  refine wpAny_callSpecial?_slot (name := Str.ofString "__next__") ty F.slot_zip_next ?_
  refine wpAny_call_entry F.slot_zip_next ty F.entry_zip_next ?_ (F.args_zip_next_1 _)
  exact zip_turnM D g hv t1 t2 j1 j2 c1 c2 ex ey fun h' v' f' b1 b2 b3 b4 b5 b6 b7 b8 => wpAny_pure (q h' v' f' b1 b2 b3 b4 b5 b6 b7 b8)
theorem next_overM {Q : Option Value → Shared → Prop} (hh : A.handled = none) (D : ZipApart z TI TO i1 i2 l1 l2) (g : ZAt s.heap z TI TO v f) (hv : Old v) (t1 : IsPair s.heap TI (.ref i1) (.ref i2)) (t2 : ∃ a b, IsPair s.heap TO a b)
    (j1 : s.heap.IsTupleIter i1 l1 k1) (j2 : s.heap.IsListIter i2 l2 k2) (c1 : s.heap.IsTuple l1 xs) (c2 : s.heap.IsList l2 ys) (ee : xs[k1]? = none ∨ ys[k2]? = none)
    (q : ∀ h', (∀ c o, c ≠ z → c ≠ TO → c ≠ i1 → c ≠ i2 → s.heap.get? c = some o → h'.get? c = some o) → Q none { s with heap := h' }) : wpAny (model prog w) A (pyNext (Value.ref z)) Q E s := by
  have ty : s.TypeIs (Value.ref z) "zip" := ⟨_, g, rfl⟩
  unfold pyNext
  apply wpAny_bind
  apply wpAny_attempt
  refine wpAny_callSpecial?_slot (name := Str.ofString "__next__") ty F.slot_zip_next ?_
  refine wpAny_call_entry F.slot_zip_next ty F.entry_zip_next ?_ (F.args_zip_next_1 _)
  refine zip_overM hh D g hv t1 t2 j1 j2 c1 c2 ee fun h' e kp ⟨o, ho, hc⟩ => ?_
  apply wpAny_bind
  refine wpAny_isInstance (T := "StopIteration") (b := true) ⟨o, ho, hc⟩ isSubtype_stop ?_
  exact wpAny_pure (q _ kp)
/-- the pair that a name pattern took apart is let go -/
theorem zip_letGo {Q : Unit → Shared → Prop} {elts : List Expr} {kk : Nat} {pos : Pos} {T : Addr} (g : ZAt s.heap z TI TO v f) (hv : Old v)
    (q : ∀ h' v', Old v' → ZAt h' z TI TO v' f → Heap.SameBut z s.heap h' → Q () { s with heap := h' }) :
    wpAny (model prog w) A (letOwnedTupleGo (.Tuple elts kk pos) (.ref z) (.ref T)) Q E s := by
  unfold letOwnedTupleGo
  apply wpAny_bind
  refine wpAny_load g ?_
  dsimp only
  split
  · apply wpAny_bind
    apply wpAny_rule
    exact wpAny_setField_rec g (by simp) fun h' g' same => q h' .none (.inl rfl) g' same
  · exact wpAny_pure (q s.heap v hv g (Heap.SameBut.refl _ _))
end
/-- the tuple at a and the list at b as they stand at each turn, the items in new pairs -/
def ItzM (K : PySem.W.Frag) (a b : Addr) : It where
  go i H := ∃ (xs ys : List V) (x y : V), SqT K H a xs ∧ SqL K H b ys ∧ xs[i]? = some x ∧ ys[i]? = some y
  yld i H v H' := ∃ T x y, v = .ref T ∧ H T = none ∧ H' = upd H T (.tup [x, y]) ∧ (∀ xs, SqT K H a xs → xs[i]? = some x) ∧ ∀ ys, SqL K H b ys → ys[i]? = some y
  stop i H := ∃ xs ys : List V, SqT K H a xs ∧ SqL K H b ys ∧ (xs.length ≤ i ∨ ys.length ≤ i)
/-- the state of such a zip -/
def ZStM (a b z TI TO i1 i2 : Addr) (i : Nat) (h : Heap) : Prop := (∃ v f, Old v ∧ ZAt h z TI TO v f) ∧ IsPair h TI (.ref i1) (.ref i2) ∧ (∃ x y, IsPair h TO x y) ∧ h.IsTupleIter i1 a i ∧ h.IsListIter i2 b i
theorem of5 {c z TI TO i1 i2 : Addr} (h : c ∈ [z, TI, TO, i1, i2]) : c = z ∨ c = TI ∨ c = TO ∨ c = i1 ∨ c = i2 := by simpa using h
theorem turn_zipM {P : Program} {w : World} {K : PySem.W.Frag} {elts : List Expr} {kk : Nat} {tpos : Pos} {a b z TI TO i1 i2 : Addr} (D : ZipApart z TI TO i1 i2 a b) : Turn P w K (.Tuple elts kk tpos) (ItzM K a b) [z, TI, TO, i1, i2] z (ZStM a b z TI TO i1 i2) where
  mem := List.mem_cons_self
  obj := by
    rintro i h ⟨⟨v, f, _, g⟩, t1, ⟨x, y, t2⟩, ⟨o1, e1, _, d1⟩, o2, e2, _, d2⟩ c hc
    rcases of5 hc with rfl | rfl | rfl | rfl | rfl
    · exact ⟨_, g, fun v q => nomatch q⟩
    · exact ⟨_, t1, fun v q => nomatch q⟩
    · exact ⟨_, t2, fun v q => nomatch q⟩
    · exact ⟨o1, e1, fun v q => by rw [d1] at q; cases q⟩
    · exact ⟨o2, e2, fun v q => by rw [d2] at q; cases q⟩
  keep := by
    rintro i h h' ⟨⟨v, f, hv, g⟩, t1, ⟨x, y, t2⟩, j1, j2⟩ k
    exact ⟨⟨v, f, hv, k z (by simp) _ g⟩, k TI (by simp) _ t1, ⟨x, y, k TO (by simp) _ t2⟩, j1.at fun o q => k i1 (by simp) o q, j2.at fun o q => k i2 (by simp) o q⟩
  item := by
    rintro X rfl rfl rfl hc i pins s σ H E I hf ⟨⟨v, f, hv, g⟩, t1, t2, j1, j2⟩ ⟨xs, ys, x, y, sx, sy, ex, ey⟩
    obtain ⟨us, rx, px, _⟩ := I.tuple sx
    obtain ⟨ws, ry, py, _⟩ := I.list sy
    obtain ⟨u, eu, ru⟩ := rx.get ex
    obtain ⟨u', eu', ru'⟩ := ry.get ey
    refine next_turnM D g hv t1 t2 j1 j2 (show s.heap.IsTuple a us.toArray from px) (show s.heap.IsList b ws.toArray from py.isList) (x := u) (y := u') (by simpa using eu) (by simpa using eu') fun h1 v1 f1 hv1 g1 t21 j11 j21 new1 len1 kp1 => ⟨_, rfl, ?_⟩
    refine zip_letGo (s := { s with heap := h1 }) g1 hv1 fun h' v' hv' g' sb => ?_
    have zl : z < s.heap.objs.size := Heap.lt_size g
    have kp : ∀ c o, c ≠ z → c ≠ TO → c ≠ i1 → c ≠ i2 → s.heap.get? c = some o → h'.get? c = some o := fun c o n1 n2 n3 n4 e => sb.extBut _ _ n1 (kp1 c o n1 n2 n3 n4 e)
    have new : IsPair h' s.heap.objs.size u u' := sb.extBut _ _ (Nat.ne_of_gt zl) new1
    have ok : ObjOk X.prog X.w (upd H s.heap.objs.size (.tup [x, y])) h' s.heap.objs.size (.tup [x, y]) := ⟨(by decide : 2 ≤ sizeLine), [u, u'], .cons ru (.cons ru' .nil), ⟨_, new, rfl, _, rfl⟩⟩
    have off : ∀ c o, c ∉ [z, TI, TO, i1, i2] → s.heap.get? c = some o → h'.get? c = some o := fun c o n e => kp c o (fun q => n (by simp [q])) (fun q => n (by simp [q])) (fun q => n (by simp [q])) (fun q => n (by simp [q])) e
    have I' : Inv X pins σ (upd H s.heap.objs.size (.tup [x, y])) { s with heap := h' } := I.turnedNew (t' := s.toks) (ch := [z, TI, TO, i1, i2]) off hf (Nat.le_refl _) ok
    have young : ∀ c, c ∈ [z, TI, TO, i1, i2] → c < s.heap.objs.size := by
      obtain ⟨x0, y0, t2⟩ := t2
      obtain ⟨_, e1, _⟩ := j1
      obtain ⟨_, e2, _⟩ := j2
      intro c hc
      rcases of5 hc with rfl | rfl | rfl | rfl | rfl
      · exact Heap.lt_size g
      · exact Heap.lt_size t1
      · exact Heap.lt_size t2
      · exact Heap.lt_size e1
      · exact Heap.lt_size e2
    obtain ⟨x2, y2, t22⟩ := t21
    refine ⟨.ref s.heap.objs.size, _, I', rfl, ⟨_, x, y, rfl, I.hok.fresh (Nat.le_refl _), rfl, fun l hl => ?_, fun l hl => ?_⟩, ⟨⟨v', f1, hv', g'⟩, kp _ _ D.TIz D.TITO D.TIi1 D.TIi2 t1, ⟨x2, y2, sb.extBut _ _ D.TOz t22⟩, j11.extBut sb.extBut D.i1z, j21.extBut sb.extBut D.i2z⟩, fun c hc => ?_⟩
    · rw [I.tuple_inj hl sx]
      exact ex
    · rw [I.list_inj hl sy]
      exact ey
    · rw [upd_ne (Nat.ne_of_lt (young c hc))]
      exact (hf c hc).1
  done := by
    rintro X rfl rfl rfl hc i pins s σ H E I hf ⟨⟨v, f, hv, g⟩, t1, t2, j1, j2⟩ ⟨xs, ys, sx, sy, he⟩
    obtain ⟨us, rx, px, _⟩ := I.tuple sx
    obtain ⟨ws, ry, py, _⟩ := I.list sy
    have n1 := rx.length
    have n2 := ry.length
    refine next_overM (I.ok.hd hc) D g hv t1 t2 j1 j2 (show s.heap.IsTuple a us.toArray from px) (show s.heap.IsList b ws.toArray from py.isList) ?_ fun h' kp => ⟨rfl, I.turnedL (t' := s.toks) (ch := [z, TI, TO, i1, i2]) (fun c o n e => kp c o (fun q => n (by simp [q])) (fun q => n (by simp [q])) (fun q => n (by simp [q])) (fun q => n (by simp [q])) e) hf⟩
    rcases he with q | q
    · exact .inl (by simp; omega)
    · exact .inr (by simp; omega)
  self := by
    rintro A i s Q E ⟨⟨v, f, _, g⟩, _⟩ h
    have ty : s.TypeIs (Value.ref z) "zip" := ⟨_, g, rfl⟩
    refine wpAny_pyIter_slot ty F.slot_zip_iter ?_
    refine wpAny_call_entry F.slot_zip_iter ty F.entry_zip_iter ?_ (F.args_zip_iter_1 _)
    show wpAny _ _ (ret (Value.ref z)) _ _ s
    exact wpAny_pure ⟨_, rfl, "zip", _, ty, F.slot_zip_next.lookup, h⟩
/-- what zip(t, l) makes, its objects one after another -/
def zObjs (n a b : Addr) : List Obj := [{ cls := .type "tuple_iterator", data := .fields #[.ref a, .int 0 0] }, { cls := .type "list_iterator", data := .fields #[.ref b, .int 0 0] },
  { cls := .type "tuple", data := .seq #[.ref n, .ref (n + 1)] }, { cls := .type "tuple", data := .seq #[.none, .none] }, { cls := .type "zip", data := .fields #[.none, .bool false, .bool false, .ref (n + 2), .ref (n + 3)] }]
theorem pushes_keep (c : Addr) (o : Obj) (os : List Obj) : ∀ h : Heap, h.get? c = some o → (os.foldl Heap.push h).get? c = some o := by
  induction os with
  | nil => exact fun h e => e
  | cons p os ih => exact fun h e => ih _ (Heap.get?_push_of_some _ e)
theorem pushes_get (o : Obj) (hf : o.isFreed = false) (os : List Obj) : ∀ (i : Nat) (h : Heap), os[i]? = some o → (os.foldl Heap.push h).get? (h.objs.size + i) = some o := by
  induction os with
  | nil => exact fun i h e => by simp at e
  | cons p os ih =>
    intro i h e
    cases i with
    | zero =>
      have e : p = o := by simpa using e
      subst e
      exact pushes_keep _ p os (h.push p) (Heap.get?_push_size h hf)
    | succ i =>
      have := ih i (h.push p) (by simpa using e)
      rw [Heap.size_push] at this
      rw [show h.objs.size + (i + 1) = h.objs.size + 1 + i by omega]
      exact this
theorem meets_zipM (a b : Addr) (xs ys : Array Value) :
    Meets (Builtin.«zip.__new__» ⟨[.type "zip", .ref a, .ref b], []⟩) fun _ R s => s.heap.IsTuple a xs ∧ s.heap.IsList b ys ∧
      R (.ok (.ret (.ref (s.heap.objs.size + 4)))) { s with heap := (zObjs s.heap.objs.size a b).foldl Heap.push s.heap } := by
  apply Meets.of_wp
  rintro prog w A R ⟨h, g, d, tk, os⟩ ⟨c1, c2, q⟩
  have sub := sub_zip
  have d1 : Heap.IsTuple (Shared.heap ⟨h, g, d, tk, os⟩) a xs := c1
  have d2 : Heap.IsList (Shared.heap ⟨h.push { cls := .type "tuple_iterator", data := .fields #[.ref a, .int 0 0] }, g, d, tk, os⟩) b ys := c2.at fun o e => Heap.get?_push_of_some _ e
  simp only [zObjs, List.foldl_cons, List.foldl_nil] at q
  wp_walk using wpAny_pyIter_tuple d1, wpAny_pyIter_list d2
  simp only [Heap.size_push, Nat.add_assoc, Nat.reduceAdd]
  exact ⟨_, rfl, q⟩
section
variable {prog : Program} {w : World} {A : Around} {E : Value → Shared → Prop} {s : Shared}
theorem call_zipM {a b : Addr} {xs ys : Array Value} {Q : Value → Shared → Prop} (c1 : s.heap.IsTuple a xs) (c2 : s.heap.IsList b ys)
    (q : ∀ h', ZStM a b (s.heap.objs.size + 4) (s.heap.objs.size + 2) (s.heap.objs.size + 3) s.heap.objs.size (s.heap.objs.size + 1) 0 h' → (∀ c o, s.heap.get? c = some o → h'.get? c = some o) → Q (.ref (s.heap.objs.size + 4)) { s with heap := h' }) :
    wpAny (model prog w) A (call (.type "zip") [.ref a, .ref b]) Q E s := by
  have at' : ∀ i o, (zObjs s.heap.objs.size a b)[i]? = some o → o.isFreed = false → ((zObjs s.heap.objs.size a b).foldl Heap.push s.heap).get? (s.heap.objs.size + i) = some o := fun i o e hf => pushes_get o hf _ i _ e
  have g4 := at' 4 _ rfl rfl
  refine callType_new F.called_zip (by decide) (F.typeCall_zip_2 _ _) (F.newCall_zip_2 _ _) (fun obj => F.args_object_init_3 obj _ _) F.entry_zip_new (meets_zipM a b xs ys) ⟨c1, c2, ?_⟩
  refine ⟨⟨_, g4, rfl⟩, q _ ⟨⟨.none, false, .inl rfl, g4⟩, at' 2 _ rfl rfl, ⟨_, _, at' 3 _ rfl rfl⟩, ⟨_, at' 0 _ rfl rfl, rfl, rfl⟩, ⟨_, at' 1 _ rfl rfl, rfl, rfl⟩⟩ fun c o => pushes_keep c o _ _⟩
end
def iZipTM (K : PySem.W.Frag) (ta : TA) : TI := fun σ H R => ta σ H fun vs H1 => ∃ a b xs ys, vs = [.ref a, .ref b] ∧ SqT K H1 a xs ∧ SqL K H1 b ys ∧ R (ItzM K a b) H1
theorem pi_zipM {X : Cx} {e e2 : Expr} {ta : TA} {p pos tpos : Pos} {elts : List Expr} {kk : Nat} (hg : Gl X "zip") (hm : X.mg "zip" = none) (ha : PA X [e, e2] ta)
    (hs : starEach [e, e2] X.env = (false, eval e X.env) :: starEach [e2] X.env := by rfl) (hpl : (backTo pos (starEach [e2] X.env)).any (·.1) = false := by rfl) :
    PI X (.Tuple elts kk tpos) (.Call (.Name "zip" p) [e, e2] [] pos) (iZipTM X.K ta) := by
  constructor
  intro pins s σ H R I h
  refine Call_ (ld_blt I hg hm PyProof.Rows.boot_zip ?_)
  refine PyProof.Rows.callWith_type1 (thn (ha.run pos pins s σ H _ I h) fun us s1 ⟨vs, H1, I1, r1, a, b, xs, ys, ev, sx, sy, q⟩ => ?_) hs hpl
  subst ev
  obtain ⟨u, u', rfl, ru, ru'⟩ := Vals.two r1
  cases ru
  cases ru'
  obtain ⟨its, _, px, _⟩ := I1.tuple sx
  obtain ⟨jts, _, py, _⟩ := I1.list sy
  have free : ∀ c, s1.heap.objs.size ≤ c → FpOk X pins H1 c := fun c hc => I1.fpOk hc (I1.hok.fresh hc)
  refine call_zipM (show s1.heap.IsTuple a its.toArray from px) (show s1.heap.IsList b jts.toArray from py.isList) fun h' st kp => ?_
  obtain ⟨⟨v, f, _, g⟩, _⟩ := id st
  have ty : Shared.TypeIs { s1 with heap := h' } (Value.ref (s1.heap.objs.size + 4)) "zip" := ⟨_, g, rfl⟩
  refine wpAny_pyIter_slot ty F.slot_zip_iter ?_
  refine wpAny_call_entry F.slot_zip_iter ty F.entry_zip_iter ?_ (F.args_zip_iter_1 _)
  show wpAny _ _ (ret (Value.ref (s1.heap.objs.size + 4))) _ _ _
  refine wpAny_pure ⟨_, rfl, "zip", _, ty, F.slot_zip_next.lookup, ?_⟩
  have la : a < s1.heap.objs.size := let ⟨_, e, _⟩ := px; Heap.lt_size e
  have lb : b < s1.heap.objs.size := py.lt
  refine ⟨s1.heap.objs.size + 4, [s1.heap.objs.size + 4, s1.heap.objs.size + 2, s1.heap.objs.size + 3, s1.heap.objs.size, s1.heap.objs.size + 1], ZStM a b _ _ _ _ _, _, H1, rfl, I1.kept (t' := s1.toks) kp, turn_zipM (PySem.W.ktu_apart s1.heap.objs.size a b la lb), st, fun c hc => ?_, q⟩
  rcases of5 hc with rfl | rfl | rfl | rfl | rfl
  · exact free _ (Nat.le_add_right _ _)
  · exact free _ (Nat.le_add_right _ _)
  · exact free _ (Nat.le_add_right _ _)
  · exact free _ (Nat.le_refl _)
  · exact free _ (Nat.le_add_right _ _)
end Fx
/-! for i, x in enumerate(t), t a tuple -/
namespace Rw
open PySem PySem.Spec PyProof.Rows L2
open Builtin
theorem enumNew {v : Value} {o : Obj} {G : Heap → Prop} (B : Begins v o G) :
    Meets (Builtin.«enumerate.__new__» ⟨[.type "enumerate", v], []⟩) (fun _ R s =>
      G s.heap ∧ R (.ok (.ret (.ref (s.heap.objs.size + 1))))
        { s with heap := (s.heap.push o).push ⟨.type "enumerate", none, .fields #[.none, .bool false, .ref s.heap.objs.size, rawInt 0, .none, .none], #[]⟩ }) :=
  .of_wp fun prog w A R s both => by
    obtain ⟨hp, g, d, tk, os⟩ := s
    obtain ⟨hg, both⟩ := both
    have isub := sub_enumerate
    have sz : (hp.push o).objs.size = hp.objs.size + 1 := Heap.size_push ..
    have it1 : ∀ {A' : Around} {E : Value → Shared → Prop} {Q : Value → Shared → Prop},
        Q (.ref hp.objs.size) ⟨hp.push o, g, d, tk, os⟩ → wpAny (model prog w) A' (pyIter v) Q E ⟨hp, g, d, tk, os⟩ :=
      fun q => B.iter prog w _ _ ⟨hp, g, d, tk, os⟩ _ hg q
    wp_walk using it1
    refine wpAny_stack_any fun st => wpAny_pure ?_
    split
    · rename_i c _ _ _ _ _
      cases (c == Value.type "enumerate") <;> (wp_walk using it1; exact ⟨_, rfl, by rw [sz]; exact both⟩)
    · wp_walk using it1
      exact ⟨_, rfl, by rw [sz]; exact both⟩
theorem enumCall {prog : Program} {w : World} {A : Around} {E : Value → Shared → Prop} {s : Shared}
    {v : Value} {o : Obj} {G : Heap → Prop} {Q : Value → Shared → Prop} (B : Begins v o G) (hg : G s.heap)
    (h : ∀ h', IsEnum h' (s.heap.objs.size + 1) s.heap.objs.size 0 .none → h'.get? s.heap.objs.size = some o →
      (∀ b ob, s.heap.get? b = some ob → h'.get? b = some ob) → Q (.ref (s.heap.objs.size + 1)) { s with heap := h' }) :
    wpAny (model prog w) A (call (.type "enumerate") [v]) Q E s := by
  have sz : (s.heap.push o).objs.size = s.heap.objs.size + 1 := Heap.size_push ..
  have at1 : IsEnum ((s.heap.push o).push ⟨.type "enumerate", none, .fields #[.none, .bool false, .ref s.heap.objs.size, rawInt 0, .none, .none], #[]⟩)
      (s.heap.objs.size + 1) s.heap.objs.size 0 .none := by
    have z := Heap.get?_push_size (s.heap.push o) (o := ⟨.type "enumerate", none, .fields #[.none, .bool false, .ref s.heap.objs.size, rawInt 0, .none, .none], #[]⟩) rfl
    rw [sz] at z
    exact z
  refine callType_new F.called_enumerate (by decide) (F.typeCall_enumerate_1 _) (F.newCall_enumerate_1 _) (fun obj => F.args_object_init_2 obj _)
    F.entry_enumerate_new (enumNew B) ⟨hg, ⟨_, at1, rfl⟩, h _ at1 ?_ ?_⟩
  · exact Heap.get?_push_of_some _ (Heap.get?_push_size _ B.free)
  · exact fun b ob x => Heap.get?_push_of_some _ (Heap.get?_push_of_some _ x)
/-- the tuple at a, each item in a new pair with its place -/
def ItE (K : PySem.W.Frag) (a : Addr) : It where
  go := fun i H => ∃ xs x, SqT K H a xs ∧ xs[i]? = some x
  yld := fun i H v H' => ∃ T x, v = .ref T ∧ H T = none ∧ H' = upd H T (.tup [.int (i : Nat), x]) ∧ ∀ xs, SqT K H a xs → xs[i]? = some x
  stop := fun i H => ∃ xs : List V, SqT K H a xs ∧ xs.length = i
theorem turnE {P : Program} {w : World} {K : PySem.W.Frag} {elts : List Expr} {kk : Nat} {tpos : Pos} (a e it : Addr) (hai : a ≠ it) (hea : e ≠ a) :
    Turn P w K (.Tuple elts kk tpos) (ItE K a) [e, it] e
      (fun i h => (∃ old, IsEnum h e it ((i : Nat) : Int) old) ∧ h.IsTupleIter it a i ∧ e ≠ it) where
  mem := List.mem_cons_self
  obj := by
    rintro i h ⟨⟨old, he⟩, ⟨o, ho, _, hd⟩, _⟩ b hb
    rcases List.mem_cons.mp hb with rfl | hb
    · exact ⟨_, he, fun v q => nomatch q⟩
    · obtain rfl := List.mem_singleton.mp hb
      exact ⟨o, ho, fun v q => by rw [hd] at q; cases q⟩
  keep := by
    rintro i h h' ⟨⟨old, he⟩, hi, hne⟩ k
    exact ⟨⟨old, k e List.mem_cons_self _ he⟩, hi.at fun o q => k it (List.mem_cons_of_mem _ List.mem_cons_self) o q, hne⟩
  item := by
    rintro X rfl rfl rfl hc i pins s σ H E I hf ⟨⟨old, he⟩, hit, hne⟩ ⟨xs, x, hq, hx⟩
    obtain ⟨its, rv, p, hz⟩ := I.tuple hq
    obtain ⟨u, hu, ru⟩ := rv.get hx
    have hel : e < s.heap.objs.size := Heap.lt_size he
    have hil : it < s.heap.objs.size := by
      obtain ⟨_, q, _⟩ := hit
      exact Heap.lt_size q
    have hlt : i < its.toArray.size := by
      have := (List.getElem?_eq_some_iff.mp hu).1
      simpa using this
    have D := Draws.tuple (prog := X.prog) (w := X.w) (A := X.A.in1) (I.ok.hd hc) it a hai its.toArray
    refine wpAny_pyNext_enum_itemD D he ⟨hit, p⟩ hlt hne (by simp [hne, hea]) fun y h' tk hy ho hit' hT hsz hk => ?_
    have yu : y = u := by
      have hy' : its[i]? = some y := by simpa using hy
      rw [hu] at hy'
      exact (Option.some.inj hy').symm
    subst yu
    refine ⟨_, rfl, wpAny_letOwnedTupleGo_enum (s := { s with heap := h', toks := tk + 1 }) ho fun h'' he' sb => ?_⟩
    have hT2 : h''.get? s.heap.objs.size = some { cls := .type "tuple", data := .seq #[.int i tk, y] } := (sb.2 _ (Nat.ne_of_gt hel)).trans hT
    have new : ObjOk X.prog X.w (upd H s.heap.objs.size (.tup [.int (i : Nat), x])) h'' s.heap.objs.size (.tup [.int (i : Nat), x]) :=
      ⟨(by decide : 2 ≤ sizeLine), [.int i tk, y], .cons ⟨_, rfl⟩ (.cons ru .nil), ⟨_, hT2, rfl, _, rfl⟩⟩
    have nin : ∀ b, b ∉ [e, it] → b ≠ e ∧ b ≠ it := fun b hb => ⟨fun z => hb (z ▸ List.mem_cons_self), fun z => hb (z ▸ List.mem_cons_of_mem _ List.mem_cons_self)⟩
    have I1 : Inv X pins σ (upd H s.heap.objs.size (.tup [.int (i : Nat), x])) { s with heap := h'', toks := tk + 1 } :=
      I.turnedNew (ch := [e, it]) (fun b ob hb q => (sb.2 b (nin b hb).1).trans (hk b ob (nin b hb).1 (nin b hb).2 q)) hf (Nat.le_refl _) new
    refine ⟨.ref s.heap.objs.size, _, I1, rfl, ⟨_, x, rfl, I.hok.fresh (Nat.le_refl _), rfl, fun ys hy2 => by rw [I.tuple_inj hy2 hq]; exact hx⟩, ⟨⟨y, ?_⟩, hit'.1.at fun o q => (sb.2 it (Ne.symm hne)).trans q, hne⟩, fun b hb => ?_⟩
    · have e1 : ((i + 1 : Nat) : Int) = (i : Int) + 1 := by omega
      rw [e1]
      exact he'
    · have hb' : b < s.heap.objs.size := by
        rcases List.mem_cons.mp hb with rfl | hb
        · exact hel
        · obtain rfl := List.mem_singleton.mp hb
          exact hil
      rw [upd_ne (Nat.ne_of_lt hb')]
      exact (hf b hb).1
  done := by
    rintro X rfl rfl rfl hc i pins s σ H E I hf ⟨⟨old, he⟩, hit, hne⟩ ⟨xs, hq, hx⟩
    obtain ⟨its, rv, p, hz⟩ := I.tuple hq
    have D := Draws.tuple (prog := X.prog) (w := X.w) (A := X.A.in1) (I.ok.hd hc) it a hai its.toArray
    obtain ⟨f0, f1, f2, f3, f4, f5⟩ := hf it (List.mem_cons_of_mem _ List.mem_cons_self)
    have hl := rv.length
    have e1 : i = its.toArray.size := by simp only [List.size_toArray]; omega
    refine wpAny_pyNext_enum_endD D he (e1 ▸ ⟨hit, p⟩) fun h' eb => ⟨rfl, I.turned (t' := s.toks) (fun b o hb q => eb b o hb q) f0 f1 f3 f4 f5⟩
  self := by
    rintro A i s Q E ⟨⟨_, he⟩, _⟩ h
    exact wpAny_pyIter_enum he h
def iEnumT (K : PySem.W.Frag) (ta : TA) : TI := fun σ H R => ta σ H fun vs H1 => ∃ a xs, vs = [.ref a] ∧ SqT K H1 a xs ∧ R (ItE K a) H1
theorem pi_enumT {X : Cx} {e : Expr} {ta : TA} {p pos tpos : Pos} {elts : List Expr} {kk : Nat} (hg : Gl X "enumerate") (hm : X.mg "enumerate" = none) (ha : PA X [e] ta)
    (hs : starEach [e] X.env = [(false, eval e X.env)] := by rfl) : PI X (.Tuple elts kk tpos) (.Call (.Name "enumerate" p) [e] [] pos) (iEnumT X.K ta) := by
  refine ⟨fun pins s σ H R I h => ?_⟩
  refine Call_ (ld_blt I hg hm boot_enumerate (PyProof.Rows.callWith_type1 (thn (ha.run pos pins s σ H _ I h) ?_) hs rfl))
  rintro us s1 ⟨vs, H1, I1, r1, a, xs, rfl, hq, q⟩
  obtain ⟨u, rfl, ru⟩ := vals1 r1
  cases ru
  obtain ⟨its, rv, p', hz⟩ := I1.tuple hq
  have hal : a < s1.heap.objs.size := by
    obtain ⟨_, q, _⟩ := p'
    exact Heap.lt_size q
  refine enumCall (begins_tuple a its.toArray) p' fun h' he hit hk => wpAny_pyIter_enum he ?_
  have I2 : Inv X pins σ H1 { s1 with heap := h' } := I1.kept (t' := s1.toks) hk
  refine ⟨s1.heap.objs.size + 1, [s1.heap.objs.size + 1, s1.heap.objs.size], _, _, H1, rfl, I2,
    turnE a (s1.heap.objs.size + 1) s1.heap.objs.size (Nat.ne_of_lt hal) (Nat.ne_of_gt (Nat.lt_succ_of_lt hal)),
    ⟨⟨.none, he⟩, ⟨_, hit, rfl, rfl⟩, Nat.succ_ne_self _⟩, fun b hb => ?_, q⟩
  have hle : s1.heap.objs.size ≤ b := by
    rcases List.mem_cons.mp hb with rfl | hb
    · exact Nat.le_succ _
    · exact Nat.le_of_eq (List.mem_singleton.mp hb).symm
  exact I1.fpOk hle (I1.hok.fresh hle)
end Rw
/-! what is walked, comprehensions -/
namespace Fx
open PySem PySem.Spec PyProof.Rows L2
section
variable {X : Cx} {tg e : Expr} {w1 w2 : TI}
theorem PI.or (h1 : PI X tg e w1) (h2 : PI X tg e w2) : PI X tg e (fun σ H R => w1 σ H R ∨ w2 σ H R) :=
  ⟨fun pins s σ H R I h => h.elim (h1.run pins s σ H R I) (h2.run pins s σ H R I)⟩
end
def iSeqT (K : PySem.W.Frag) (tl : TE) : TI := fun σ H R => iList K tl σ H R ∨ iTup K tl σ H R
def iEnumG (K : PySem.W.Frag) (ta : TA) : TI := fun σ H R => iEnum K ta σ H R ∨ Rw.iEnumT K ta σ H R
section
variable {c : Cfg} {W : WX} {B : Base} {ts : En} {vs : List (Option V)} {ρ : En} {σ : L2.St} {H : Hp} {te : TE} {fe : M S} {tA : TA} {fA : M (List D)}
/-- the first that waits, opened, still waiting -/
theorem Rep.top {x : D} {v : V} (r : Rep c B (some (.d x) :: ts) (some v :: vs) ρ σ H) : ∃ G, Opn c B (some (.d x) :: ts) (some v :: vs) ρ σ H G ∧ Rp c G v x := by
  obtain ⟨G, o1, o2, k, h1, h2⟩ := id r
  cases h1 with
  | d hv h1 =>
    refine ⟨G, ⟨k.sub, fun hv' => ⟨G, o1, o2, k, .d hv' (.d hv h1), h2⟩, fun {p o x} hp ho hx => ?_, fun {p o x} hp hx => ?_⟩, hv⟩
    · have gp := k.gnone hp
      have ow := own_new (o := o) k hp
      exact ⟨upd G p o, o1, o2, k.alloc hp ho, .d (hx _ (upd_sub gp) upd_same) (.d (hv.mono (upd_sub gp)) (h1.mono (upd_sub gp) fun q hq => ow q (List.mem_append_left _ hq))), h2.mono (upd_sub gp) fun q hq => ow q (List.mem_append_right _ hq)⟩
    · have ow := own_new (o := o) k hp
      exact ⟨G, p :: o1, o2, k.allocO hp, .o (hx _ upd_same) (fun _ e => nomatch e) (.d hv (h1.mono (fun _ _ e => e) fun q hq => ow q (List.mem_append_left _ hq))), h2.mono (fun _ _ e => e) fun q hq => ow q (List.mem_append_right _ hq)⟩
theorem Rep.top2 {x y : D} {v w : V} (r : Rep c B (some (.d y) :: some (.d x) :: ts) (some w :: some v :: vs) ρ σ H) : ∃ G, Opn c B (some (.d y) :: some (.d x) :: ts) (some w :: some v :: vs) ρ σ H G ∧ Rp c G v x ∧ Rp c G w y := by
  obtain ⟨G, o1, o2, k, h1, h2⟩ := id r
  cases h1 with
  | d hw h1 =>
    cases h1 with
    | d hv h1 =>
      refine ⟨G, ⟨k.sub, fun hv' => ⟨G, o1, o2, k, .d hv' (.d hw (.d hv h1)), h2⟩, fun {p o x} hp ho hx => ?_, fun {p o x} hp hx => ?_⟩, hv, hw⟩
      · have gp := k.gnone hp
        have ow := own_new (o := o) k hp
        exact ⟨upd G p o, o1, o2, k.alloc hp ho, .d (hx _ (upd_sub gp) upd_same) (.d (hw.mono (upd_sub gp)) (.d (hv.mono (upd_sub gp)) (h1.mono (upd_sub gp) fun q hq => ow q (List.mem_append_left _ hq)))), h2.mono (upd_sub gp) fun q hq => ow q (List.mem_append_right _ hq)⟩
      · have ow := own_new (o := o) k hp
        exact ⟨G, p :: o1, o2, k.allocO hp, .o (hx _ upd_same) (fun _ e => nomatch e) (.d hw (.d hv (h1.mono (fun _ _ e => e) fun q hq => ow q (List.mem_append_left _ hq)))), h2.mono (fun _ _ e => e) fun q hq => ow q (List.mem_append_right _ hq)⟩
/-- how a list, a tuple is read -/
def SqI (K : PySem.W.Frag) (l : Bool) (H : Hp) (a : Addr) (us : List V) : Prop := if l then SqL K H a us else SqT K H a us
def isLst : D → Bool
  | .lst _ => true
  | _ => false
theorem Rp.seq {G H : Hp} {v : V} {x : D} {ds : List D} (s : ∀ a o, G a = some o → H a = some o) (h : Rp c G v x) (e : itemsD x = some ds) : ∃ a us, v = .ref a ∧ SqI c.K (isLst x) H a us ∧ RpAll c G us ds := by
  cases x <;> first | cases e | skip
  · obtain ⟨a, us, rfl, ha, k⟩ := h.tupE
    exact ⟨a, us, rfl, SqT.up s ha, k⟩
  · obtain ⟨a, us, rfl, ha, k⟩ := h.lstE
    exact ⟨a, us, rfl, SqL.of (s _ _ ha), k⟩
/-- one whose items are ds, at a -/
def SrcAt (c : Cfg) (l : Bool) (n : Nat) (a : Addr) (H : Hp) : Prop := ∃ us, SqI c.K l H a us ∧ us.length = n
theorem src_of {x : D} {a : Addr} {ds : List D} (e : itemsD x = some ds) (r : Rep c B (some (.d x) :: ts) (some (.ref a) :: vs) ρ σ H) : SrcAt c (isLst x) ds.length a H := by
  obtain ⟨G, O, h⟩ := r.top
  obtain ⟨a', us, e1, h1, k⟩ := h.seq O.sub e
  cases e1
  exact ⟨us, h1, k.length⟩
/-- the turn's item, by any reading of the source -/
def TurnAt (c : Cfg) (l : Bool) (a : Addr) (k : Nat) (H : Hp) (x : V) : Prop := ∀ us, SqI c.K l H a us → us[k]? = some x
theorem turn_val {x : D} {a : Addr} {ds : List D} {k : Nat} {v : V} (e : itemsD x = some ds) (hk : k < ds.length) (r : Rep c B (some (.d x) :: ts) (some (.ref a) :: vs) ρ σ H) (t : TurnAt c (isLst x) a k H v) :
    ∃ d, ds[k]? = some d ∧ Rep c B (some (.d d) :: some (.d x) :: ts) (some v :: some (.ref a) :: vs) ρ σ H := by
  obtain ⟨G, O, h⟩ := r.top
  obtain ⟨a', us, e1, h1, kk⟩ := h.seq O.sub e
  cases e1
  obtain ⟨d, ed, hd⟩ := kk.getV (t us h1)
  exact ⟨d, ed, O.val hd⟩
theorem walk_seq {x : D} {a : Addr} {ds : List D} {J : It} (e : itemsD x = some ds) (hgo : ∀ i H, (∃ us y, SqI c.K (isLst x) H a us ∧ us[i]? = some y) → J.go i H) (hst : ∀ i H, (∃ us, SqI c.K (isLst x) H a us ∧ us.length = i) → J.stop i H)
    (hy : ∀ i H y H', J.yld i H y H' → H' = H ∧ TurnAt c (isLst x) a i H y) : IsWalk c [x] [.ref a] J ds := by
  refine ⟨ds.length, SrcAt c (isLst x) ds.length a, fun i H y H' => H' = H ∧ TurnAt c (isLst x) a i H y, ⟨?_, ?_, ?_⟩, rfl, fun B ts vs ρ σ H r => src_of e r, ?_⟩
  · rintro i H hi ⟨us, h1, h2⟩
    exact hgo i H ⟨us, us[i]'(by omega), h1, List.getElem?_eq_getElem (by omega)⟩
  · rintro H ⟨us, h1, h2⟩
    exact hst _ H ⟨us, h1, h2⟩
  · intro i H y H' _ _ h
    exact hy i H y H' h
  · rintro B ts vs ρ σ H k y H' hk r ⟨rfl, t⟩
    exact turn_val e hk r t
theorem di_seq (h : Den c W te fe) : DenI c W (iSeqT c.K te) (iSeq fe) := fun B ts vs ρ σ H R r q => by
  unfold iSeq at q
  rw [post_then] at q
  cases hk : dv fe ρ with
  | stuck => rw [hk] at q; exact q.elim
  | err e ρ' =>
    refine .inl (h.dv r ?_)
    rw [hk] at q ⊢
    exact q
  | ok x ρ' =>
    rw [hk] at q
    have q : Post (OkI c B ts vs σ R) (ErrP c W B ts vs σ) (match itemsD x with
      | some ds => .ok ds ρ'
      | none => .stuck) := q
    cases e : itemsD x with
    | none => rw [e] at q; exact q.elim
    | some ds =>
      rw [e] at q
      have q : OkI c B ts vs σ R ds ρ' := q
      by_cases hl : isLst x = true
      · refine .inl (h.dv r ?_)
        rw [hk]
        intro v H' r'
        obtain ⟨G, O, hv⟩ := r'.top
        obtain ⟨a, us, rfl, h1, k⟩ := hv.seq O.sub e
        rw [hl] at h1
        refine ⟨a, rfl, ⟨us, h1⟩, q _ [x] [.ref a] H' rfl r' (walk_seq e ?_ ?_ ?_)⟩
        · rintro i H ⟨us, y, h1, h2⟩
          rw [hl] at h1
          exact ⟨us, y, h1, h2⟩
        · rintro i H ⟨us, h1, h2⟩
          rw [hl] at h1
          exact ⟨us, h1, by omega⟩
        · rintro i H y H' ⟨rfl, h2⟩
          rw [hl]
          exact ⟨rfl, fun us h => h2 us h⟩
      · have hl : isLst x = false := by simpa using hl
        refine .inr (h.dv r ?_)
        rw [hk]
        intro v H' r'
        obtain ⟨G, O, hv⟩ := r'.top
        obtain ⟨a, us, rfl, h1, k⟩ := hv.seq O.sub e
        rw [hl] at h1
        refine ⟨a, rfl, ⟨us, h1⟩, q _ [x] [.ref a] H' rfl r' (walk_seq e ?_ ?_ ?_)⟩
        · rintro i H ⟨us, y, h1, h2⟩
          rw [hl] at h1
          exact ⟨us, y, h1, h2⟩
        · rintro i H ⟨us, h1, h2⟩
          rw [hl] at h1
          exact ⟨us, h1, by omega⟩
        · rintro i H y H' ⟨rfl, h2⟩
          rw [hl]
          exact ⟨rfl, fun us h => h2 us h⟩
/-! ### enumerate, zip, reversed -/
def enumD (n : Nat) : List D → List D
  | [] => []
  | d :: ds => .tup [.int n, d] :: enumD (n + 1) ds
theorem enumD_length : ∀ (ds : List D) (n : Nat), (enumD n ds).length = ds.length
  | [], _ => rfl
  | d :: ds, n => by simp [enumD, enumD_length ds]
theorem enumD_get : ∀ (ds : List D) (n k : Nat) (d : D), ds[k]? = some d → (enumD n ds)[k]? = some (.tup [.int ((n + k : Nat) : Int), d])
  | [], _, _, _, e => by simp at e
  | d :: ds, n, 0, d', e => by simp at e; subst e; simp [enumD]
  | d :: ds, n, k + 1, d', e => by
    simp only [enumD, List.getElem?_cons_succ]
    rw [enumD_get ds (n + 1) k d' (by simpa using e), show n + 1 + k = n + (k + 1) by omega]
def zipD : List D → List D → List D
  | d :: ds, e :: es => .tup [d, e] :: zipD ds es
  | _, _ => []
theorem zipD_length : ∀ (ds es : List D), (zipD ds es).length = min ds.length es.length
  | [], _ => by simp [zipD]
  | _ :: _, [] => by simp [zipD]
  | d :: ds, e :: es => by simp [zipD, zipD_length ds es]
theorem zipD_get : ∀ (ds es : List D) (k : Nat) (d e : D), ds[k]? = some d → es[k]? = some e → (zipD ds es)[k]? = some (.tup [d, e])
  | [], _, _, _, _, h, _ => by simp at h
  | _ :: _, [], _, _, _, _, h => by simp at h
  | d :: ds, e :: es, 0, d', e', h, h' => by simp at h h'; subst h; subst h'; simp [zipD]
  | d :: ds, e :: es, k + 1, d', e', h, h' => by
    simp only [zipD, List.getElem?_cons_succ]
    exact zipD_get ds es k d' e' (by simpa using h) (by simpa using h')
def iEnu (fA : M (List D)) : M (List D) := fun ρ => (fA ρ).then fun ds ρ' => match ds with
  | [x] => match itemsD x with
    | some es => .ok (enumD 0 es) ρ'
    | none => .stuck
  | _ => .stuck
theorem walk_enu {x : D} {a : Addr} {ds : List D} {J : It} (e : itemsD x = some ds) (hgo : ∀ i H, (∃ us y, SqI c.K (isLst x) H a us ∧ us[i]? = some y) → J.go i H) (hst : ∀ i H, (∃ us, SqI c.K (isLst x) H a us ∧ us.length = i) → J.stop i H)
    (hy : ∀ i H y H', J.yld i H y H' → ∃ T z, y = .ref T ∧ H T = none ∧ H' = upd H T (.tup [.int (i : Nat), z]) ∧ TurnAt c (isLst x) a i H z) : IsWalk c [x] [.ref a] J (enumD 0 ds) := by
  refine ⟨ds.length, SrcAt c (isLst x) ds.length a, fun i H y H' => ∃ T z, y = .ref T ∧ H T = none ∧ H' = upd H T (.tup [.int (i : Nat), z]) ∧ TurnAt c (isLst x) a i H z, ⟨?_, ?_, ?_⟩, (enumD_length ds 0).symm, fun B ts vs ρ σ H r => src_of e r, ?_⟩
  · rintro i H hi ⟨us, h1, h2⟩
    exact hgo i H ⟨us, us[i]'(by omega), h1, List.getElem?_eq_getElem (by omega)⟩
  · rintro H ⟨us, h1, h2⟩
    exact hst _ H ⟨us, h1, h2⟩
  · intro i H y H' _ _ h
    exact hy i H y H' h
  · rintro B ts vs ρ σ H k y H' hk r ⟨T, z, rfl, hT, rfl, t⟩
    obtain ⟨G, O, h⟩ := r.top
    obtain ⟨a', us, e1, h1, kk⟩ := h.seq O.sub e
    cases e1
    obtain ⟨d, ed, hd⟩ := kk.getV (t us h1)
    refine ⟨_, enumD_get ds 0 k d ed, ?_⟩
    rw [Nat.zero_add]
    exact O.new hT rfl fun G' m e' => .tup (.inl (.inl e')) (.cons (.int _) (.cons (hd.mono m) .nil)) fun z => nomatch z
theorem di_enu (h : DenA c W tA fA) : DenI c W (iEnumG c.K tA) (iEnu fA) := fun B ts vs ρ σ H R r q => by
  unfold iEnu at q
  rw [post_then] at q
  cases hk : fA ρ with
  | stuck => rw [hk] at q; exact q.elim
  | err e ρ' =>
    refine .inl (h B ts vs ρ σ H _ r ?_)
    rw [hk] at q ⊢
    exact q
  | ok ds ρ' =>
    rw [hk] at q
    match ds, q with
    | [x], q =>
      have q : Post (OkI c B ts vs σ R) (ErrP c W B ts vs σ) (match itemsD x with
        | some es => .ok (enumD 0 es) ρ'
        | none => .stuck) := q
      cases e : itemsD x with
      | none => rw [e] at q; exact q.elim
      | some es =>
        rw [e] at q
        have q : OkI c B ts vs σ R (enumD 0 es) ρ' := q
        by_cases hl : isLst x = true
        · refine .inl (h B ts vs ρ σ H _ r ?_)
          rw [hk]
          intro us H' hlen r'
          match us, hlen with
          | [v], _ =>
            obtain ⟨G, O, hv⟩ := Rep.top (ts := ts) (vs := vs) r'
            obtain ⟨a, us, rfl, h1, k⟩ := hv.seq O.sub e
            rw [hl] at h1
            refine ⟨a, us, rfl, h1, q _ [x] [.ref a] H' rfl r' (walk_enu e ?_ ?_ ?_)⟩
            · rintro i H ⟨us, y, h1, h2⟩
              rw [hl] at h1
              exact ⟨us, y, h1, h2⟩
            · rintro i H ⟨us, h1, h2⟩
              rw [hl] at h1
              exact ⟨us, h1, by omega⟩
            · rintro i H y H' ⟨T, z, h1, h2, h3, h4⟩
              rw [hl]
              exact ⟨T, z, h1, h2, h3, fun us h => h4 us h⟩
        · have hl : isLst x = false := by simpa using hl
          refine .inr (h B ts vs ρ σ H _ r ?_)
          rw [hk]
          intro us H' hlen r'
          match us, hlen with
          | [v], _ =>
            obtain ⟨G, O, hv⟩ := Rep.top (ts := ts) (vs := vs) r'
            obtain ⟨a, us, rfl, h1, k⟩ := hv.seq O.sub e
            rw [hl] at h1
            refine ⟨a, us, rfl, h1, q _ [x] [.ref a] H' rfl r' (walk_enu e ?_ ?_ ?_)⟩
            · rintro i H ⟨us, y, h1, h2⟩
              rw [hl] at h1
              exact ⟨us, y, h1, h2⟩
            · rintro i H ⟨us, h1, h2⟩
              rw [hl] at h1
              exact ⟨us, h1, h2⟩
            · rintro i H y H' ⟨T, z, h1, h2, h3, h4⟩
              rw [hl]
              exact ⟨T, z, h1, h2, h3, fun us h => h4 us h⟩
/-- no pair of a zip is one of tuples of numbers -/
def zipOk (xs ys : List D) : Bool := (zipD xs ys).all fun
  | .tup ds => !arcy ds
  | _ => true
theorem zipOk_get {xs ys ds : List D} (h : zipOk xs ys = true) {k : Nat} (e : (zipD xs ys)[k]? = some (.tup ds)) : arcy ds = false := by
  have := List.all_eq_true.mp h _ (List.mem_of_getElem? e)
  simpa using this
def iZip2 (fA : M (List D)) : M (List D) := fun ρ => (fA ρ).then fun ds ρ' => match ds with
  | [.lst xs, .lst ys] => if zipOk xs ys then .ok (zipD xs ys) ρ' else .stuck
  | [.tup xs, .tup ys] => if zipOk xs ys then .ok (zipD xs ys) ρ' else .stuck
  | _ => .stuck
theorem walk_zipH {x y : D} {a b : Addr} {ds es : List D} {J : It} {l m : Bool} (e : itemsD x = some ds) (e' : itemsD y = some es) (l1 : isLst x = l) (l2 : isLst y = m)
    (hgo : ∀ i H, (∃ us ws u w, SqI c.K l H a us ∧ SqI c.K m H b ws ∧ us[i]? = some u ∧ ws[i]? = some w) → J.go i H) (hst : ∀ i H, (∃ us ws, SqI c.K l H a us ∧ SqI c.K m H b ws ∧ (us.length ≤ i ∨ ws.length ≤ i)) → J.stop i H)
    (hy : ∀ i H v H', J.yld i H v H' → ∃ T u w, v = .ref T ∧ H T = none ∧ H' = upd H T (.tup [u, w]) ∧ TurnAt c l a i H u ∧ TurnAt c m b i H w) (hn : zipOk ds es = true) : IsWalk c [x, y] [.ref a, .ref b] J (zipD ds es) := by
  refine ⟨(zipD ds es).length, fun H => SrcAt c l ds.length a H ∧ SrcAt c m es.length b H, fun i H v H' => ∃ T u w, v = .ref T ∧ H T = none ∧ H' = upd H T (.tup [u, w]) ∧ TurnAt c l a i H u ∧ TurnAt c m b i H w, ⟨?_, ?_, ?_⟩, rfl, ?_, ?_⟩
  · rintro i H hi ⟨⟨us, h1, h2⟩, ws, h3, h4⟩
    rw [zipD_length] at hi
    exact hgo i H ⟨us, ws, us[i]'(by omega), ws[i]'(by omega), h1, h3, List.getElem?_eq_getElem (by omega), List.getElem?_eq_getElem (by omega)⟩
  · rintro H ⟨⟨us, h1, h2⟩, ws, h3, h4⟩
    exact hst _ H ⟨us, ws, h1, h3, by rw [zipD_length]; omega⟩
  · intro i H y H' _ _ h
    exact hy i H y H' h
  · intro B ts vs ρ σ H r
    have r1 : Rep c B (some (.d y) :: some (.d x) :: ts) (some (.ref b) :: some (.ref a) :: vs) ρ σ H := r
    have s2 := src_of e' r1
    have s1 := src_of e r1.drop
    rw [l1] at s1
    rw [l2] at s2
    exact ⟨s1, s2⟩
  · rintro B ts vs ρ σ H k v H' hk r ⟨T, u, w, rfl, hT, rfl, t1, t2⟩
    have r1 : Rep c B (some (.d y) :: some (.d x) :: ts) (some (.ref b) :: some (.ref a) :: vs) ρ σ H := r
    obtain ⟨G, O, hx, hy⟩ := r1.top2
    obtain ⟨a', us, e1, h1, k1⟩ := hx.seq O.sub e
    cases e1
    obtain ⟨b', ws, e2, h2, k2⟩ := hy.seq O.sub e'
    cases e2
    rw [l1] at h1
    rw [l2] at h2
    obtain ⟨d, ed, hd⟩ := k1.getV (t1 us h1)
    obtain ⟨d', ed', hd'⟩ := k2.getV (t2 ws h2)
    exact ⟨_, zipD_get ds es k d d' ed ed', O.new hT rfl fun G' m e' => .tup (.inl (.inl e')) (.cons (hd.mono m) (.cons (hd'.mono m) .nil)) fun z => absurd z (by rw [zipOk_get hn (zipD_get ds es k d d' ed ed')]; decide)⟩
theorem di_zip2 (h : DenA c W tA fA) : DenI c W (RZ.iZipA c.K tA) (iZip2 fA) := fun B ts vs ρ σ H R r q => by
  unfold iZip2 at q
  rw [post_then] at q
  refine h B ts vs ρ σ H _ r (q.imp1 fun ds ρ' p us H' hlen r' => ?_)
  split at p
  · rename_i xs ys
    by_cases hz : zipOk xs ys = true
    case neg => rw [if_neg hz] at p; exact p.elim
    rw [if_pos hz] at p
    match us, hlen with
    | [v, w], _ =>
      have r1 : Rep c B (some (.d (.lst ys)) :: some (.d (.lst xs)) :: ts) (some w :: some v :: vs) ρ' σ H' := r'
      obtain ⟨G, O, hx, hy⟩ := r1.top2
      obtain ⟨a, us, rfl, h1, k1⟩ := hx.seq O.sub rfl
      obtain ⟨b, ws, rfl, h2, k2⟩ := hy.seq O.sub rfl
      refine ⟨a, b, us, ws, rfl, .inl ⟨h1, h2, p _ [.lst xs, .lst ys] [.ref a, .ref b] H' rfl r' (walk_zipH (l := true) (m := true) rfl rfl rfl rfl ?_ ?_ ?_ hz)⟩⟩
      · rintro i H ⟨us, ws, u, w, h1, h2, h3, h4⟩
        exact ⟨us, ws, u, w, h1, h2, h3, h4⟩
      · rintro i H ⟨us, ws, h1, h2, h3⟩
        exact ⟨us, ws, h1, h2, h3⟩
      · rintro i H v H' ⟨T, u, w, h1, h2, h3, h4, h5⟩
        exact ⟨T, u, w, h1, h2, h3, fun us h => h4 us h, fun us h => h5 us h⟩
  · rename_i xs ys
    by_cases hz : zipOk xs ys = true
    case neg => rw [if_neg hz] at p; exact p.elim
    rw [if_pos hz] at p
    match us, hlen with
    | [v, w], _ =>
      have r1 : Rep c B (some (.d (.tup ys)) :: some (.d (.tup xs)) :: ts) (some w :: some v :: vs) ρ' σ H' := r'
      obtain ⟨G, O, hx, hy⟩ := r1.top2
      obtain ⟨a, us, rfl, h1, k1⟩ := hx.seq O.sub rfl
      obtain ⟨b, ws, rfl, h2, k2⟩ := hy.seq O.sub rfl
      refine ⟨a, b, us, ws, rfl, .inr ⟨h1, h2, p _ [.tup xs, .tup ys] [.ref a, .ref b] H' rfl r' (walk_zipH (l := false) (m := false) rfl rfl rfl rfl ?_ ?_ ?_ hz)⟩⟩
      · rintro i H ⟨us, ws, u, w, h1, h2, h3, h4⟩
        exact ⟨us, ws, u, w, h1, h2, h3, h4⟩
      · rintro i H ⟨us, ws, h1, h2, h3⟩
        exact ⟨us, ws, h1, h2, h3⟩
      · rintro i H v H' ⟨T, u, w, h1, h2, h3, h4, h5⟩
        exact ⟨T, u, w, h1, h2, h3, fun us h => h4 us h, fun us h => h5 us h⟩
  · exact p.elim
/-- a tuple and a list -/
def iZipX (fA : M (List D)) : M (List D) := fun ρ => (fA ρ).then fun ds ρ' => match ds with
  | [.tup xs, .lst ys] => if zipOk xs ys then .ok (zipD xs ys) ρ' else .stuck
  | _ => .stuck
theorem di_zipX (h : DenA c W tA fA) : DenI c W (iZipTM c.K tA) (iZipX fA) := fun B ts vs ρ σ H R r q => by
  unfold iZipX at q
  rw [post_then] at q
  refine h B ts vs ρ σ H _ r (q.imp1 fun ds ρ' p us H' hlen r' => ?_)
  split at p
  case _ xs ys =>
    by_cases hz : zipOk xs ys = true
    case neg => rw [if_neg hz] at p; exact p.elim
    rw [if_pos hz] at p
    match us, hlen with
    | [v, w], _ =>
      have r1 : Rep c B (some (.d (.lst ys)) :: some (.d (.tup xs)) :: ts) (some w :: some v :: vs) ρ' σ H' := r'
      obtain ⟨G, O, hx, hy⟩ := r1.top2
      obtain ⟨a, us, rfl, h1, k1⟩ := hx.seq O.sub rfl
      obtain ⟨b, ws, rfl, h2, k2⟩ := hy.seq O.sub rfl
      exact ⟨a, b, us, ws, rfl, h1, h2, p _ [.tup xs, .lst ys] [.ref a, .ref b] H' rfl r' (walk_zipH (l := false) (m := true) rfl rfl rfl rfl (fun _ _ g => g) (fun _ _ g => g) (fun _ _ _ _ g => g) hz)⟩
  case _ => exact p.elim
/-- two lists, two tuples, or a tuple and a list -/
def iZip' (fA : M (List D)) : M (List D) := fun ρ => (fA ρ).then fun ds ρ' => match ds with
  | [.lst xs, .lst ys] => if zipOk xs ys then .ok (zipD xs ys) ρ' else .stuck
  | [.tup xs, .tup ys] => if zipOk xs ys then .ok (zipD xs ys) ρ' else .stuck
  | [.tup xs, .lst ys] => if zipOk xs ys then .ok (zipD xs ys) ρ' else .stuck
  | _ => .stuck
theorem iZip'_or (fA : M (List D)) (ρ : En) : iZip' fA ρ = iZip2 fA ρ ∨ iZip' fA ρ = iZipX fA ρ := by
  unfold iZip' iZip2 iZipX
  cases fA ρ with
  | stuck => exact .inl rfl
  | err e ρ' => exact .inl rfl
  | ok ds ρ' =>
    rcases ds with _ | ⟨x, _ | ⟨y, _ | ⟨z, zs⟩⟩⟩
    · exact .inl rfl
    · cases x <;> exact .inl rfl
    · cases x <;> first | exact .inl rfl | (cases y <;> first | exact .inl rfl | exact .inr rfl)
    · cases x <;> first | exact .inl rfl | (cases y <;> exact .inl rfl)
def iZipB (K : PySem.W.Frag) (ta : TA) : TI := fun σ H R => RZ.iZipA K ta σ H R ∨ iZipTM K ta σ H R
theorem di_zip (h : DenA c W tA fA) : DenI c W (iZipB c.K tA) (iZip' fA) := fun B ts vs ρ σ H R r q => by
  rcases iZip'_or fA ρ with e | e
  · exact .inl (di_zip2 h B ts vs ρ σ H R r (e ▸ q))
  · exact .inr (di_zipX h B ts vs ρ σ H R r (e ▸ q))
end
/-! ### comprehensions -/
def wipeE (ρ : En) : List Nat → En
  | [] => ρ
  | v :: vs => (wipeE ρ vs).set v none
theorem wipeE_at (ρ : En) : ∀ (vs : List Nat) (i : Nat), i ∈ vs → (wipeE ρ vs).set i none = wipeE ρ vs
  | v :: vs, i, h => by
    unfold wipeE
    by_cases hv : v = i
    · subst hv
      rw [List.set_set]
    · rw [List.set_comm _ _ hv, wipeE_at ρ vs i ((List.mem_cons.mp h).resolve_left fun e => hv e.symm)]
theorem wipeE_id {ρ : En} : ∀ {own : List Nat}, (∀ v ∈ own, ρ.set v none = ρ) → wipeE ρ own = ρ
  | [], _ => rfl
  | v :: own, h => by
    unfold wipeE
    rw [wipeE_id fun w hw => h w (List.mem_cons_of_mem _ hw), h v List.mem_cons_self]
theorem wipe_in (σ : L2.St) : ∀ (vs : List Nat) (i : Nat), i ∈ vs → (wipe σ vs)[i]? = if i < σ.length then some none else none
  | v :: vs, i, h => by
    unfold wipe
    by_cases hv : v = i
    · subst hv
      by_cases hl : v < σ.length
      · rw [if_pos hl, List.getElem?_set_self (by rw [wipe_length]; exact hl)]
      · rw [if_neg hl, List.getElem?_eq_none (by rw [List.length_set, wipe_length]; omega)]
    · rw [List.getElem?_set_ne hv, wipe_in σ vs i ((List.mem_cons.mp h).resolve_left fun e => hv e.symm)]
theorem wipe_off (σ : L2.St) : ∀ (vs : List Nat) (i : Nat), i ∉ vs → (wipe σ vs)[i]? = σ[i]?
  | [], i, _ => rfl
  | v :: vs, i, h => by
    unfold wipe
    rw [List.getElem?_set_ne fun e => h (by simp [e]), wipe_off σ vs i fun e => h (List.mem_cons_of_mem _ e)]
theorem Off.wipe {js own : List Nat} {σ σ' : L2.St} (h : ∀ j ∈ js, j ∈ own) (o : Off js (wipe σ own) σ') : wipe σ' own = wipe σ own := by
  have hl : σ'.length = σ.length := by rw [o.1, wipe_length]
  apply List.ext_getElem?
  intro i
  by_cases hi : i ∈ own
  · rw [wipe_in _ _ _ hi, wipe_in _ _ _ hi, hl]
  · rw [wipe_off _ _ _ hi, o.2 i fun z => hi (h i z)]
section
variable {c : Cfg} {B : Base} {ts : En} {vs : List (Option V)} {ρ : En} {σ : L2.St} {H : Hp}
theorem Rep.wipe (r : Rep c B ts vs ρ σ H) : ∀ own : List Nat, Rep c B ts vs (wipeE ρ own) (wipe σ own) H
  | [] => r
  | v :: own => (Rep.wipe r own).forget none
theorem Rep.unwipe : ∀ (own : List Nat), (∀ v ∈ own, ρ.set v none = ρ) → Rep c B ts vs ρ (L2.wipe σ own) H → Rep c B ts vs ρ σ H
  | [], _, r => r
  | v :: own, h, r => by
    refine Rep.unwipe own (fun w hw => h w (List.mem_cons_of_mem _ hw)) ?_
    have r1 := r.forget (i := v) ((L2.wipe σ own)[v]?.getD none)
    rw [h v List.mem_cons_self] at r1
    have e : (L2.wipe σ (v :: own)).set v ((L2.wipe σ own)[v]?.getD none) = L2.wipe σ own := by
      show ((L2.wipe σ own).set v none).set v _ = _
      rw [List.set_set]
      apply List.ext_getElem?
      intro i
      by_cases hi : v = i
      · subst hi
        by_cases hl : v < (L2.wipe σ own).length
        · rw [List.getElem?_set_self hl, List.getElem?_eq_getElem hl]
          rfl
        · rw [List.getElem?_eq_none (by rw [List.length_set]; omega), List.getElem?_eq_none (by omega)]
      · rw [List.getElem?_set_ne hi]
    rw [e] at r1
    exact r1
/-- back from a turn -/
theorem Rep.back {σ2 : L2.St} {own : List Nat} (e : L2.wipe σ2 own = L2.wipe σ own) (r : Rep c B ts vs ρ σ2 H) : Rep c B ts vs (wipeE ρ own) σ H := by
  have r1 := r.wipe own
  rw [e] at r1
  exact Rep.unwipe own (fun v hv => wipeE_at ρ own v hv) r1
theorem RpAll.tmpS {c : Cfg} {B : Base} {G H : Hp} {us : List V} {ds : List D} {own : Owns} (k : RpAll c G us ds) (h : Sl c B G H ts vs own) : Sl c B G H (tmp ds ++ ts) (tmv us ++ vs) own := k.rev.sl h
theorem Rep.insO {st : List D} {sv : List V} {p : Addr} (hl : sv.length = st.length) (r : Rep c B (tmp st ++ ts) (tmv sv ++ vs) ρ σ H) (hp : H p = none) :
    Rep c B (tmp st ++ (some (.o none (.lst [])) :: ts)) (tmv sv ++ (some (.ref p) :: vs)) ρ σ (upd H p (.lst [])) := by
  obtain ⟨G, o1, o2, k, h1, h2⟩ := r
  obtain ⟨a1, a2⟩ := h1.tmp hl
  have ow := own_new (o := .lst []) k hp
  exact ⟨G, p :: o1, o2, k.allocO hp, a1.tmpS (.o ⟨[], upd_same, .nil⟩ (fun _ e => nomatch e) (a2.mono (fun _ _ e => e) fun q hq => ow q (List.mem_append_left _ hq))), h2.mono (fun _ _ e => e) fun q hq => ow q (List.mem_append_right _ hq)⟩
theorem Rep.appT {st acc : List D} {sv : List V} {p : Addr} {y : D} {v : V} (hl : sv.length = st.length) (r : Rep c B (some (.d y) :: (tmp st ++ (some (.o none (.lst acc)) :: ts))) (some v :: (tmv sv ++ (some (.ref p) :: vs))) ρ σ H) :
    ∃ us, H p = some (.lst us) ∧ us.length = acc.length ∧ Rep c B (tmp st ++ (some (.o none (.lst (acc ++ [y]))) :: ts)) (tmv sv ++ (some (.ref p) :: vs)) ρ σ (upd H p (.lst (us ++ [v]))) := by
  obtain ⟨G, o1, o2, k, h1, h2⟩ := r
  cases h1 with
  | d hv h1 =>
    obtain ⟨a1, a2⟩ := h1.tmp hl
    cases a2 with
    | @o _ _ _ _ _ own hc hb a2 =>
      obtain ⟨us, e, ku⟩ := hc
      have nd := k.nd
      rw [List.cons_append, List.nodup_cons] at nd
      have ne : ∀ q ∈ own ++ o2, upd H p (.lst (us ++ [v])) q = H q := fun q hq => upd_ne fun z => nd.1 (z ▸ hq)
      refine ⟨us, e, ku.length, G, p :: own, o2, k.write (List.mem_append_left _ List.mem_cons_self) e (.lst _), a1.tmpS (.o ⟨_, upd_same, ku.snoc hv⟩ hb (a2.mono (fun _ _ e => e) fun q hq => ne q (List.mem_append_left _ hq))), h2.mono (fun _ _ e => e) fun q hq => ne q (List.mem_append_right _ hq)⟩
theorem Rep.accT {st acc : List D} {sv : List V} {p : Addr} (hl : sv.length = st.length) (r : Rep c B (tmp st ++ (some (.o none (.lst acc)) :: ts)) (tmv sv ++ (some (.ref p) :: vs)) ρ σ H) : Rep c B (some (.o none (.lst acc)) :: ts) (some (.ref p) :: vs) ρ σ H := r.dropN hl
end
/-- an exception may not leave a comprehension -/
def Out.calm {α : Type} : Out α → Out α
  | .err _ _ => .stuck
  | o => o
def W0 : WX := fun _ _ _ _ => False
def mComp (gm : D → M Unit) (ft : M Bool) (fe : M S) (own : List Nat) : List D → List D → En → Out (List D)
  | [], acc, ρ => .ok acc ρ
  | x :: xs, acc, ρ => (gm x ρ).calm.then fun _ ρ1 => (ft ρ1).calm.then fun b ρ2 => if b = true then (dv fe ρ2).calm.then fun y ρ3 => if small (acc.length + 1) then mComp gm ft fe own xs (acc ++ [y]) (wipeE ρ3 own) else .stuck
    else mComp gm ft fe own xs acc (wipeE ρ2 own)
def mLc (fI : M (List D)) (gm : D → M Unit) (ft : M Bool) (fe : M S) (own : List Nat) : M S := fun ρ => (fI ρ).then fun items ρ1 => (mComp gm ft fe own items [] (wipeE ρ1 own)).then fun ds ρ2 => .ok (.o none (.lst ds)) ρ2
theorem post_calm {α : Type} {K : α → En → Prop} {E E' : Err → En → Prop} {m : Out α} (h : Post K E m.calm) : Post K E' m := by
  cases m with
  | ok a ρ => exact h
  | err e ρ => exact h.elim
  | stuck => exact h
section
variable {c : Cfg} {W : WX} {wi : TI} {fI : M (List D)} {te : TE} {fe : M S} {tt : TT} {ft : M Bool} {g : TG} {gm : D → M Unit} {js own : List Nat}
theorem den_lc (h : DenI c W wi fI) (k : DenG c W0 g gm js) (kt : DenT c W0 tt ft) (ke : Den c W0 te fe) (hj : ∀ j ∈ js, j ∈ own) : Den c W (tLc wi g tt te own) (mLc fI gm ft fe own) := fun B ts vs ρ σ H Q r q => by
  unfold mLc at q
  rw [post_then] at q
  refine h B ts vs ρ σ H _ r (q.imp1 fun items ρ1 q J st sv H1 hl r1 w D hD => ?_)
  obtain ⟨n, Gw, Y, wk, rfl, hG, hY⟩ := w
  rw [post_then] at q
  refine lc_it wk (fun i H => ∃ ρ acc, Rep c B (tmp st ++ (some (.o none (.lst acc)) :: ts)) (tmv sv ++ (some (.ref D) :: vs)) ρ σ H ∧ (∀ v ∈ own, ρ.set v none = ρ) ∧
    Post (fun ds ρ2 => OkP c B ts vs σ Q (.o none (.lst ds)) ρ2) (ErrP c W B ts vs σ) (mComp gm ft fe own (items.drop i) acc ρ)) ⟨wipeE ρ1 own, [], ?_, fun v hv => wipeE_at ρ1 own v hv, q⟩ (fun i H _ ⟨ρ, acc, r, _⟩ => hG _ _ _ _ _ _ r) ?_ ?_
  · exact (Rep.insO hl r1 hD).back rfl
  · rintro i x H1 H2 hi ⟨ρ, acc, r, hw, q⟩ y
    obtain ⟨d, ed, r2⟩ := hY _ _ _ _ _ _ _ _ _ hi r y
    have hd : items.drop i = d :: items.drop (i + 1) := by
      rw [List.drop_eq_getElem_cons hi]
      rw [List.getElem?_eq_getElem hi] at ed
      cases ed
      rfl
    rw [hd] at q
    have q : Post _ _ ((gm d ρ).calm.then fun _ ρ1 => (ft ρ1).calm.then fun b ρ2 => _) := q
    rw [post_then] at q
    have r3 : Rep c B (some (.d d) :: (tmp st ++ (some (.o none (.lst acc)) :: ts))) (some x :: (tmv sv ++ (some (.ref D) :: vs))) ρ (L2.wipe σ own) H2 := by
      have := r2.wipe own
      have e := wipeE_id hw
      rw [e] at this
      exact this
    refine k B _ _ ρ _ H2 d x _ r3 (post_calm (q.imp1 fun _ ρ2 q σ2 H3 o r4 => ?_))
    have eo := Off.wipe hj o
    refine ⟨eo, ?_⟩
    rw [post_then] at q
    refine kt B _ _ ρ2 σ2 H3 _ r4 (post_calm (q.imp1 fun b ρ3 q H4 r5 => ?_))
    cases b with
    | false => exact ⟨wipeE ρ3 own, acc, r5.back eo, fun v hv => wipeE_at ρ3 own v hv, q⟩
    | true =>
      have q : Post _ _ ((dv fe ρ3).calm.then fun y ρ4 => _) := q
      rw [post_then] at q
      refine ke.dv r5 (post_calm (q.imp1 fun y ρ4 q v H5 r6 => ?_))
      split at q
      · rename_i hz
        obtain ⟨us, e1, e2, r7⟩ := Rep.appT hl r6
        refine ⟨us, e1, ?_, wipeE ρ4 own, acc ++ [y], r7.back eo, fun v hv => wipeE_at ρ4 own v hv, q⟩
        have := small_line hz
        omega
      · exact q.elim
  · rintro H1 ⟨ρ, acc, r, _, q⟩
    rw [List.drop_length] at q
    exact q _ H1 (r.accT hl)
end
end Fx
/-! defs, their calls, fields, what is made -/
namespace Fx
open PySem PySem.Spec PyProof.Rows L2
open C8 (Cal Mak pe_c pe_mk)
/-! ### states within states -/
def erK : List D → List D
  | [.ins n ds, _] => [.ins n ds, .tup []]
  | ks => ks
theorem erK_key {kvs : List (Key × V)} : erK (kvs.map fun p => keyD p.1) = kvs.map fun p => keyD p.1 := by
  match kvs with
  | [] => rfl
  | (.inl i, _) :: _ => rfl
  | (.inr i, _) :: _ => rfl
theorem QCell.er {c : Cfg} {B B' : Base} {G H : Hp} {a : Addr} {ks : List D} {dss : List (List D)} {os : Owns} (h : QCell c B G H a ks dss os) : QCell c B' G H a (erK ks) dss os := by
  rcases h with ⟨kvs, bs, rfl, h1, rfl, h3, h4⟩ | ⟨n, ds, p, dk, dv, dx, fs, b, o, kv, us, vs, rfl, rfl, rfl, h1, h2, h3, h4, h5, h6, h7, h8, h9⟩
  · exact .inl ⟨kvs, bs, rfl, h1, erK_key, h3, h4⟩
  · exact .inr ⟨n, ds, none, dk, dv, dx, fs, b, o, kv, us, vs, rfl, rfl, rfl, h1, h2, h3, h4, h5, h6, h7, h8, fun j e => nomatch e⟩
theorem QCell.un {c : Cfg} {B B' : Base} {G H G' H' : Hp} {a : Addr} {ks : List D} {dss : List (List D)} {os os' : Owns} (h0 : QCell c B G H a ks dss os) (h : QCell c B' G' H' a (erK ks) dss os') : QCell c B G' H' a ks dss os' := by
  rcases h0 with ⟨kvs, bs, rfl, h1, rfl, h3, h4⟩ | ⟨n, ds, p, dk, dv, dx, fs, b, o, kv, us, vs, rfl, rfl, rfl, h1, h2, h3, h4, h5, h6, h7, h8, h9⟩
  · rw [erK_key] at h
    rcases h with h | ⟨n, ds, p, dk, dv, dx, fs, b, o, kv, us, vs, e, _⟩
    · exact .inl h
    · exfalso
      match kvs, e with
      | (.inl i, _) :: _, e => cases e
      | (.inr i, _) :: _, e => cases e
  · rcases h with ⟨kvs, bs, rfl, g1, e, g3, g4⟩ | ⟨n', ds', p', dk', dv', dx', fs', b', o', kv', us', vs', e1, e2, rfl, g1, g2, g3, g4, g5, g6, g7, g8, g9⟩
    · exfalso
      match kvs, e with
      | (.inl i, _) :: _, e => cases e
      | (.inr i, _) :: _, e => cases e
    · have e1 : [D.ins n ds, D.tup []] = [D.ins n' ds', plD p'] := e1
      rw [List.cons.injEq, D.ins.injEq] at e1
      obtain ⟨⟨rfl, rfl⟩, _⟩ := e1
      cases e2
      exact .inr ⟨n, ds, p, dk, dv, dx', fs', b', o', kv', us', vs', rfl, rfl, rfl, g1, g2, g3, g4, g5, g6, g7, g8, h9⟩
def er : S → S
  | .d x => .d x
  | .o _ x => .o none x
  | .q ks dss => .q (erK ks) dss
def erE (es : En) : En := es.map (Option.map er)
def bare (s : S) : Bool := match s with
  | .d _ => true
  | .o none _ => true
  | .o (some _) _ => false
  | .q _ _ => false
section
variable {c : Cfg} {B B' : Base} {G G' H H' : Hp} {ts es es' : En} {vs ws : List (Option V)} {ρ : En} {σ : L2.St} {own own' : Owns}
theorem Sl.er : ∀ {es : En} {vs : List (Option V)} {own : Owns}, Sl c B G H es vs own → Sl c B' G H (erE es) vs own
  | _, _, _, .nil => .nil
  | _, _, _, .skip k => .skip (Sl.er k)
  | _, _, _, .d h k => .d h (Sl.er k)
  | _, _, _, .o h _ k => .o h (fun _ e => nomatch e) (Sl.er k)
  | _, _, _, .q h k => .q h.er (Sl.er k)
theorem Sl.unflag : ∀ {es : En} {vs : List (Option V)} {own own' : Owns}, Sl c B G H es vs own → Sl c B' G' H' (erE es) vs own' → Sl c B G' H' es vs own'
  | [], _, _, _, .nil, h => by
    cases h
    exact .nil
  | none :: es, _, _, _, .skip k, h => by
    have h : Sl c B' G' H' (none :: erE es) _ _ := h
    cases h with
    | skip h => exact .skip (Sl.unflag k h)
  | some (.d x) :: es, _, _, _, .d _ k, h => by
    have h : Sl c B' G' H' (some (.d x) :: erE es) _ _ := h
    cases h with
    | d h1 h => exact .d h1 (Sl.unflag k h)
  | some (.o b x) :: es, _, _, _, .o _ hb k, h => by
    have h : Sl c B' G' H' (some (.o none x) :: erE es) _ _ := h
    cases h with
    | o h1 _ h2 => exact .o h1 hb (Sl.unflag k h2)
  | some (.q ks dss) :: es, _, _, _, .q h0 k, h => by
    have h : Sl c B' G' H' (some (.q (erK ks) dss) :: erE es) _ _ := h
    cases h with
    | q h1 h2 => exact .q (h0.un h1) (Sl.unflag k h2)
theorem Sl.app : ∀ {es : En} {vs : List (Option V)} {o1 o2 : Owns}, Sl c B G H es vs o1 → Sl c B G H es' ws o2 → Sl c B G H (es ++ es') (vs ++ ws) (o1 ++ o2)
  | _, _, _, _, .nil, h => h
  | _, _, _, _, .skip k, h => .skip (Sl.app k h)
  | _, _, _, _, .d a k, h => .d a (Sl.app k h)
  | _, _, _, _, .o a b k, h => .o a b (Sl.app k h)
  | _, _, _, _, .q a k, h => by
    rw [List.append_assoc]
    exact .q a (Sl.app k h)
theorem Sl.split : ∀ {es : En} {vs : List (Option V)} {own : Owns}, es.length = vs.length → Sl c B G H (es ++ es') (vs ++ ws) own → ∃ o1 o2, own = o1 ++ o2 ∧ Sl c B G H es vs o1 ∧ Sl c B G H es' ws o2
  | [], [], own, _, h => ⟨[], own, rfl, .nil, h⟩
  | [], _ :: _, _, e, _ => by simp at e
  | _ :: _, [], _, e, _ => by simp at e
  | none :: es, v :: vs, _, e, h => by
    have h : Sl c B G H (none :: (es ++ es')) (v :: (vs ++ ws)) _ := h
    cases h with
    | skip h =>
      obtain ⟨o1, o2, rfl, h1, h2⟩ := Sl.split (by simpa using e) h
      exact ⟨o1, o2, rfl, .skip h1, h2⟩
  | some (.d x) :: es, v :: vs, _, e, h => by
    have h : Sl c B G H (some (.d x) :: (es ++ es')) (v :: (vs ++ ws)) _ := h
    cases h with
    | d a h =>
      obtain ⟨o1, o2, rfl, h1, h2⟩ := Sl.split (by simpa using e) h
      exact ⟨o1, o2, rfl, .d a h1, h2⟩
  | some (.o b x) :: es, v :: vs, _, e, h => by
    have h : Sl c B G H (some (.o b x) :: (es ++ es')) (v :: (vs ++ ws)) _ := h
    cases h with
    | o a hb h3 =>
      obtain ⟨o1, o2, rfl, h1, h2⟩ := Sl.split (by simpa using e) h3
      exact ⟨_ :: o1, o2, rfl, .o a hb h1, h2⟩
  | some (.q ks dss) :: es, v :: vs, _, e, h => by
    have h : Sl c B G H (some (.q ks dss) :: (es ++ es')) (v :: (vs ++ ws)) _ := h
    cases h with
    | q a h3 =>
      obtain ⟨o1, o2, rfl, h1, h2⟩ := Sl.split (by simpa using e) h3
      exact ⟨_ ++ o1, o2, by rw [List.append_assoc], .q a h1, h2⟩
theorem RpAll.slot {us : List V} {ds : List D} (k : RpAll c G us ds) : Sl c B G H (ds.map fun x => some (S.d x)) (us.map some) [] := by
  have := k.sl (B := B) (H := H) (ts := []) (vs := []) (own := []) .nil
  rwa [List.append_nil, List.append_nil] at this
theorem OkB.anyB (k : OkB c B G H own) (hp : B'.pin = B.pin := by rfl) : OkB c B' G H own := ⟨k.sub, k.notbl, k.nd, k.out, k.tabs, fun a o e => k.pint a o (by rw [← hp]; exact e), fun a o e => k.pin a o (by rw [← hp]; exact e)⟩
/-- into a def: what waits are its arguments, all else waits -/
theorem Rep.enter {ds : List D} {us : List V} (hl : us.length = ds.length) (r : Rep c B (tmp ds ++ ts) (tmv us ++ vs) ρ σ H) (hp : B'.pin = B.pin := by rfl) : Rep c B' (erE ts ++ erE ρ) (vs ++ σ) (ds.map fun x => some (S.d x)) (us.map some) H := by
  obtain ⟨G, o1, o2, k, h1, h2⟩ := r
  obtain ⟨a1, a2⟩ := h1.tmp hl
  exact ⟨G, o1 ++ o2, [], by rw [List.append_nil]; exact k.anyB (hp := hp), (a2.er).app h2.er, a1.slot⟩
/-- back from it -/
theorem Rep.leave {s : S} {v : V} {ρ' : En} {σ' : L2.St} {H0 : Hp} (hs : bare s = true) (r0 : Rep c B ts vs ρ σ H0) (r : Rep c B' (some s :: (erE ts ++ erE ρ)) (some v :: (vs ++ σ)) ρ' σ' H) (hp : B'.pin = B.pin := by rfl) : Rep c B (some s :: ts) (some v :: vs) ρ σ H := by
  obtain ⟨G0, p1, p2, k0, g1, g2⟩ := r0
  obtain ⟨G, o1, o2, k, h1, h2⟩ := r
  obtain ⟨w, os, o1', ew, e1, rfl, h1'⟩ := h1.unone
  cases ew
  obtain ⟨q1, q2, rfl, f1, f2⟩ := h1'.split (by rw [show (erE ts).length = ts.length by simp [erE]]; exact g1.length)
  have e1' : En1 c B G H s v os := by
    cases e1 with
    | d h => exact .d h
    | @o a b x hc hb =>
      cases b with
      | none => exact .o hc fun _ e => nomatch e
      | some k => cases hs
    | q h => cases hs
  refine ⟨G, os ++ q1, q2, (k.anyB (hp := hp.symm)).subO (fun p hp => ?_) ?_, Sl.one e1' (g1.unflag f1), g2.unflag f2⟩
  · simp only [List.mem_append] at hp ⊢
    rcases hp with (hp | hp) | hp
    · exact .inl (.inl hp)
    · exact .inl (.inr (.inl hp))
    · exact .inl (.inr (.inr hp))
  · refine k.nd.sublist ?_
    rw [List.append_assoc os]
    exact List.sublist_append_left _ _
end
/-! ### defs -/
abbrev Fn := List S → Out S
/-- a def of np parameters and nN names, by its body -/
def runF (np nN : Nat) (body : M Fl) : Fn := fun args => if args.length = np then match body (args.map some ++ List.replicate (nN - np) none) with
    | .ok (.rt s) ρ => .ok s ρ
    | .ok .nx ρ => .ok (.d .non) ρ
    | .err e ρ => .err e ρ
    | _ => .stuck
  else .stuck
/-- what a def promises that nothing leaves by an exception -/
def spF (c : Cfg) (F : Fn) : Sp := fun vs H Q _ => ∃ B ts ws args, Rep c B ts ws (args.map some) (vs.map some) H ∧ Post (fun s ρ' => ∀ v σ' H', Rep c B (some s :: ts) (some v :: ws) ρ' σ' H' → Q v H') (fun _ _ => False) (F args)
theorem Rep.slots {c : Cfg} {B : Base} {ts : En} {vs : List (Option V)} {ρ : En} {σ : L2.St} {H : Hp} (n : Nat) (r : Rep c B ts vs ρ σ H) : Rep c B ts vs (ρ ++ List.replicate n none) (σ ++ List.replicate n none) H := by
  obtain ⟨G, o1, o2, k, h1, h2⟩ := r
  have : ∀ n : Nat, Sl c B G H (List.replicate n none) (List.replicate n none) [] := by
    intro n
    induction n with
    | zero => exact .nil
    | succ n ih => exact .skip ih
  refine ⟨G, o1, o2, k, h1, ?_⟩
  have := h2.app (this n)
  rwa [List.append_nil] at this
section
variable {P : Program} {w : World} {K : PySem.W.Frag} {mg : Str → Option Value} {base : Heap}
theorem fn_den {c : Cfg} {x qual : Str} {st : Stmt} {f : Addr} {fd : FuncData} {N ps : List Str} {k : Nat} {body : M Fl} (F : Fun K x qual st f fd) (Sc : FnScope N ps (defScope st))
    (hbody : ∀ (cdv : Value) (A : Around) (outer : List Env) (s : Shared) (H : Hp) (E : XK), Room k (A.deeper (envOfC qual (defScope st) s.heap.objs.size f cdv)) →
      ∃ t, PSs (cxOf L2.CX0 P w K mg base N qual (defScope st) f cdv A outer s H E).nox (defBody st) t ∧ DenS c W0 t body) : FnOk P w K mg base L2.CX0 (k + 1) f fd ps (spF c (runF ps.length N.length body)) := by
  have len : ∀ vs H Q E, spF c (runF ps.length N.length body) vs H Q E → vs.length = ps.length := by
    rintro vs H Q E ⟨B, ts, ws, args, r, p⟩
    obtain ⟨G, o1, o2, k, h1, h2⟩ := r
    have e := h2.length
    rw [List.length_map, List.length_map] at e
    unfold runF at p
    split at p
    · rename_i ha
      omega
    · exact p.elim
  refine F.ok Sc len fun cdv A outer s H vs Q E hr h => ?_
  have hl := len vs H Q E h
  obtain ⟨B, ts, ws, args, r, p⟩ := h
  obtain ⟨t, h1, h2⟩ := hbody cdv A outer s H E hr
  refine ⟨t, h1, ?_⟩
  unfold runF at p
  split at p
  · rename_i ha
    have r2 := r.slots (N.length - ps.length)
    have e1 : vs.map some ++ List.replicate (N.length - ps.length) none = L2.start N vs := by
      unfold L2.start
      rw [hl]
    rw [e1] at r2
    refine h2 B ts ws _ _ H _ r2 ?_
    cases hb : body (args.map some ++ List.replicate (N.length - ps.length) none) with
    | stuck => rw [hb] at p; exact p.elim
    | err e ρ => rw [hb] at p; exact p.elim
    | ok f ρ =>
      rw [hb] at p
      cases f with
      | rt s => exact fun v σ' H' r' => p v σ' H' r'
      | nx => exact fun σ' H' r' => p .non σ' H' (Rep.repl (ds := []) (us := []) r' rfl fun G _ => .non)
      | bk => exact p.elim
      | ct => exact p.elim
  · exact p.elim
end
/-! ### calls -/
def mCall (F : Fn) (fA : M (List D)) : M S := fun ρ => (fA ρ).then fun ds ρ1 => match F (ds.map .d) with
  | .ok s _ => if bare s then .ok s ρ1 else .stuck
  | _ => .stuck
section
variable {c : Cfg} {W : WX} {tA : TA} {fA : M (List D)} {F : Fn} {E : XK}
theorem den_call (h : DenA c W tA fA) : Den c W (tCall (spF c F) [] E tA) (mCall F fA) := fun B ts vs ρ σ H Q r q => by
  unfold mCall at q
  rw [post_then] at q
  refine h B ts vs ρ σ H _ r (q.imp1 fun ds ρ1 q us H1 hl r1 => ?_)
  show spF c F (us ++ []) H1 Q E
  rw [List.append_nil]
  refine ⟨⟨fun _ => none, B.pin⟩, erE ts ++ erE ρ1, vs ++ σ, ds.map .d, by rw [List.map_map]; exact r1.enter hl, ?_⟩
  have r2 := r1.dropN hl
  cases hf : F (ds.map .d) with
  | stuck => rw [hf] at q; exact q.elim
  | err e ρ' => rw [hf] at q; exact q.elim
  | ok s ρ' =>
    rw [hf] at q
    have q : Post (OkP c B ts vs σ Q) (ErrP c W B ts vs σ) (if bare s then .ok s ρ1 else .stuck) := q
    split at q
    · rename_i hs
      exact fun v σ' H' r' => q v H' (Rep.leave hs r2 r')
    · exact q.elim
end
/-! ### an argument that may be changed -/
/-- the arguments but the one at slot i, which stands at place j -/
def OkC (c : Cfg) (B : Base) (ts : En) (vs : List (Option V)) (σ : L2.St) (i j : Nat) (Q : List V → Hp → Prop) (ds : List D) (ρ : En) : Prop :=
  ∀ us H' a, us.length = ds.length → Rep c B (tmp ds ++ ts) (tmv us ++ vs) ρ σ H' → σ[i]? = some (some (.ref a)) → j ≤ ds.length → Q (us.take j ++ .ref a :: us.drop j) H'
def DenC (c : Cfg) (W : WX) (tA : TA) (i j : Nat) (f : M (List D)) : Prop := ∀ B ts vs ρ σ H Q, Rep c B ts vs ρ σ H → Post (OkC c B ts vs σ i j Q) (ErrP c W B ts vs σ) (f ρ) → tA σ H Q
def isOwn (ρ : En) (i : Nat) : Bool := match ρ[i]? with
  | some (some (.o _ _)) => true
  | _ => false
def aOwn (i : Nat) (fr : M (List D)) : M (List D) := fun ρ => if isOwn ρ i then fr ρ else .stuck
section
variable {c : Cfg} {B B' : Base} {W : WX} {ta : TE} {fa : M S} {tr tA : TA} {fr fA : M (List D)} {F : Fn} {E : XK} {i j : Nat} {ts : En} {vs : List (Option V)} {ρ : En} {σ : L2.St} {H : Hp}
theorem dc_own (h : DenA c W tr fr) : DenC c W (tCons (tVar i) tr) i 0 (aOwn i fr) := fun B ts vs ρ σ H Q r q => by
  unfold aOwn at q
  split at q
  · rename_i ho
    unfold isOwn at ho
    split at ho
    · rename_i b x e
      obtain ⟨a, e1, _⟩ := r.varO e
      refine ⟨.ref a, e1, h B ts vs ρ σ H _ r (q.imp1 fun ds ρ1 q us H1 hl r1 => ?_)⟩
      exact q us H1 a hl r1 e1 (Nat.zero_le _)
    · cases ho
  · exact q.elim
def mCallO (F : Fn) (i j : Nat) (fA : M (List D)) : M S := fun ρ => (fA ρ).then fun ds ρ1 => match ρ1[i]? with
  | some (some (.o b x)) => if j ≤ ds.length then match F ((ds.take j).map .d ++ .o (some j) x :: (ds.drop j).map .d) with
      | .ok s ρ' => match ρ'[j]? with
        | some (some (.o (some j') y)) => if j' = j ∧ bare s = true then .ok s (ρ1.set i (some (.o b y))) else .stuck
        | _ => .stuck
      | _ => .stuck
    else .stuck
  | _ => .stuck
/-- into a def with a cell -/
theorem Sl.takeO : ∀ {es : En} {vs : List (Option V)} {own : Owns} {i : Nat} {b : Option Nat} {x : D} {G : Hp}, Sl c B G H es vs own → es[i]? = some (some (.o b x)) → ∃ a own', vs[i]? = some (some (.ref a)) ∧ Cell c G H a x ∧ (∀ k, b = some k → B.at_ k = some a) ∧ Sl c B G H (es.set i none) vs own' ∧ (∀ p ∈ own, p = a ∨ p ∈ own') ∧ (∀ p ∈ own', p ∈ own) ∧ a ∈ own ∧ (own.Nodup → own'.Nodup ∧ a ∉ own')
  | _, _, _, _, _, _, _, .nil, e => by simp at e
  | _, _, _, 0, _, _, _, .skip k, e => by simp at e
  | _, _, _, 0, _, _, _, .d h k, e => by simp at e
  | _, _, a :: own, 0, _, _, _, .o h hb k, e => by
    simp at e
    obtain ⟨rfl, rfl⟩ := e
    exact ⟨a, own, rfl, h, hb, .skip k, fun p hp => List.mem_cons.mp hp, fun p hp => List.mem_cons_of_mem _ hp, List.mem_cons_self, fun nd => ⟨(List.nodup_cons.mp nd).2, (List.nodup_cons.mp nd).1⟩⟩
  | _, _, _, i + 1, _, _, _, .skip k, e => by
    obtain ⟨a, own', h1, h2, h3, h4, h5⟩ := Sl.takeO (i := i) k (by simpa using e)
    exact ⟨a, own', h1, h2, h3, .skip h4, h5⟩
  | _, _, _, i + 1, _, _, _, .d h k, e => by
    obtain ⟨a, own', h1, h2, h3, h4, h5⟩ := Sl.takeO (i := i) k (by simpa using e)
    exact ⟨a, own', h1, h2, h3, .d h h4, h5⟩
  | _, _, b :: own, i + 1, _, _, _, .o h hb k, e => by
    obtain ⟨a, own', h1, h2, h3, h4, h5, h6, h7, h8⟩ := Sl.takeO (i := i) k (by simpa using e)
    refine ⟨a, b :: own', h1, h2, h3, .o h hb h4, fun p hp => ?_, fun p hp => ?_, List.mem_cons_of_mem _ h7, fun nd => ?_⟩
    · rcases List.mem_cons.mp hp with rfl | hp
      · exact .inr List.mem_cons_self
      · exact (h5 p hp).imp id (List.mem_cons_of_mem _)
    · rcases List.mem_cons.mp hp with rfl | hp
      · exact List.mem_cons_self
      · exact List.mem_cons_of_mem _ (h6 p hp)
    · rw [List.nodup_cons] at nd
      obtain ⟨n1, n2⟩ := h8 nd.2
      refine ⟨List.nodup_cons.mpr ⟨fun hm => nd.1 (h6 _ hm), n1⟩, fun hm => ?_⟩
      rcases List.mem_cons.mp hm with rfl | hm
      · exact nd.1 h7
      · exact n2 hm
  | _, _, _, 0, _, _, _, .q h k, e => by simp at e
  | _, _, _, i + 1, _, _, _, @Sl.q _ _ _ _ _ _ _ _ _ qs own h k, e => by
    obtain ⟨a, own', h1, h2, h3, h4, h5, h6, h7, h8⟩ := Sl.takeO (i := i) k (by simpa using e)
    refine ⟨a, qs ++ own', h1, h2, h3, .q h h4, fun p hp => ?_, fun p hp => ?_, List.mem_append_right _ h7, fun nd => ?_⟩
    · rcases List.mem_append.mp hp with hp | hp
      · exact .inr (List.mem_append_left _ hp)
      · exact (h5 p hp).imp id (List.mem_append_right _)
    · rcases List.mem_append.mp hp with hp | hp
      · exact List.mem_append_left _ hp
      · exact List.mem_append_right _ (h6 p hp)
    · have n0 := List.nodup_append.mp nd
      obtain ⟨n1, n2⟩ := h8 n0.2.1
      refine ⟨nodup_sub nd h6 n1, fun hm => ?_⟩
      rcases List.mem_append.mp hm with hm | hm
      · exact n0.2.2 _ hm _ h7 rfl
      · exact n2 hm
theorem Sl.cons_inv {G : Hp} {s : Option S} {es : En} {v : Option V} {vs : List (Option V)} {own : Owns} (h : Sl c B G H (s :: es) (v :: vs) own) : (s = none ∧ Sl c B G H es vs own) ∨ (∃ w x, s = some (.d x) ∧ v = some w ∧ Rp c G w x ∧ Sl c B G H es vs own) ∨
    (∃ a b x o', s = some (.o b x) ∧ v = some (.ref a) ∧ own = a :: o' ∧ Cell c G H a x ∧ (∀ k, b = some k → B.at_ k = some a) ∧ Sl c B G H es vs o') ∨
    ∃ a ks dss os o', s = some (.q ks dss) ∧ v = some (.ref a) ∧ own = os ++ o' ∧ QCell c B G H a ks dss os ∧ Sl c B G H es vs o' := by
  cases h with
  | skip k => exact .inl ⟨rfl, k⟩
  | d h k => exact .inr (.inl ⟨_, _, rfl, rfl, h, k⟩)
  | o h hb k => exact .inr (.inr (.inl ⟨_, _, _, _, rfl, rfl, rfl, h, hb, k⟩))
  | q h k => exact .inr (.inr (.inr ⟨_, _, _, _, _, rfl, rfl, rfl, h, k⟩))
theorem Sl.putO {G : Hp} : ∀ {es : En} {vs : List (Option V)} {own : Owns} {i : Nat} {b : Option Nat} {x : D} {a : Addr}, Sl c B G H (es.set i none) vs own → i < es.length → vs[i]? = some (some (.ref a)) → Cell c G H a x → (∀ k, b = some k → B.at_ k = some a) → ∃ own', Sl c B G H (es.set i (some (.o b x))) vs own' ∧ (∀ p ∈ own', p = a ∨ p ∈ own) ∧ (own.Nodup → a ∉ own → own'.Nodup)
  | [], _, _, _, _, _, _, _, hi, _, _, _ => by simp at hi
  | s :: es, v :: vs, own, 0, b, x, a, h, _, ev, hc, hb => by
    have h : Sl c B G H (none :: es) (v :: vs) own := h
    simp at ev
    subst ev
    cases h with
    | skip h => exact ⟨a :: own, .o hc hb h, fun p hp => List.mem_cons.mp hp, fun nd na => List.nodup_cons.mpr ⟨na, nd⟩⟩
  | s :: es, [], own, 0, b, x, a, h, _, ev, hc, hb => by simp at ev
  | s :: es, [], own, i + 1, b, x, a, h, _, ev, hc, hb => by simp at ev
  | s :: es, v :: vs, own, i + 1, b, x, a, h, hi, ev, hc, hb => by
    have hj : i < es.length := by simpa using hi
    have ew : vs[i]? = some (some (.ref a)) := by simpa using ev
    rcases Sl.cons_inv (show Sl c B G H (s :: es.set i none) (v :: vs) own from h) with ⟨rfl, k⟩ | ⟨w, y, rfl, rfl, hh, k⟩ | ⟨a', b', y, o', rfl, rfl, rfl, hh, hb', k⟩ | ⟨a', ks, dss, os, o', rfl, rfl, rfl, hh, k⟩
    · obtain ⟨own', h1, h2, h3⟩ := Sl.putO k hj ew hc hb
      exact ⟨own', .skip h1, h2, h3⟩
    · obtain ⟨own', h1, h2, h3⟩ := Sl.putO k hj ew hc hb
      exact ⟨own', .d hh h1, h2, h3⟩
    · obtain ⟨own', h1, h2, h3⟩ := Sl.putO k hj ew hc hb
      refine ⟨a' :: own', .o hh hb' h1, fun p hp => ?_, fun nd na => ?_⟩
      · rcases List.mem_cons.mp hp with rfl | hp
        · exact .inr List.mem_cons_self
        · exact (h2 p hp).imp id (List.mem_cons_of_mem _)
      · rw [List.nodup_cons] at nd
        rw [List.mem_cons, not_or] at na
        refine List.nodup_cons.mpr ⟨fun hm => ?_, h3 nd.2 na.2⟩
        rcases h2 a' hm with e | hm
        · exact na.1 e.symm
        · exact nd.1 hm
    · obtain ⟨own', h1, h2, h3⟩ := Sl.putO k hj ew hc hb
      refine ⟨os ++ own', .q hh h1, fun p hp => ?_, fun nd na => ?_⟩
      · rcases List.mem_append.mp hp with hp | hp
        · exact .inr (List.mem_append_left _ hp)
        · exact (h2 p hp).imp id (List.mem_append_right _)
      · rw [List.nodup_append] at nd ⊢
        rw [List.mem_append, not_or] at na
        refine ⟨nd.1, h3 nd.2.1 na.2, fun x hx y hy e => ?_⟩
        rcases h2 y hy with z | z
        · exact na.1 (z ▸ e ▸ hx)
        · exact nd.2.2 x hx y z e
theorem Rep.enterO {ds : List D} {us : List V} {b : Option Nat} {x : D} {a : Addr} (hl : us.length = ds.length) (hj : j ≤ ds.length) (r : Rep c B (tmp ds ++ ts) (tmv us ++ vs) ρ σ H) (e : ρ[i]? = some (some (.o b x))) (ev : σ[i]? = some (some (.ref a))) :
    Rep c ⟨fun k => if k = j then some a else none, B.pin⟩ (erE ts ++ erE (ρ.set i none)) (vs ++ σ) (((ds.take j).map S.d ++ S.o (some j) x :: (ds.drop j).map S.d).map some) ((us.take j ++ V.ref a :: us.drop j).map some) H := by
  obtain ⟨G, o1, o2, k, h1, h2⟩ := r
  obtain ⟨a1, a2⟩ := h1.tmp hl
  obtain ⟨a', own', e1, hc, _, h3, m1, m2, m3, m4⟩ := h2.takeO e
  rw [ev] at e1
  cases e1
  have nd := k.nd
  rw [List.nodup_append] at nd
  obtain ⟨n1, n2, n3⟩ := nd
  obtain ⟨n4, n5⟩ := m4 n2
  refine ⟨G, o1 ++ own', [a], (k.anyB).subO (fun p hp => ?_) ?_, (a2.er).app h3.er, ?_⟩
  · rcases List.mem_append.mp hp with hp | hp
    · rcases List.mem_append.mp hp with hp | hp
      · exact List.mem_append_left _ hp
      · exact List.mem_append_right _ (m2 p hp)
    · simp at hp
      subst hp
      exact List.mem_append_right _ m3
  · rw [List.nodup_append, List.nodup_append]
    refine ⟨⟨n1, n4, fun x hx y hy => n3 x hx y (m2 y hy)⟩, by simp, fun x hx y hy => ?_⟩
    simp at hy
    subst hy
    rcases List.mem_append.mp hx with hx | hx
    · exact n3 x hx _ m3
    · exact fun z => n5 (z ▸ hx)
  · rw [List.map_append, List.map_cons, List.map_append, List.map_cons, List.map_map, List.map_map]
    have s1 : Sl c ⟨fun k => if k = j then some a else none, B.pin⟩ G H ((ds.take j).map fun x => some (S.d x)) ((us.take j).map some) [] := (a1.take j).slot
    have s2 : Sl c ⟨fun k => if k = j then some a else none, B.pin⟩ G H ((ds.drop j).map fun x => some (S.d x)) ((us.drop j).map some) [] := (a1.drop j).slot
    exact s1.app (.o hc (fun k hk => by cases hk; simp) s2)
theorem Rep.leaveO {s : S} {v : V} {ρ' : En} {σ' : L2.St} {H0 : Hp} {b : Option Nat} {x y : D} {a : Addr} (hs : bare s = true) (r0 : Rep c B ts vs ρ σ H0) (e : ρ[i]? = some (some (.o b x))) (ev : σ[i]? = some (some (.ref a)))
    (r : Rep c ⟨fun k => if k = j then some a else none, B.pin⟩ (some s :: (erE ts ++ erE (ρ.set i none))) (some v :: (vs ++ σ)) ρ' σ' H) (e' : ρ'[j]? = some (some (.o (some j) y))) : Rep c B (some s :: ts) (some v :: vs) (ρ.set i (some (.o b y))) σ H := by
  obtain ⟨G0, p1, p2, k0, g1, g2⟩ := r0
  obtain ⟨a0, own0, e0, _, hb0, g3, _⟩ := g2.takeO e
  rw [ev] at e0
  cases e0
  obtain ⟨G, o1, o2, k, h1, h2⟩ := r
  obtain ⟨w, os, o1', ew, e1, rfl, h1'⟩ := h1.unone
  cases ew
  obtain ⟨q1, q2, rfl, f1, f2⟩ := h1'.split (by rw [show (erE ts).length = ts.length by simp [erE]]; exact g1.length)
  have e1' : En1 c B G H s v os := by
    cases e1 with
    | d h => exact .d h
    | @o a b x hc hb =>
      cases b with
      | none => exact .o hc fun _ e => nomatch e
      | some k => cases hs
    | q h => cases hs
  obtain ⟨a2, e2, hc2, m2, hb2⟩ := h2.getO e'
  have ea : a2 = a := by
    have := hb2 j rfl
    simp at this
    exact this.symm
  subst ea
  have hi : i < ρ.length := (List.getElem?_eq_some_iff.mp e).1
  have nd := k.nd
  rw [List.nodup_append, List.nodup_append, List.nodup_append] at nd
  obtain ⟨⟨n1, ⟨n2, n3, n4⟩, n5⟩, n6, n7⟩ := nd
  have na : a2 ∉ q2 := fun hm => n7 a2 (List.mem_append_right _ (List.mem_append_right _ hm)) a2 m2 rfl
  obtain ⟨own', f3, m3, m4⟩ := Sl.putO (g3.unflag f2) hi ev hc2 hb0
  refine ⟨G, os ++ q1, own', (k.anyB).subO (fun p hp => ?_) ?_, Sl.one e1' (g1.unflag f1), f3⟩
  · simp only [List.mem_append] at hp ⊢
    rcases hp with (hp | hp) | hp
    · exact .inl (.inl hp)
    · exact .inl (.inr (.inl hp))
    · rcases m3 p hp with rfl | hp
      · exact .inr m2
      · exact .inl (.inr (.inr hp))
  · rw [List.nodup_append, List.nodup_append]
    refine ⟨⟨n1, n2, fun x hx y hy => n5 x hx y (List.mem_append_left _ hy)⟩, m4 n3 na, fun x hx y hy => ?_⟩
    rcases m3 y hy with rfl | hy
    · rcases List.mem_append.mp hx with hx | hx
      · exact n7 x (List.mem_append_left _ hx) _ m2
      · exact n7 x (List.mem_append_right _ (List.mem_append_left _ hx)) _ m2
    · rcases List.mem_append.mp hx with hx | hx
      · exact n5 x hx y (List.mem_append_right _ hy)
      · exact n4 x hx y hy
theorem den_callO (h : DenC c W tA i j fA) : Den c W (tCall (spF c F) [] E tA) (mCallO F i j fA) := fun B ts vs ρ σ H Q r q => by
  unfold mCallO at q
  rw [post_then] at q
  refine h B ts vs ρ σ H _ r (q.imp1 fun ds ρ1 q us H1 a hl r1 ev hj => ?_)
  show spF c F (us.take j ++ V.ref a :: us.drop j ++ []) H1 Q E
  rw [List.append_nil]
  split at q
  · rename_i b x e
    rw [if_pos hj] at q
    refine ⟨_, _, _, _, r1.enterO hl hj e ev, ?_⟩
    have r2 := r1.dropN hl
    cases hf : F ((ds.take j).map .d ++ .o (some j) x :: (ds.drop j).map .d) with
    | stuck => rw [hf] at q; exact q.elim
    | err e ρ' => rw [hf] at q; exact q.elim
    | ok s ρ' =>
      rw [hf] at q
      have q2 : Post (OkP c B ts vs σ Q) (ErrP c W B ts vs σ) (match ρ'[j]? with
        | some (some (.o (some j') y)) => if j' = j ∧ bare s = true then .ok s (ρ1.set i (some (.o b y))) else .stuck
        | _ => .stuck) := q
      clear q
      split at q2
      · rename_i j' y e'
        split at q2
        · rename_i hh
          obtain ⟨rfl, hs⟩ := hh
          exact fun v σ' H' r' => q2 v H' (Rep.leaveO hs r2 e ev r' e')
        · exact q2.elim
      · exact q2.elim
  · exact q.elim
end
/-! ### fields -/
/-- what the text tells of a class, of a field of it -/
structure FldOk (c : Cfg) (n : String) (f : Str) (i : Nat) : Prop where
  cl : Cls c.K (c.cls n)
  na : NoAttr c.K (c.cls n) f
  at_ : (c.flds n)[i]? = some f
  nd : (c.flds n).Nodup
def gFld (n : String) (i : Nat) : D → Option S
  | .ins m ds => if m = n then (ds[i]?).bind ok1 else none
  | _ => none
def mFldE (n : String) (i : Nat) (fe : M S) : M S := mUn (gFld n i) fe
section
variable {c : Cfg} {W : WX} {te : TE} {fe : M S} {n : String} {f : Str} {i k : Nat}
theorem lookup_at : ∀ {fs : List (Str × V)} {i : Nat} {f : Str}, (fs.map (·.1)).Nodup → (fs.map (·.1))[i]? = some f → ∃ v, fs.lookup f = some v ∧ (fs.map (·.2))[i]? = some v
  | [], _, _, _, e => by simp at e
  | (g, v) :: fs, 0, f, nd, e => by
    simp at e
    subst e
    exact ⟨v, by simp, rfl⟩
  | (g, v) :: fs, i + 1, f, nd, e => by
    rw [List.map_cons, List.nodup_cons] at nd
    have e : (fs.map (·.1))[i]? = some f := by simpa using e
    obtain ⟨w, h1, h2⟩ := lookup_at nd.2 e
    refine ⟨w, ?_, h2⟩
    have ne : f ≠ g := fun z => nd.1 (z ▸ List.mem_of_getElem? e)
    rw [List.lookup_cons, beq_eq_false_iff_ne.mpr ne]
    exact h1
/-- the field's value, where the first of the fields stand -/
theorem fld_read {K : FldOk c n f i} {fs : List (Str × V)} {ds : List D} {G : Hp} {x : D} (hn : fs.map (·.1) = (c.flds n).take ds.length) (k : RpAll c G (fs.map (·.2)) ds) (e : ds[i]? = some x) : ∃ v, fs.lookup f = some v ∧ Rp c G v x := by
  have hi : i < ds.length := (List.getElem?_eq_some_iff.mp e).1
  have nd : (fs.map (·.1)).Nodup := by
    rw [hn]
    exact K.nd.sublist (List.take_sublist _ _)
  obtain ⟨v, h1, h2⟩ := lookup_at nd (by rw [hn, List.getElem?_take_of_lt hi]; exact K.at_)
  obtain ⟨d, h3, h4⟩ := k.getV h2
  rw [e] at h3
  cases h3
  exact ⟨v, h1, h4⟩
theorem Rp.insE {G : Hp} {v : V} {ds : List D} (h : Rp c G v (.ins n ds)) : ∃ a dx fs, v = .ref a ∧ G a = some (.ins (c.cls n) dx fs) ∧ fs.map (·.1) = (c.flds n).take ds.length ∧ RpAll c G (fs.map (·.2)) ds := by cases h with | ins h1 h2 h3 => exact ⟨_, _, _, rfl, h1, h2, h3⟩
/-- .. by its getter -/
theorem den_prop (K : FldOk c n f i) (h : Den c W te fe) : Den c W (tProp (c.cls n) (getSp (c.cls n) f) [] E0 te) (mFldE n i fe) := fun B ts vs ρ σ H Q r q => by
  unfold mFldE mUn at q
  rw [post_then] at q
  refine h.dv r (q.imp1 fun x ρ1 q v H1 r1 => ?_)
  cases x <;> first | exact q.elim | skip
  rename_i m ds
  have q : Post (OkP c B ts vs σ Q) (ErrP c W B ts vs σ) (match (if m = n then (ds[i]?).bind ok1 else none) with
    | some s => .ok s ρ1
    | none => .stuck) := q
  by_cases hm : m = n
  · subst hm
    rw [if_pos rfl] at q
    cases e : ds[i]? with
    | none => rw [e] at q; exact q.elim
    | some x =>
      rw [e] at q
      obtain ⟨G, O, hv⟩ := r1.one
      obtain ⟨a, dx, fs, rfl, ha, hn, k⟩ := hv.insE
      obtain ⟨w, h1, h2⟩ := fld_read (K := K) hn k e
      exact ⟨a, dx, fs, rfl, O.sub _ _ ha, a, dx, fs, w, rfl, O.sub _ _ ha, h1, q _ _ (O.val h2)⟩
  · rw [if_neg hm] at q
    exact q.elim
/-- self.f = e, the next of its fields -/
def mSetF (n : String) (i k : Nat) (fe : M S) : M Fl := fun ρ => (dv fe ρ).then fun x ρ1 => match ρ1[k]? with
  | some (some (.o b (.ins m ds))) => if m = n ∧ ds.length = i then .ok .nx (ρ1.set k (some (.o b (.ins m (ds ++ [x]))))) else .stuck
  | _ => .stuck
theorem putF_new : ∀ {fs : List (Str × V)} {f : Str} {v : V}, f ∉ fs.map (·.1) → (putF f v fs).map (·.1) = fs.map (·.1) ++ [f] ∧ (putF f v fs).map (·.2) = fs.map (·.2) ++ [v]
  | [], f, v, _ => by simp [putF]
  | (g, u) :: fs, f, v, h => by
    rw [List.map_cons, List.mem_cons, not_or] at h
    obtain ⟨h1, h2⟩ := putF_new (v := v) h.2
    have e : putF f v ((g, u) :: fs) = (g, u) :: putF f v fs := by
      show (if g = f then (g, v) :: fs else (g, u) :: putF f v fs) = _
      rw [if_neg (fun z => h.1 z.symm)]
    rw [e]
    simp [h1, h2]
theorem ds_setF (K : FldOk c n f i) (hi : (c.flds n).length ≤ 100) (h : Den c W te fe) : DenS c W (sFld c.K (tVar k) te f) (mSetF n i k fe) := fun B ts vs ρ σ H D r q0 => by
  unfold mSetF at q0
  rw [post_then] at q0
  refine h.dv r (q0.imp (fun x ρ1 q v H1 r1 => ?_) fun _ _ h => h.toP)
  split at q
  · rename_i b m ds e
    split at q
    · rename_i hm
      obtain ⟨rfl, hl⟩ := hm
      obtain ⟨a, ev, G, sub, dx, fs, ha, hn, ka⟩ := r1.varO e
      have hil : i < (c.flds m).length := (List.getElem?_eq_some_iff.mp K.at_).1
      have hfl : fs.length = ds.length := by
        have := ka.length
        simpa using this
      have nf : f ∉ fs.map (·.1) := by
        rw [hn, hl]
        intro hm
        obtain ⟨j, hj, ej⟩ := List.mem_iff_getElem.mp hm
        have hj2 : j < i := by
          rw [List.length_take] at hj
          omega
        rw [List.getElem_take] at ej
        have e2 := (List.getElem?_eq_some_iff.mp K.at_).2
        have := (List.getElem_inj K.nd).mp (ej.trans e2.symm)
        omega
      refine ⟨.ref a, ev, a, _, dx, fs, rfl, ha, K.cl, K.na, by omega, ?_⟩
      refine q _ _ (Rep.write (ds := [x]) (us := [v]) e ev rfl r1 ha (.ins _ _ _) fun G H' e' hc hk => ?_)
      obtain ⟨dx', fs', ha', hn', ka'⟩ := hc
      rw [ha] at ha'
      cases ha'
      obtain ⟨p1, p2⟩ := putF_new (v := v) nf
      refine ⟨dx, _, e', ?_, ?_⟩
      · rw [p1, hn, List.length_append, List.length_singleton, hl, List.take_succ, K.at_]
        rfl
      · rw [p2]
        cases hk with
        | cons hk _ => exact ka'.snoc hk
    · exact q.elim
  · exact q.elim
end
/-- C(..) -/
def mMake (n : String) (nf : Nat) (F : Fn) (fA : M (List D)) : M S := fun ρ => (fA ρ).then fun ds ρ1 => match F (S.o (some 0) (D.ins n []) :: ds.map S.d) with
  | .ok (.d .non) ρ' => match (ρ'[0]? : Option (Option S)) with
    | some (some (.o (some j) (.ins m fs))) => if j = 0 ∧ m = n ∧ fs.length = nf then .ok (.d (.ins n fs)) ρ1 else .stuck
    | _ => .stuck
  | _ => .stuck
section
variable {c : Cfg} {W : WX} {tA : TA} {fA : M (List D)} {F : Fn} {n : String} {nf : Nat} {E : XK}
theorem Rep.foreign {B : Base} {ts : En} {vs : List (Option V)} {ρ : En} {σ : L2.St} {H : Hp} {p : Addr} {o : HO} (hp : H p = none) (r : Rep c B ts vs ρ σ H) : Rep c B ts vs ρ σ (upd H p o) := by
  obtain ⟨G, o1, o2, k, h1, h2⟩ := r
  have ow := own_new (o := o) k hp
  refine ⟨G, o1, o2, ⟨fun a u e => ?_, k.notbl, k.nd, fun q hq => ?_, tabs_new k.tabs hp, k.pint, fun a u e => ⟨by rw [upd_ne (ne_of_none (k.pin a u e).1 hp)]; exact (k.pin a u e).1, (k.pin a u e).2⟩⟩, h1.mono (fun _ _ e => e) fun q hq => ow q (List.mem_append_left _ hq), h2.mono (fun _ _ e => e) fun q hq => ow q (List.mem_append_right _ hq)⟩
  · rw [upd_ne (ne_of_none (k.sub a u e) hp)]
    exact k.sub a u e
  · rw [ow q hq]
    exact k.out q hq
theorem den_make (hnf : (c.flds n).length = nf) (h : DenA c W tA fA) : Den c W (tMake (c.cls n) (spF c F) [] E tA) (mMake n nf F fA) := fun B ts vs ρ σ H Q r q0 => by
  unfold mMake at q0
  rw [post_then] at q0
  refine h B ts vs ρ σ H _ r (q0.imp1 fun ds ρ1 q us H1 hl r1 => ?_)
  intro x dx hx hdx ne
  show spF c F (.ref x :: (us ++ [])) _ _ E
  rw [List.append_nil]
  have r2 := Rep.foreign (o := .own x) hdx r1
  have hx2 : upd H1 dx (.own x) x = none := by rw [upd_ne ne.symm]; exact hx
  have ra : Rep c ⟨fun k => if k = 0 then some x else none, B.pin⟩ (erE ts ++ erE ρ1) (vs ++ σ) ((S.o (some 0) (.ins n []) :: ds.map S.d).map some) ((V.ref x :: us).map some) (upd (upd H1 dx (.own x)) x (.ins (c.cls n) dx [])) := by
    obtain ⟨G, o1, o2, k, h1, h2⟩ := r2
    obtain ⟨a1, a2⟩ := h1.tmp hl
    have k2 := (k.allocO (o := .ins (c.cls n) dx []) hx2)
    have ow := own_new (o := .ins (c.cls n) dx []) k hx2
    have nd := k2.nd
    rw [List.nodup_cons] at nd
    refine ⟨G, o1 ++ o2, [x], (k2.anyB).subO (fun p hp => ?_) ?_, ((a2.mono (fun _ _ e => e) fun q hq => ow q (List.mem_append_left _ hq)).er).app (h2.mono (fun _ _ e => e) fun q hq => ow q (List.mem_append_right _ hq)).er, ?_⟩
    · rcases List.mem_append.mp hp with hp | hp
      · exact List.mem_cons_of_mem _ hp
      · simp at hp
        subst hp
        exact List.mem_cons_self
    · rw [List.nodup_append]
      refine ⟨nd.2, by simp, fun y hy z hz => ?_⟩
      simp at hz
      subst hz
      exact fun e => nd.1 (e ▸ hy)
    · rw [List.map_cons, List.map_map]
      exact .o ⟨dx, [], upd_same, by simp, .nil⟩ (fun k hk => by cases hk; rfl) a1.slot
  refine ⟨_, _, _, _, ra, ?_⟩
  have r3 := r1.dropN hl
  cases hf : F (S.o (some 0) (D.ins n []) :: ds.map S.d) with
  | stuck => rw [hf] at q; exact q.elim
  | err e ρ' => rw [hf] at q; exact q.elim
  | ok s ρ' =>
    rw [hf] at q
    match s, q with
    | .d .non, q =>
      have q2 : Post (OkP c B ts vs σ Q) (ErrP c W B ts vs σ) (match (ρ'[0]? : Option (Option S)) with
        | some (some (.o (some j) (.ins m fs))) => if j = 0 ∧ m = n ∧ fs.length = nf then .ok (.d (.ins n fs)) ρ1 else .stuck
        | _ => .stuck) := q
      clear q
      split at q2
      · rename_i j m fs e'
        split at q2
        · rename_i hh
          obtain ⟨rfl, rfl, hfs⟩ := hh
          intro v σ' H' r'
          obtain ⟨G, o1, o2, k, h1, h2⟩ := r'
          obtain ⟨a, ev, hc, hm, hb⟩ := h2.getO e'
          have ea : a = x := by
            have := hb 0 rfl
            simp at this
            exact this.symm
          subst ea
          cases h1 with
          | d hv h1 =>
            cases hv
            refine ⟨rfl, q2 _ _ ?_⟩
            obtain ⟨dx', gs, ha, hn, ka⟩ := hc
            obtain ⟨G0, p1, p2, k0, g1, g2⟩ := r3
            obtain ⟨q1, q2, rfl, f1, f2⟩ := h1.split (by rw [show (erE ts).length = ts.length by simp [erE]]; exact g1.length)
            have nd := k.nd
            rw [List.nodup_append] at nd
            have gp := (k.out a (List.mem_append_right _ hm)).1
            have k3 : OkB c B (upd G a (.ins (c.cls m) dx' gs)) H' (q1 ++ q2) := (k.anyB).freeze (List.mem_append_right _ hm) ha rfl (fun q hq => ⟨List.mem_append_left _ hq, nd.2.2 q hq a hm⟩) nd.1
            refine ⟨_, q1, q2, k3, .d (.ins upd_same ?_ (ka.mono (upd_sub gp))) ((g1.unflag f1).mono (upd_sub gp) fun _ _ => rfl), (g2.unflag f2).mono (upd_sub gp) fun _ _ => rfl⟩
            rw [hn]
        · exact q2.elim
      · exact q2.elim
end
end Fx
/-! slices, chains, truth, isinstance, cells of names -/
namespace Fx
open PySem PySem.Spec PyProof.Rows L2
/-! ### slices -/
def cutD (xs : List D) (lo hi : Option Int) : List D := (xs.drop (HT.sIx xs.length 0 lo)).take (HT.sIx xs.length xs.length hi - HT.sIx xs.length 0 lo)
theorem RpAll.cut {c : Cfg} {G : Hp} {us : List V} {xs : List D} (k : RpAll c G us xs) (lo hi : Option Int) : RpAll c G (cutV us lo hi) (cutD xs lo hi) := by
  unfold cutV cutD
  rw [k.length]
  exact (k.drop _).take _
def rSlG (K : PySem.W.Frag) : V → Option Int → Option Int → Hp → VK → Prop := fun x lo hi H Q => rSlN K x lo hi H Q ∨ rSlL K x lo hi H Q ∨ C8.rSlX x lo hi H Q
theorem sl_G {X : Cx} : SlR X (rSlG X.K) := SlR.or sl_tupN (SlR.or sl_list C8.sl_txt)
def gSl (x : D) (lo hi : Option Int) : Option S := match x with
  | .tup xs => ok1 (.tup (cutD xs lo hi))
  | .lst xs => some (.o none (.lst (cutD xs lo hi)))
  | .str z => if small z.length then ok1 (.str (Txt.slice z lo hi)) else none
  | _ => none
def oNone : M (Option Int) := fun ρ => .ok none ρ
def oSome (f : M S) : M (Option Int) := fun ρ => (dv f ρ).then fun x ρ' => match x with
  | .int i => .ok (some i) ρ'
  | _ => .stuck
def DenO (c : Cfg) (W : WX) (to : TO) (f : M (Option Int)) : Prop := ∀ B ts vs ρ σ H Q, Rep c B ts vs ρ σ H → Post (fun o ρ' => ∀ H', Rep c B ts vs ρ' σ H' → Q o H') (ErrP c W B ts vs σ) (f ρ) → to σ H Q
def mSl (fe : M S) (fl fh : M (Option Int)) : M S := fun ρ => (dv fe ρ).then fun x ρ1 => (fl ρ1).then fun lo ρ2 => (fh ρ2).then fun hi ρ3 => match gSl x lo hi with
  | some s => .ok s ρ3
  | none => .stuck
section
variable {c : Cfg} {W : WX} {te ta tb tc : TE} {fe fa fb fc : M S} {tl th : TO} {fl fh : M (Option Int)}
theorem do_none : DenO c W tNoPart oNone := fun B ts vs ρ σ H Q r q => q H r
theorem do_some (h : Den c W te fe) : DenO c W (tPart te) (oSome fe) := fun B ts vs ρ σ H Q r q => by
  unfold oSome at q
  rw [post_then] at q
  refine h.dv r (q.imp1 fun x ρ1 q v H1 r1 => ?_)
  cases x <;> first | exact q.elim | skip
  obtain ⟨G, O, hv⟩ := r1.one
  cases hv
  exact ⟨_, rfl, q H1 r1.drop⟩
theorem cutD_all {xs : List D} {lo hi : Option Int} (h : HT.sIx xs.length 0 lo = 0 ∧ HT.sIx xs.length xs.length hi = xs.length) : cutD xs lo hi = xs := by
  unfold cutD
  rw [h.1, h.2]
  simp
theorem den_sl (h : Den c W te fe) (hl : DenO c W tl fl) (hh : DenO c W th fh) : Den c W (tSl (rSlG c.K) te tl th) (mSl fe fl fh) := fun B ts vs ρ σ H Q r q => by
  unfold mSl at q
  rw [post_then] at q
  refine h.dv r (q.imp1 fun x ρ1 q1 v H1 r1 => ?_)
  rw [post_then] at q1
  refine hl B _ _ ρ1 σ H1 _ r1 (q1.imp (fun lo ρ2 q2 H2 r2 => ?_) fun _ _ h => h.drop)
  rw [post_then] at q2
  refine hh B _ _ ρ2 σ H2 _ r2 (q2.imp (fun hi ρ3 q3 H3 r3 => ?_) fun _ _ h => h.drop)
  obtain ⟨G, O, hv⟩ := r3.one
  cases x with
  | tup xs =>
    obtain ⟨a, us, rfl, ha, k, n⟩ := hv.tupN
    refine .inl ⟨a, us, rfl, SqT.up O.sub ha, fun hw => ?_, fun hw p o hp ho => ?_⟩
    · rw [k.length] at hw
      have e : cutD xs lo hi = xs := cutD_all hw
      have q4 : OkP c B ts vs σ Q (.d (.tup (cutD xs lo hi))) ρ3 := q3
      rw [e] at q4
      exact q4 _ _ (O.val (.tup ha k n))
    · exact q3 _ _ (O.new hp rfl fun G' m e => .tup (.inl (.inr ⟨o, e⟩)) ((k.cut lo hi).mono m) fun _ => ⟨o, e, ho⟩)
  | lst xs =>
    obtain ⟨a, us, rfl, ha, k⟩ := hv.lstE
    exact .inr (.inl ⟨a, us, rfl, SqL.of (O.sub _ _ ha), fun p hp => q3 _ _ (O.newO hp fun H' e => ⟨_, e, k.cut lo hi⟩)⟩)
  | str z =>
    have q4 : Post (OkP c B ts vs σ Q) (ErrP c W B ts vs σ) (match (if small z.length then ok1 (.str (Txt.slice z lo hi)) else none) with
      | some s => .ok s ρ3
      | none => .stuck) := q3
    by_cases hz : small z.length = true
    · rw [if_pos hz] at q4
      cases hv
      exact .inr (.inr ⟨z, rfl, small_line hz, q4 _ _ (O.val (.str _))⟩)
    · rw [if_neg hz] at q4
      exact q4.elim
  | _ => exact q3.elim
/-! ### a op b op c -/
def mChain (g g' : D → D → Option S) (fa fb fc : M S) : M S := fun ρ => (dv fa ρ).then fun x ρ1 => (dv fb ρ1).then fun y ρ2 => match g x y with
  | some (.d (.bl true)) => (dv fc ρ2).then fun z ρ3 => match g' y z with
      | some s => .ok s ρ3
      | none => .stuck
  | some (.d (.bl false)) => .ok (.d (.bl false)) ρ2
  | _ => .stuck
theorem den_chain {r r' : R2} {g g' : D → D → Option S} (ho : OpDen c r g) (ho' : OpDen c r' g') (hmono : ∀ x y H Q Q', (∀ v H', Q v H' → Q' v H') → r x y H Q → r x y H Q') (ha : Den c W ta fa) (hb : Den c W tb fb) (hc : Den c W tc fc) : Den c W (tChain r r' ta tb tc) (mChain g g' fa fb fc) := fun B ts vs ρ σ H Q rp q => by
  unfold mChain at q
  rw [post_then] at q
  refine ha.dv rp (q.imp1 fun x ρ1 q1 v H1 r1 => ?_)
  rw [post_then] at q1
  refine hb.dv r1 (q1.imp (fun y ρ2 q2 u H2 r2 => ?_) fun _ _ h => h.drop)
  have fin : ∀ b, g x y = some (.d (.bl b)) → (if b = true then ∀ H3, Rep c B (some (.d y) :: ts) (some u :: vs) ρ2 σ H3 → tc σ H3 (fun w' H4 => r' u w' H4 Q) else ∀ H3, Rep c B ts vs ρ2 σ H3 → Q (.bl false) H3) → r v u H2 fun z H3 => ∃ k, z = .bl k ∧ (if k = true then tc σ H3 (fun w' H4 => r' u w' H4 Q) else Q (.bl false) H3) := by
    intro b hg hk
    -- keep y waiting
    have r3 : Rep c B (some (.d y) :: some (.d x) :: some (.d y) :: ts) (some u :: some v :: some u :: vs) ρ2 σ H2 := by
      obtain ⟨G, o1, o2, k, h1, h2⟩ := r2
      cases h1 with
      | d a h1 =>
        cases h1 with
        | d b h1 => exact ⟨G, o1, o2, k, .d a (.d b (.d a h1)), h2⟩
    refine ho B _ _ ρ2 σ H2 _ x y v u _ r3 hg fun w H3 r4 => ?_
    obtain ⟨G, O, hw⟩ := r4.one
    cases hw
    refine ⟨b, rfl, ?_⟩
    cases b with
    | true => exact hk H3 r4.drop
    | false => exact hk H3 r4.drop.drop
  split at q2
  · rename_i hg
    refine fin true hg fun H3 r3 => ?_
    rw [post_then] at q2
    refine hc.dv r3 (q2.imp (fun z ρ3 q3 w H4 r4 => ?_) fun _ _ h => h.drop)
    split at q3
    · rename_i s hs
      exact ho' B ts vs ρ3 σ H4 Q y z u w s r4 hs q3
    · exact q3.elim
  · rename_i hg
    exact fin false hg fun H3 r3 => OkP.bl q2 r3
  · exact q2.elim
end
/-! ### truth -/
def truD : D → Option Bool
  | .non => some false
  | .bl b => some b
  | .int i => some (i != 0)
  | .str z => if small z.length then some ((z.length : Int) != 0) else none
  | .tup ds => some (!ds.isEmpty)
  | .lst ds => some (!ds.isEmpty)
  | _ => none
def mTruth (fe : M S) : M Bool := fun ρ => (dv fe ρ).then fun x ρ1 => match truD x with
  | some b => .ok b ρ1
  | none => .stuck
section
variable {c : Cfg} {W : WX} {te : TE} {fe : M S} {i : Nat}
theorem isEmpty_len {α β : Type} {xs : List α} {ys : List β} (h : xs.length = ys.length) : xs.isEmpty = ys.isEmpty := by
  cases xs <;> cases ys <;> first | rfl | simp at h
theorem Rp.tru {G H : Hp} {v : V} {x : D} {b : Bool} (s : ∀ a o, G a = some o → H a = some o) (h : Rp c G v x) (e : truD x = some b) : TruV c.K v H b := by
  cases x with
  | non => cases e; cases h; rfl
  | bl b => cases e; cases h; rfl
  | int i => cases e; cases h; rfl
  | str z =>
    have e : (if small z.length then some ((z.length : Int) != 0) else none) = some b := e
    split at e
    · rename_i hz
      cases e
      cases h
      exact ⟨small_line hz, rfl⟩
    · cases e
  | tup ds =>
    cases e
    obtain ⟨a, us, rfl, ha, k⟩ := h.tupE
    exact .inr (.inl ⟨us, SqT.up s ha, by rw [isEmpty_len k.length]⟩)
  | lst ds =>
    cases e
    obtain ⟨a, us, rfl, ha, k⟩ := h.lstE
    exact .inl ⟨us, SqL.of (s _ _ ha), by rw [isEmpty_len k.length]⟩
  | _ => cases e
def tTru (K : PySem.W.Frag) (te : TE) : TT := fun σ H Q => te σ H fun x H1 => ∃ k, TruV K x H1 k ∧ Q k H1
theorem dt_truth (h : Den c W te fe) : DenT c W (tTru c.K te) (mTruth fe) := fun B ts vs ρ σ H Q r q => by
  unfold mTruth at q
  rw [post_then] at q
  refine h.dv r (q.imp1 fun x ρ1 q v H1 r1 => ?_)
  split at q
  · rename_i b e
    obtain ⟨G, O, hv⟩ := r1.one
    exact ⟨b, hv.tru O.sub e, q H1 r1.drop⟩
  · exact q.elim
end
/-! ### isinstance -/
def tyD : D → Option String
  | .non => some "NoneType"
  | .bl _ => some "bool"
  | .int _ => some "int"
  | .str _ => some "str"
  | .tup _ => some "tuple"
  | .lst _ => some "list"
  | _ => none
theorem Rp.tyX {c : Cfg} {G H : Hp} {v : V} {x : D} {n : String} (s : ∀ a o, G a = some o → H a = some o) (h : Rp c G v x) (e : tyD x = some n) : TyX c.K H v (.type n) := by
  cases h with
  | non => cases e; exact .base .non
  | bl b => cases e; exact .base (.bl b)
  | int i => cases e; exact .base (.int i)
  | str z => cases e; exact .base (.str z)
  | tup ha _ =>
    cases e
    rcases SqT.up s ha with (ha | ⟨o, ha⟩) | ⟨o, its, m, hk, hc, _⟩
    · exact .base (.tup ha)
    · exact .fTuple ha
    · exact .kTuple hk hc
  | lst ha _ => cases e; exact .base (.lst (s _ _ ha))
  | _ => cases e
def isTy (n : String) (x : D) : Option Bool := match n, x with
  | "int", .int _ => some true
  | "int", .bl _ => some true
  | "int", .non => some false
  | "int", .str _ => some false
  | "int", .tup _ => some false
  | "int", .lst _ => some false
  | "bool", .bl _ => some true
  | "bool", .int _ => some false
  | "bool", .non => some false
  | "bool", .str _ => some false
  | "bool", .tup _ => some false
  | "bool", .lst _ => some false
  | "str", .str _ => some true
  | "str", .int _ => some false
  | "str", .bl _ => some false
  | "str", .non => some false
  | "str", .tup _ => some false
  | "str", .lst _ => some false
  | "tuple", .tup _ => some true
  | "tuple", .int _ => some false
  | "tuple", .bl _ => some false
  | "tuple", .non => some false
  | "tuple", .str _ => some false
  | "tuple", .lst _ => some false
  | "list", .lst _ => some true
  | "list", .int _ => some false
  | "list", .bl _ => some false
  | "list", .non => some false
  | "list", .str _ => some false
  | "list", .tup _ => some false
  | _, _ => none
theorem isTy_kit {n : String} {x : D} {b : Bool} (h : isTy n x = some b) : ∃ m, tyD x = some m ∧ kitB m n = some b := by
  unfold isTy at h
  split at h <;> first | cases h | skip
  all_goals exact ⟨_, rfl, by decide +kernel⟩
def gIsi : List D → Option S
  | [x, .ty n] => (isTy n x).bind fun b => ok1 (.bl b)
  | _ => none
theorem cd_isi {c : Cfg} : CbDen c (rIsi c.K) gIsi := by
  intro B ts vs ρ σ H Q ds us s hl r e q
  match ds, hl, r, e with
  | [x, .ty n], hl, r, e =>
    obtain ⟨v, w, rfl, G, O, h1, h2⟩ := r.two' hl
    have e : (isTy n x).bind (fun b => ok1 (.bl b)) = some s := e
    cases e1 : isTy n x with
    | none => rw [e1] at e; cases e
    | some b =>
      rw [e1] at e
      cases e
      cases h2
      obtain ⟨m, t1, t2⟩ := isTy_kit e1
      exact ⟨v, .ty n, .type m, .type n, b, rfl, .ty n, h1.tyX O.sub t1, kit_ty t2, q _ _ (O.val (.bl _))⟩
/-- isinstance of an own class -/
structure ClsOk (c : Cfg) (n : String) : Prop where
  cl : Cls c.K (c.cls n)
  at_ : PySem.W.findIn c.K (.ref (c.cls n)) "__class__" = some (some (.builtin "object.__class__"))
  get : PySem.W.specialIn c.K (.builtin "object.__class__") "__get__" = some (some (.builtin "getset_descriptor.__get__"))
  tk : PySem.W.takesIn c.K (.builtin "object.__class__") = some true
  mr : PySem.W.mroIn c.K (c.cls n) (.type "object") = some true
  self : PySem.W.kitOne c.K (.ref (c.cls n)) (.ref (c.cls n)) = some true
def tIsC (K : PySem.W.Frag) (C : Addr) (te : TE) : TE := tCB (rIsi K) (tCons te (tCons (tC (.ref C)) tNil))
def mIsC (n : String) (fe : M S) : M S := mUn (fun x => match x with
  | .ins m _ => if m = n then ok1 (.bl true) else none
  | _ => none) fe
theorem den_isC {c : Cfg} {W : WX} {n : String} {te : TE} {fe : M S} (K : ClsOk c n) (h : Den c W te fe) : Den c W (tIsC c.K (c.cls n) te) (mIsC n fe) := fun B ts vs ρ σ H Q r q => by
  unfold mIsC mUn at q
  rw [post_then] at q
  refine h.dv r (q.imp1 fun x ρ1 q v H1 r1 => ?_)
  cases x <;> first | exact q.elim | skip
  rename_i m ds
  have q2 : Post (OkP c B ts vs σ Q) (ErrP c W B ts vs σ) (match (if m = n then ok1 (.bl true) else none) with
    | some s => .ok s ρ1
    | none => .stuck) := q
  clear q
  by_cases hm : m = n
  · subst hm
    rw [if_pos rfl] at q2
    obtain ⟨G, O, hv⟩ := r1.one
    obtain ⟨a, dx, fs, rfl, ha, _, _⟩ := hv.insE
    exact ⟨.ref a, .ref _, .ref _, .ref _, true, rfl, .own _, .base (.ins (O.sub _ _ ha) K.cl K.at_ K.get K.tk K.mr), K.self, q2 _ _ (O.val (.bl _))⟩
  · rw [if_neg hm] at q2
    exact q2.elim
/-! ### cells of names: what is read of them, how they are changed -/
/-- what stands at a name, wherever -/
def peek (ρ : En) (i : Nat) : Option D := match ρ[i]? with
  | some (some (.d x)) => some x
  | some (some (.o _ x)) => some x
  | _ => none
section
variable {c : Cfg} {W : WX} {B : Base} {ts : En} {vs : List (Option V)} {ρ : En} {σ : L2.St} {H : Hp} {te : TE} {fe : M S} {i : Nat}
theorem Rep.peekL {ds : List D} (e : peek ρ i = some (.lst ds)) (r : Rep c B ts vs ρ σ H) : ∃ a us G o1 o2, σ[i]? = some (some (.ref a)) ∧ H a = some (.lst us) ∧ RpAll c G us ds ∧ OkB c B G H (o1 ++ o2) ∧ Sl c B G H ts vs o1 ∧ Sl c B G H ρ σ o2 := by
  unfold peek at e
  obtain ⟨G, o1, o2, k, h1, h2⟩ := r
  split at e
  · rename_i x e1
    cases e
    obtain ⟨v, ev, hv⟩ := h2.getD e1
    obtain ⟨a, us, rfl, ha, ka⟩ := hv.lstE
    exact ⟨a, us, G, o1, o2, ev, k.sub _ _ ha, ka, k, h1, h2⟩
  · rename_i b x e1
    cases e
    obtain ⟨a, ev, ⟨us, ha, ka⟩, _, _⟩ := h2.getO e1
    exact ⟨a, us, G, o1, o2, ev, ha, ka, k, h1, h2⟩
  · cases e
/-- len(x), x a name -/
def mLenO (i : Nat) : M S := fun ρ => match peek ρ i with
  | some (.lst ds) => .ok (.d (.int ds.length)) ρ
  | _ => match ρ[i]? with
    | some (some (.d x)) => match lenD x with
      | some n => .ok (.d (.int n)) ρ
      | none => .stuck
    | _ => .stuck
/-- x[e], x a name that holds a list -/
def peekL (ρ : En) (i : Nat) : Bool := match peek ρ i with
  | some (.lst _) => true
  | _ => false
def mIxO (i : Nat) (fe : M S) : M S := fun ρ => if peekL ρ i then (dv fe ρ).then fun y ρ1 => match peek ρ1 i, y with
    | some (.lst ds), .int k => match atI ds k with
      | some x => .ok (.d x) ρ1
      | none => .stuck
    | _, _ => .stuck
  else .stuck
theorem den_lenO : Den c W (tCB (rLenG c.K) (tCons (tVar i) tNil)) (mLenO i) := fun B ts vs ρ σ H Q r q => by
  unfold mLenO at q
  split at q
  · rename_i ds e
    obtain ⟨a, us, G, o1, o2, ev, ha, ka, k, h1, h2⟩ := r.peekL e
    exact ⟨.ref a, ev, .inl ⟨a, us, rfl, .inl (SqL.of ha), by rw [ka.length]; exact q _ _ (Rep.repl (ds := []) (us := []) r rfl fun G _ => .int _)⟩⟩
  · split at q
    · rename_i x ed
      split at q
      · rename_i n en
        obtain ⟨v, ev, r1⟩ := r.var ed
        refine ⟨v, ev, cd_len B ts vs ρ σ H Q [x] [v] (.d (.int n)) rfl r1 ?_ q⟩
        show (lenD x).bind (fun n => ok1 (.int n)) = _
        rw [en]
        rfl
      · exact q.elim
    · exact q.elim
theorem den_ixO (h : Den c W te fe) : Den c W (tOp (rIx c.K) (tVar i) te) (mIxO i fe) := fun B ts vs ρ σ H Q r q => by
  unfold mIxO at q
  split at q
  · rename_i hp
    unfold peekL at hp
    split at hp
    · rename_i ds0 e0
      obtain ⟨a0, us0, _, _, _, ev, _⟩ := r.peekL e0
      rw [post_then] at q
      refine ⟨.ref a0, ev, h.dv r (q.imp1 fun y ρ1 q1 v H1 r1 => ?_)⟩
      split at q1
      · rename_i ds k e1
        obtain ⟨G, O, hv⟩ := r1.one
        cases hv
        obtain ⟨a, us, G, o1, o2, ev1, ha, ka, kk, h1, h2⟩ := r1.peekL e1
        rw [ev] at ev1
        cases ev1
        split at q1
        · rename_i x ex
          obtain ⟨w, ew, hw⟩ := ka.atI ex
          refine .inl ⟨a0, us, k, w, rfl, rfl, SqL.of ha, ew, q1 _ _ ?_⟩
          cases h1 with
          | d _ h1 => exact ⟨G, o1, o2, kk, .d hw h1, h2⟩
        · exact q1.elim
      · exact q1.elim
    · cases hp
  · exact q.elim
/-- a name that holds a list -/
def ownL (ρ : En) (i : Nat) : Bool := match ρ[i]? with
  | some (some (.o _ (.lst _))) => true
  | _ => false
theorem ownL_at (h : ownL ρ i = true) (r : Rep c B ts vs ρ σ H) : ∃ a us, σ[i]? = some (some (.ref a)) ∧ H a = some (.lst us) := by
  unfold ownL at h
  split at h
  · rename_i b ds e
    obtain ⟨a, ev, G, sub, us, ha, k⟩ := r.varO e
    exact ⟨a, us, ev, ha⟩
  · cases h
def mMeth1 (i : Nat) (g : List D → D → Option (D × List D)) (fe : M S) : M S := fun ρ => if ownL ρ i then (dv fe ρ).then fun y ρ1 => match ρ1[i]? with
    | some (some (.o b (.lst ds))) => match g ds y with
      | some (z, es) => .ok (.d z) (ρ1.set i (some (.o b (.lst es))))
      | none => .stuck
    | _ => .stuck
  else .stuck
/-- how a method changes a list -/
def MthDen (c : Cfg) (r : V → List V → Hp → VK → Prop) (g : List D → D → Option (D × List D)) : Prop := ∀ (G H : Hp) (Q : VK) (a : Addr) (us : List V) (ds : List D) (y z : D) (v : V) (es : List D), (∀ b o, G b = some o → H b = some o) → H a = some (.lst us) → RpAll c G us ds → Rp c G v y → g ds y = some (z, es) →
  (∀ w us', Rp c G w z → RpAll c G us' es → Q w (upd H a (.lst us'))) → r (.ref a) [v] H Q
theorem den_meth1 {r : V → List V → Hp → VK → Prop} {g : List D → D → Option (D × List D)} (hm : MthDen c r g) (h : Den c W te fe) : Den c W (tBM c.K "list" r (tVar i) (tCons te tNil)) (mMeth1 i g fe) := fun B ts vs ρ σ H Q rp q => by
  unfold mMeth1 at q
  split at q
  · rename_i ho
    obtain ⟨a, us, ev, ha⟩ := ownL_at ho rp
    rw [post_then] at q
    refine ⟨.ref a, ev, .inl ⟨rfl, us, SqL.of ha⟩, h.dv rp (q.imp1 fun y ρ1 q1 v H1 r1 => ?_)⟩
    split at q1
    · rename_i b ds e1
      split at q1
      · rename_i z es eg
        obtain ⟨G, o1, o2, k, h1, h2⟩ := id r1
        obtain ⟨a', ev', ⟨us', ha', ka⟩, hmem, hb⟩ := h2.getO e1
        rw [ev] at ev'
        cases ev'
        cases h1 with
        | d hv h1 =>
          refine hm G H1 Q a us' ds y z v es k.sub ha' ka hv eg fun w us2 hw hk => q1 w _ ?_
          have nd := k.nd
          rw [List.nodup_append] at nd
          exact ⟨G, o1, o2, k.write (List.mem_append_right _ hmem) ha' (.lst _), .d hw (h1.mono (fun _ _ e => e) fun q hq => upd_ne fun z => nd.2.2 q hq a hmem z), h2.write nd.2.1 e1 ev (fun q hq => upd_ne hq) ⟨us2, upd_same, hk⟩⟩
      · exact q1.elim
    · exact q1.elim
  · exact q.elim
def Mth0Den (c : Cfg) (r : V → List V → Hp → VK → Prop) (g : List D → Option (D × List D)) : Prop := ∀ (G H : Hp) (Q : VK) (a : Addr) (us : List V) (ds : List D) (z : D) (es : List D), H a = some (.lst us) → RpAll c G us ds → g ds = some (z, es) →
  (∀ w us', Rp c G w z → RpAll c G us' es → Q w (upd H a (.lst us'))) → r (.ref a) [] H Q
def gApp (ds : List D) (y : D) : Option (D × List D) := if small (ds.length + 1) then some (.non, ds ++ [y]) else none
theorem md_app : MthDen c rAppend gApp := by
  intro G H Q a us ds y z v es sub ha ka hv e q
  unfold gApp at e
  split at e
  · rename_i hz
    cases e
    refine ⟨a, us, v, rfl, rfl, ha, ?_, q _ _ .non (ka.snoc hv)⟩
    have := small_line hz
    rw [ka.length]
    omega
  · cases e
def gPop (ds : List D) : Option (D × List D) := match ds[ds.length - 1]? with
  | some y => some (y, ds.dropLast)
  | none => none
theorem RpAll.dropLast {G : Hp} {us : List V} {ds : List D} (k : RpAll c G us ds) : RpAll c G us.dropLast ds.dropLast := by
  rw [List.dropLast_eq_take, List.dropLast_eq_take, k.length]
  exact k.take _
theorem md_pop : Mth0Den c rPop gPop := by
  intro G H Q a us ds z es ha ka e q
  unfold gPop at e
  split at e
  · rename_i y ey
    cases e
    obtain ⟨w, ew, hw⟩ := ka.get ey
    exact ⟨a, us, w, rfl, rfl, ha, by rw [ka.length]; exact ew, q _ _ hw ka.dropLast⟩
  · cases e
theorem RpAll.eraseIdx {G : Hp} : ∀ {us : List V} {ds : List D} (i : Nat), RpAll c G us ds → RpAll c G (us.eraseIdx i) (ds.eraseIdx i)
  | _, _, _, .nil => .nil
  | _, _, 0, .cons _ k => k
  | _, _, i + 1, .cons h k => .cons h (RpAll.eraseIdx i k)
/-- x[e] = v, x a name -/
def gmItem (i : Nat) (fe : M S) : D → M Unit := fun x ρ => if ownL ρ i then (dv fe ρ).then fun y ρ1 => match ρ1[i]?, y with
    | some (some (.o b (.lst ds))), .int k => match ixN ds.length k with
      | some j => .ok () (ρ1.set i (some (.o b (.lst (ds.set j x)))))
      | none => .stuck
    | _, _ => .stuck
  else .stuck
theorem dg_item (h : Den c W te fe) : DenG c W (gSub (tVar i) te rSetL) (gmItem i fe) [] := fun B ts vs ρ σ H x v Q r q => by
  unfold gmItem at q
  split at q
  · rename_i ho
    obtain ⟨a, us, ev, ha⟩ := ownL_at ho r
    rw [post_then] at q
    refine ⟨.ref a, ev, h.dv r (q.imp (fun y ρ1 q1 w H1 r1 => ?_) fun _ _ h => h.drop.toP)⟩
    split at q1
    · rename_i b ds k e1
      split at q1
      · rename_i j ej
        obtain ⟨G, o1, o2, kk, h1, h2⟩ := id r1
        obtain ⟨a', ev', ⟨us', ha', ka⟩, hmem, hb⟩ := h2.getO e1
        rw [ev] at ev'
        cases ev'
        cases h1 with
        | d hw h1 =>
          cases hw
          cases h1 with
          | d hv h1 =>
            refine ⟨a, us', k, j, rfl, rfl, ha', by rw [ka.length]; exact ej, q1 σ _ ⟨rfl, fun _ _ => rfl⟩ ?_⟩
            have nd := kk.nd
            rw [List.nodup_append] at nd
            exact ⟨G, o1, o2, kk.write (List.mem_append_right _ hmem) ha' (.lst _), h1.mono (fun _ _ e => e) fun q hq => upd_ne fun z => nd.2.2 q hq a hmem z, h2.write nd.2.1 e1 ev (fun q hq => upd_ne hq) ⟨_, upd_same, ka.set j hv⟩⟩
      · exact q1.elim
    · exact q1.elim
  · exact q.elim
end
end Fx
/-! syntax and what it makes of a state -/
namespace Fx
open PySem PySem.Spec PyProof.Rows L2
open C8 (Cal Mak pe_c pe_mk)
structure QE (X : Cx) (c : Cfg) (W : WX) (e : Expr) (t : TE) (f : M S) : Prop where
  pe : PE X e t
  dn : Den c W t f
structure QT (X : Cx) (c : Cfg) (W : WX) (e : Expr) (t : TT) (f : M Bool) : Prop where
  pe : PT X e t
  dn : DenT c W t f
structure QW (X : Cx) (c : Cfg) (W : WX) (e : Expr) (t : TT) (f : M Bool) : Prop where
  pe : PW X e t
  dn : DenT c W t f
structure QA (X : Cx) (c : Cfg) (W : WX) (es : List Expr) (t : TA) (f : M (List D)) : Prop where
  pe : PA X es t
  dn : DenA c W t f
structure QC (X : Cx) (c : Cfg) (W : WX) (es : List Expr) (i j : Nat) (t : TA) (f : M (List D)) : Prop where
  pe : PA X es t
  dn : DenC c W t i j f
structure QI (X : Cx) (c : Cfg) (W : WX) (tg e : Expr) (t : TI) (f : M (List D)) : Prop where
  pe : PI X tg e t
  dn : DenI c W t f
structure QG (X : Cx) (c : Cfg) (W : WX) (e : Expr) (t : TG) (F : D → M Unit) (js : List Nat) : Prop where
  pe : PG X e t
  dn : DenG c W t F js
structure QGs (X : Cx) (c : Cfg) (W : WX) (es : List Expr) (t : TGs) (F : List D → M Unit) (js : List Nat) : Prop where
  pe : PGs X es t
  dn : DenGs c W t F js
structure QO (X : Cx) (c : Cfg) (W : WX) (e : Option Expr) (t : TO) (f : M (Option Int)) : Prop where
  pe : PO X e t
  dn : DenO c W t f
structure QS (X : Cx) (c : Cfg) (W : WX) (s : Stmt) (t : TS) (F : M Fl) : Prop where
  pe : PS X s t
  dn : DenS c W t F
structure QSs (X : Cx) (c : Cfg) (W : WX) (s : List Stmt) (t : TS) (F : M Fl) : Prop where
  pe : PSs X s t
  dn : DenS c W t F
section
variable {X : Cx} {c : Cfg} {W : WX} {a b e d : Expr} {es : List Expr} {fa fb fe fd : M S} {fA : M (List D)} {ft fu : M Bool} {pos p p2 : Pos} {k : Nat} {ta tb te td : TE} {tA : TA} {tt tu : TT}
/-! ### expressions -/
theorem qv (i : Nat) {x : Str} (hN : X.N[i]? = some x := by rfl) (hv : Vis X.env.scope x := by first | exact Or.inl rfl | exact Or.inr (Or.inl rfl) | exact Or.inr (Or.inr rfl)) (hd : (x == ("__debug__" : Str)) = false := by decide)
    (hcd : (x == ("__classdict__" : Str)) = false := by decide) : QE X c W (.Name x pos) (tVar i) (mVar i) := ⟨pe_var hN hv hd hcd, den_var⟩
theorem qint {i j} : QE X c W (.Constant (.int i) j pos) (tC (.int i)) (mC (.int i)) := ⟨pe_int, den_c fun _ => .int _⟩
theorem qbl {i j} : QE X c W (.Constant (.bool i) j pos) (tC (.bl i)) (mC (.bl i)) := ⟨pe_bl, den_c fun _ => .bl _⟩
theorem qty {x : Str} {n : String} (hm : X.mg x = none) (hg : Gl X x := by rfl) (hv : bootBuiltins x = some (.type n) := by decide +kernel) (hn : x ≠ "__name__" := by decide) (hd : (x == ("__debug__" : Str)) = false := by decide) : QE X c W (.Name x pos) (tC (.ty n)) (mC (.ty n)) := ⟨pe_bltn (v := .ty n) hg hm hv rfl hn hd, den_c fun _ => .ty _⟩
theorem qk {x : Str} {i : Int} (h : ∃ t, X.mg x = some (Value.int i t)) (hg : Gl X x := by rfl) (hd : (x == ("__debug__" : Str)) = false := by decide) : QE X c W (.Name x pos) (tC (.int i)) (mC (.int i)) := by
  obtain ⟨t, h⟩ := h
  exact ⟨pe_glob (v := .int i) hg h ⟨t, rfl⟩ hd, den_c fun _ => .int _⟩
theorem q_add (ha : QE X c W a ta fa) (hb : QE X c W b tb fb) (hK : X.K = c.K := by rfl) : QE X c W (.BinOp a .Add b pos) (tOp (rAddG c.K) ta tb) (mOp gAdd fa fb) := by
  obtain ⟨h1, h2⟩ := ha; obtain ⟨k1, k2⟩ := hb
  exact ⟨hK ▸ pe_op op_addG h1 k1, den_op od_add h2 k2⟩
theorem q_sub (ha : QE X c W a ta fa) (hb : QE X c W b tb fb) : QE X c W (.BinOp a .Sub b pos) (tOp (rI0 fun i j => .int (i - j)) ta tb) (mOp gMinus fa fb) := by
  obtain ⟨h1, h2⟩ := ha; obtain ⟨k1, k2⟩ := hb
  exact ⟨pe_op op_sub h1 k1, den_op od_sub h2 k2⟩
theorem q_mul (ha : QE X c W a ta fa) (hb : QE X c W b tb fb) : QE X c W (.BinOp a .Mult b pos) (tOp rMulG ta tb) (mOp gMul fa fb) := by
  obtain ⟨h1, h2⟩ := ha; obtain ⟨k1, k2⟩ := hb
  exact ⟨pe_op op_mulG h1 k1, den_op od_mul h2 k2⟩
theorem q_mod (ha : QE X c W a ta fa) (hb : QE X c W b tb fb) : QE X c W (.BinOp a .Mod b pos) (tOp (rI (fun _ j => 0 < j) fun i j => .int (i % j)) ta tb) (mOp gMod fa fb) := by
  obtain ⟨h1, h2⟩ := ha; obtain ⟨k1, k2⟩ := hb
  exact ⟨pe_op op_mod h1 k1, den_op od_mod h2 k2⟩
theorem q_fdiv (ha : QE X c W a ta fa) (hb : QE X c W b tb fb) : QE X c W (.BinOp a .FloorDiv b pos) (tOp (rI CDiv fun i j => .int (i / j)) ta tb) (mOp gDiv fa fb) := by
  obtain ⟨h1, h2⟩ := ha; obtain ⟨k1, k2⟩ := hb
  exact ⟨pe_op op_fdiv h1 k1, den_op od_div h2 k2⟩
theorem q_pow (ha : QE X c W a ta fa) (hb : QE X c W b tb fb) : QE X c W (.BinOp a .Pow b pos) (tOp (rI CPow fun i j => .int (i ^ j.toNat)) ta tb) (mOp gPow fa fb) := by
  obtain ⟨h1, h2⟩ := ha; obtain ⟨k1, k2⟩ := hb
  exact ⟨pe_op op_pow h1 k1, den_op od_pow h2 k2⟩
theorem q_neg (ha : QE X c W a ta fa) : QE X c W (.UnaryOp .USub a pos) (tUn (rU fun i => .int (-i)) ta) (mUn gNeg fa) := by
  obtain ⟨h1, h2⟩ := ha
  exact ⟨pe_un un_neg h1, den_un ud_neg h2⟩
/-- an operator of comparison -/
structure QR (X : Cx) (c : Cfg) (op : CmpOp) (r : R2) (g : D → D → Option S) : Prop where
  pe : OpR X (compareOp op) r
  dn : OpDen c r g
  mono : ∀ x y H (Q Q' : VK), (∀ v H', Q v H' → Q' v H') → r x y H Q → r x y H Q'
theorem r_lt : QR X c .Lt (rI0 fun i j => .bl (decide (i < j))) gLt := ⟨op_lt, od_BB, fun x y H Q Q' h ⟨i, j, e1, e2, q⟩ => ⟨i, j, e1, e2, h _ _ q⟩⟩
theorem r_le : QR X c .LtE (rI0 fun i j => .bl (decide (i ≤ j))) gLe := ⟨op_le, od_BB, fun x y H Q Q' h ⟨i, j, e1, e2, q⟩ => ⟨i, j, e1, e2, h _ _ q⟩⟩
theorem r_gt : QR X c .Gt (rI0 fun i j => .bl (decide (j < i))) gGt := ⟨op_gt, od_BB, fun x y H Q Q' h ⟨i, j, e1, e2, q⟩ => ⟨i, j, e1, e2, h _ _ q⟩⟩
theorem r_ge : QR X c .GtE (rI0 fun i j => .bl (decide (j ≤ i))) gGe := ⟨op_ge, od_BB, fun x y H Q Q' h ⟨i, j, e1, e2, q⟩ => ⟨i, j, e1, e2, h _ _ q⟩⟩
theorem un66 {A : Around} (hr : Room k A) : A.units + 66 < cLine := by
  have := hr.un
  omega
theorem r_eq (hr : Room k X.A) (hK : X.K = c.K := by rfl) : QR X c .Eq (rEqP c.K false) gEq := ⟨hK ▸ op_eqP (un66 hr), od_eq, fun x y H Q Q' h ⟨d, e, a1, a2, a3, a4, a5, q⟩ => ⟨d, e, a1, a2, a3, a4, a5, h _ _ q⟩⟩
theorem r_ne (hr : Room k X.A) (hK : X.K = c.K := by rfl) : QR X c .NotEq (rEqP c.K true) gNe := ⟨hK ▸ op_neP (un66 hr), od_ne, fun x y H Q Q' h ⟨d, e, a1, a2, a3, a4, a5, q⟩ => ⟨d, e, a1, a2, a3, a4, a5, h _ _ q⟩⟩
theorem r_in (hr : Room k X.A) (hK : X.K = c.K := by rfl) : QR X c .In (rInP c.K false) gIn := ⟨hK ▸ op_inP (un66 hr), od_in, fun x y H Q Q' h ⟨d, e, a1, a2, a3, a4, a5, q⟩ => ⟨d, e, a1, a2, a3, a4, a5, h _ _ q⟩⟩
theorem r_nin (hr : Room k X.A) (hK : X.K = c.K := by rfl) : QR X c .NotIn (rInP c.K true) gNotIn := ⟨hK ▸ op_ninP (un66 hr), od_in, fun x y H Q Q' h ⟨d, e, a1, a2, a3, a4, a5, q⟩ => ⟨d, e, a1, a2, a3, a4, a5, h _ _ q⟩⟩
theorem q_cmp {op : CmpOp} {g : D → D → Option S} {r : R2} (ho : QR X c op r g) (ha : QE X c W a ta fa) (hb : QE X c W b tb fb) (hm : behindInMarks op b = false := by first | exact nomark _ | with_unfolding_all rfl) : QE X c W (.Compare a [op] [b] pos) (tOp r ta tb) (mOp g fa fb) := by
  obtain ⟨h1, h2⟩ := ha; obtain ⟨k1, k2⟩ := hb; obtain ⟨r1, r2, _⟩ := ho
  exact ⟨pe_cmpR r1 h1 k1 hm, den_op r2 h2 k2⟩
theorem t_cmp {op : CmpOp} {g : D → D → Option S} {r : R2} (ho : QR X c op r g) (ha : QE X c W a ta fa) (hb : QE X c W b tb fb) (hm : behindInMarks op b = false := by first | exact nomark _ | with_unfolding_all rfl) : QT X c W (.Compare a [op] [b] pos) (tTest (tOp r ta tb)) (mTest (mOp g fa fb)) := by
  obtain ⟨h1, h2⟩ := ha; obtain ⟨k1, k2⟩ := hb; obtain ⟨r1, r2, _⟩ := ho
  exact ⟨pt_cmpR r1 h1 k1 hm, dt_test (den_op r2 h2 k2)⟩
theorem q_chain {op op' : CmpOp} {g g' : D → D → Option S} {r r' : R2} (ho : QR X c op r g) (ho' : QR X c op' r' g') (ha : QE X c W a ta fa) (hb : QE X c W b tb fb) (he : QE X c W e te fe) (hm : lastMarks [op, op'] [b, e] = false := by with_unfolding_all rfl) : QE X c W (.Compare a [op, op'] [b, e] pos) (tChain r r' ta tb te) (mChain g g' fa fb fe) := by
  obtain ⟨h1, h2⟩ := ha; obtain ⟨k1, k2⟩ := hb; obtain ⟨l1, l2⟩ := he; obtain ⟨r1, r2, m⟩ := ho; obtain ⟨s1, s2, _⟩ := ho'
  exact ⟨pe_chain r1 s1 h1 k1 l1 hm, den_chain r2 s2 m h2 k2 l2⟩
theorem t_val (he : QE X c W e te fe) (h : ∀ whole, isTrue e X.env whole = (do let v ← whole; standAt e.pos; holding [v] (truthy v)) := by intro _; rfl) : QT X c W e (tB te) (mTest fe) := by
  obtain ⟨h1, h2⟩ := he
  exact ⟨pt_val h1 h, dt_B h2⟩
theorem t_tru (he : QE X c W e te fe) (h : ∀ whole, isTrue e X.env whole = (do let v ← whole; standAt e.pos; holding [v] (truthy v)) := by intro _; rfl) (hK : X.K = c.K := by rfl) : QT X c W e (tTru c.K te) (mTruth fe) := by
  obtain ⟨h1, h2⟩ := he
  have h3 : PT X e (tTru X.K te) := pt_truth h1 h
  exact ⟨hK ▸ h3, dt_truth h2⟩
theorem t_not (h : QT X c W a tt ft) : QT X c W (.UnaryOp .Not a pos) (tNot tt) (mNot ft) := by
  obtain ⟨h1, h2⟩ := h
  exact ⟨pt_not h1, dt_not h2⟩
theorem w_and1 (h : QT X c W a tt ft) : QW X c W (.BoolOp .And [a] pos) tt ft := by
  obtain ⟨h1, h2⟩ := h
  exact ⟨pw_and1 h1, h2⟩
theorem w_or1 (h : QT X c W a tt ft) : QW X c W (.BoolOp .Or [a] pos) tt ft := by
  obtain ⟨h1, h2⟩ := h
  exact ⟨pw_or1 h1, h2⟩
theorem w_and (h : QT X c W a tt ft) (k : QW X c W (.BoolOp .And (b :: es) pos) tu fu) : QW X c W (.BoolOp .And (a :: b :: es) pos) (tAnd tt tu) (mAnd ft fu) := by
  obtain ⟨h1, h2⟩ := h; obtain ⟨k1, k2⟩ := k
  exact ⟨pw_and h1 k1, dt_and h2 k2⟩
theorem w_or (h : QT X c W a tt ft) (k : QW X c W (.BoolOp .Or (b :: es) pos) tu fu) : QW X c W (.BoolOp .Or (a :: b :: es) pos) (tOr tt tu) (mOr ft fu) := by
  obtain ⟨h1, h2⟩ := h; obtain ⟨k1, k2⟩ := k
  exact ⟨pw_or h1 k1, dt_or h2 k2⟩
theorem QW.t (h : QW X c W a tt ft) : QT X c W a tt ft := by
  obtain ⟨h1, h2⟩ := h
  exact ⟨h1.pt, h2⟩
theorem q_one {op} (h : QE X c W a ta fa) : QE X c W (.BoolOp op [a] pos) ta fa := by
  obtain ⟨h1, h2⟩ := h
  exact ⟨pe_one h1, h2⟩
theorem q_and (h : QE X c W a ta fa) (k : QE X c W (.BoolOp .And (b :: es) pos) tb fb) : QE X c W (.BoolOp .And (a :: b :: es) pos) (tAndV ta tb) (mAndV fa fb) := by
  obtain ⟨h1, h2⟩ := h; obtain ⟨k1, k2⟩ := k
  exact ⟨pe_and h1 k1, den_andV h2 k2⟩
theorem q_not (h : QE X c W a ta fa) : QE X c W (.UnaryOp .Not a pos) (tNotV ta) (mNotV fa) := by
  obtain ⟨h1, h2⟩ := h
  exact ⟨pe_not h1, den_notV h2⟩
theorem a_nil : QA X c W [] tNil aNil := ⟨pa_nil, den_nil⟩
theorem a_cons (h : QE X c W e te fe) (k : QA X c W es tA fA) (hs : starEach (e :: es) X.env = (false, eval e X.env) :: starEach es X.env := by rfl) : QA X c W (e :: es) (tCons te tA) (aCons fe fA) := by
  obtain ⟨h1, h2⟩ := h; obtain ⟨k1, k2⟩ := k
  exact ⟨pa_cons h1 k1 hs, den_cons h2 k2⟩
theorem c_own (i : Nat) {x : Str} (k : QA X c W es tA fA) (hN : X.N[i]? = some x := by rfl) (hv : Vis X.env.scope x := by first | exact Or.inl rfl | exact Or.inr (Or.inl rfl) | exact Or.inr (Or.inr rfl)) (hd : (x == ("__debug__" : Str)) = false := by decide)
    (hcd : (x == ("__classdict__" : Str)) = false := by decide) (hs : starEach (.Name x pos :: es) X.env = (false, eval (.Name x pos) X.env) :: starEach es X.env := by rfl) : QC X c W (.Name x pos :: es) i 0 (tCons (tVar i) tA) (aOwn i fA) := by
  obtain ⟨k1, k2⟩ := k
  exact ⟨pa_cons (pe_var hN hv hd hcd) k1 hs, dc_own k2⟩
theorem q_tup {x1} (h : QA X c W es tA fA) : QE X c W (.Tuple es x1 pos) (tTupN tA) (mTup fA) := by
  obtain ⟨h1, h2⟩ := h
  exact ⟨pe_tupN h1, den_tup h2⟩
theorem q_lst (h : QA X c W es tA fA) : QE X c W (.List es pos) (tLst tA) (mLst fA) := by
  obtain ⟨h1, h2⟩ := h
  exact ⟨pe_lst h1, den_lst h2⟩
theorem q_ix (ha : QE X c W a ta fa) (hb : QE X c W b tb fb) (hs : PlainIx b := by exact fun _ _ => rfl) (hK : X.K = c.K := by rfl) : QE X c W (.Subscript a b pos) (tOp (rIx c.K) ta tb) (mOp gIx fa fb) := by
  obtain ⟨h1, h2⟩ := ha; obtain ⟨k1, k2⟩ := hb
  exact ⟨hK ▸ pe_ix ix_seq h1 k1 hs, den_op od_ix h2 k2⟩
theorem q_ixO (i : Nat) {x : Str} (hb : QE X c W b tb fb) (hN : X.N[i]? = some x := by rfl) (hv : Vis X.env.scope x := by first | exact Or.inl rfl | exact Or.inr (Or.inl rfl) | exact Or.inr (Or.inr rfl)) (hd : (x == ("__debug__" : Str)) = false := by decide)
    (hcd : (x == ("__classdict__" : Str)) = false := by decide) (hs : PlainIx b := by exact fun _ _ => rfl) (hK : X.K = c.K := by rfl) : QE X c W (.Subscript (.Name x p) b pos) (tOp (rIx c.K) (tVar i) tb) (mIxO i fb) := by
  obtain ⟨k1, k2⟩ := hb
  exact ⟨hK ▸ pe_ix ix_seq (pe_var hN hv hd hcd) k1 hs, den_ixO k2⟩
theorem o_none : QO X c W none tNoPart oNone := ⟨po_none, do_none⟩
theorem o_some (h : QE X c W e te fe) : QO X c W (some e) (tPart te) (oSome fe) := by
  obtain ⟨h1, h2⟩ := h
  exact ⟨po_some h1, do_some h2⟩
theorem q_sl {lo hi : Option Expr} {fl fh : M (Option Int)} {tl th : TO} (h : QE X c W e te fe) (hl : QO X c W lo tl fl) (hh : QO X c W hi th fh) (hK : X.K = c.K := by rfl) : QE X c W (.Subscript e (.Slice lo hi none p2) pos) (tSl (rSlG c.K) te tl th) (mSl fe fl fh) := by
  obtain ⟨h1, h2⟩ := h; obtain ⟨k1, k2⟩ := hl; obtain ⟨l1, l2⟩ := hh
  exact ⟨hK ▸ pe_slice sl_G h1 k1 l1, den_sl h2 k2 l2⟩
/-- a property of a class -/
structure Prp (P : Program) (w : World) (c : Cfg) (mg : Str → Option Value) (base : Heap) (k : Nat) (n : String) (x f : Str) (i : Nat) : Prop where
  fld : FldOk c n f i
  ex : ∃ (p g : Addr) (fd : FuncData) (ps : List Str), PropOf c.K (c.cls n) x p g ∧ FnOk P w c.K mg base L2.CX0 k g fd ps (getSp (c.cls n) f) ∧ Binds c.K fd ps []
theorem q_pr {j : Nat} {n : String} {x f : Str} {i : Nat} (K : Prp X.prog X.w c X.mg X.base k n x f i) (hr : Room j X.A) (hk : k + 1 ≤ j) (h : QE X c W e te fe) (hab : attributeBase e x X.env (eval e X.env) = eval e X.env := by rfl) (hK : X.K = c.K := by rfl) : QE X c W (.Attribute e x pos) (tProp (c.cls n) (getSp (c.cls n) f) [] L2.E0 te) (mFldE n i fe) := by
  obtain ⟨h1, h2⟩ := h
  obtain ⟨p, g, fd, ps, hp, F, b⟩ := K.ex
  refine ⟨pe_prop (C := c.cls n) (f := x) (sp := getSp (c.cls n) f) (dvs := []) (E := L2.E0) h1 (hK ▸ K.fld.cl) (hK ▸ hp) (hK ▸ F) (hr.mono hk) (hK ▸ b) .nil L2.pass0 hab, den_prop K.fld h2⟩
/-! ### calls -/
theorem q_call {x : Str} {F : Fn} {j : Nat} (C : Cal X.prog X.w c.K X.mg X.base k x (spF c F) []) (hr : Room j X.A) (hk : k ≤ j) (ha : QA X c W (e :: es) tA fA) (hg : Gl X x := by rfl) (hK : X.K = c.K := by rfl)
    (hdb : (x == ("__debug__" : Str)) = false := by decide) (he : starEach (e :: es) X.env = (false, eval e X.env) :: starEach es X.env := by rfl) (hpl : (backTo pos (starEach es X.env)).any (·.1) = false := by rfl) : QE X c W (.Call (.Name x p) (e :: es) [] pos) (tCall (spF c F) [] C8.E0 tA) (mCall F fA) := by
  obtain ⟨h1, h2⟩ := ha
  exact ⟨pe_c (hK ▸ C) hr hk hg h1 hdb he hpl, den_call h2⟩
theorem q_callO {x : Str} {F : Fn} {j i l : Nat} (C : Cal X.prog X.w c.K X.mg X.base k x (spF c F) []) (hr : Room j X.A) (hk : k ≤ j) (ha : QC X c W (e :: es) i l tA fA) (hg : Gl X x := by rfl) (hK : X.K = c.K := by rfl)
    (hdb : (x == ("__debug__" : Str)) = false := by decide) (he : starEach (e :: es) X.env = (false, eval e X.env) :: starEach es X.env := by rfl) (hpl : (backTo pos (starEach es X.env)).any (·.1) = false := by rfl) : QE X c W (.Call (.Name x p) (e :: es) [] pos) (tCall (spF c F) [] C8.E0 tA) (mCallO F i l fA) := by
  obtain ⟨h1, h2⟩ := ha
  exact ⟨pe_c (hK ▸ C) hr hk hg h1 hdb he hpl, den_callO h2⟩
theorem q_make {x : Str} {F : Fn} {j nf : Nat} (n : String) (C : Mak X.prog X.w c.K X.mg X.base k x (c.cls n) (spF c F) []) (hnf : (c.flds n).length = nf) (hr : Room j X.A) (hk : k + 1 ≤ j) (ha : QA X c W (e :: es) tA fA) (hg : Gl X x := by rfl) (hK : X.K = c.K := by rfl)
    (hdb : (x == ("__debug__" : Str)) = false := by decide) (he : starEach (e :: es) X.env = (false, eval e X.env) :: starEach es X.env := by rfl) (hpl : (backTo pos (starEach es X.env)).any (·.1) = false := by rfl) : QE X c W (.Call (.Name x p) (e :: es) [] pos) (tMake (c.cls n) (spF c F) [] C8.E0 tA) (mMake n nf F fA) := by
  obtain ⟨h1, h2⟩ := ha
  exact ⟨pe_mk (hK ▸ C) hr hk hg h1 hdb he hpl, den_make hnf h2⟩
/-- a built-in by its name -/
structure QB (X : Cx) (c : Cfg) (x : Str) (r : List V → Hp → VK → Prop) (g : List D → Option S) : Prop where
  ex : (∃ id, CallR X (.builtin id) r ∧ bootBuiltins x = some (.builtin id)) ∨ (∃ T, CallR X (.type T) r ∧ bootBuiltins x = some (.type T))
  dn : CbDen c r g
theorem q_blt {x : Str} {g : List D → Option S} {r : List V → Hp → VK → Prop} (B : QB X c x r g) (hm : X.mg x = none) (ha : QA X c W (e :: es) tA fA) (hg : Gl X x := by rfl) (hn : x ≠ "__name__" := by decide)
    (hdb : (x == ("__debug__" : Str)) = false := by decide) (he : starEach (e :: es) X.env = (false, eval e X.env) :: starEach es X.env := by rfl) (hpl : (backTo pos (starEach es X.env)).any (·.1) = false := by rfl) : QE X c W (.Call (.Name x p) (e :: es) [] pos) (tCB r tA) (mCB g fA) := by
  obtain ⟨h1, h2⟩ := ha
  rcases B.ex with ⟨id, r1, r2⟩ | ⟨T, r1, r2⟩
  · exact ⟨pe_callB r1 hg hm r2 h1 hn hdb he hpl, den_cb B.dn h2⟩
  · exact ⟨pe_callTy r1 hg hm r2 h1 hn hdb he hpl, den_cb B.dn h2⟩
theorem b_len (hK : X.K = c.K := by rfl) : QB X c "len" (rLenG c.K) gLen := ⟨.inl ⟨_, hK ▸ cr_lenG, PySem.boot_len⟩, cd_len⟩
theorem b_tuple (hK : X.K = c.K := by rfl) : QB X c "tuple" (rTupN c.K) gTuple := ⟨.inr ⟨_, hK ▸ call_tupN, by decide +kernel⟩, cd_tuple⟩
theorem b_list (hK : X.K = c.K := by rfl) : QB X c "list" (fun xs H Q => ∃ p ys, xs = [.ref p] ∧ (SqL c.K H p ys ∨ SqT c.K H p ys) ∧ ∀ l, H l = none → Q (.ref l) (upd H l (.lst ys))) gList := ⟨.inr ⟨_, hK ▸ call_list_of, by decide +kernel⟩, cd_list⟩
theorem b_all (hc : X.calm = true := by rfl) (hK : X.K = c.K := by rfl) : QB X c "all" (rAll c.K) gAll := ⟨.inl ⟨_, hK ▸ cr_all hc, by decide +kernel⟩, cd_all⟩
theorem b_isi (hK : X.K = c.K := by rfl) : QB X c "isinstance" (rIsi c.K) gIsi := ⟨.inl ⟨_, hK ▸ call_isi, by decide +kernel⟩, cd_isi⟩
end
end Fx
/-! statements and what they make of a state -/
namespace Fx
open PySem PySem.Spec PyProof.Rows L2
open C8 (Cal Mak pe_c pe_mk)
section
variable {X : Cx} {c : Cfg} {W : WX} {a b e d tg it : Expr} {es : List Expr} {fa fb fe fd : M S} {fA fI : M (List D)} {ft fu : M Bool} {pos p p2 apos cpos : Pos} {k : Nat} {st : Stmt} {ss rs : List Stmt} {F G : M Fl} {g : D → M Unit} {gs : List D → M Unit} {js js' : List Nat} {ta tb te td : TE} {tA : TA} {tt tu : TT} {tgt : TG} {tgs : TGs} {wi : TI} {t u : TS}
/-! ### targets -/
theorem g_name (i : Nat) {x : Str} (hN : X.N.Nodup) (hi : X.N[i]? = some x := by rfl) (hx : Loc X.env.scope x := by first | exact Or.inl rfl | exact Or.inr rfl) (hf : X.fn x = true ∨ X.env.scope.names.lookup x = some .local := by first | exact Or.inl rfl | exact Or.inr rfl) : QG X c W (.Name x pos) (gName i) (gmName i) [i] := ⟨pg_name hN hi hx hf, dg_name⟩
theorem gs_nil : QGs X c W [] gNil gmNil [] := ⟨pgs_nil, dgs_nil⟩
theorem gs_cons (h : QG X c W e tgt g js) (k : QGs X c W es tgs gs js') (hs : (assignEach (e :: es) X.env).map (·.2) = assign e X.env :: (assignEach es X.env).map (·.2) := by rfl) : QGs X c W (e :: es) (gCons tgt tgs) (gmCons g gs) (js ++ js') := by
  obtain ⟨h1, h2⟩ := h; obtain ⟨k1, k2⟩ := k
  exact ⟨pgs_cons h1 k1 hs, dgs_cons h2 k2⟩
theorem g_tup (n : Nat) {kk : Nat} (h : QGs X c W es tgs gs js) (hc : X.calm = true := by rfl) (hn : (assignEach es X.env).length = n := by rfl) (hst : (assignEach es X.env).findIdx? (·.1) = none := by rfl) (hK : X.K = c.K := by rfl) : QG X c W (.Tuple es kk pos) (gTup c.K n tgs) (gmTup n gs) js := by
  obtain ⟨h1, h2⟩ := h
  exact ⟨hK ▸ pg_tup hc h1 hn hst, dg_tup h2⟩
theorem g_item (i : Nat) {x : Str} (h : QE X c W e te fe) (hN : X.N[i]? = some x := by rfl) (hv : Vis X.env.scope x := by first | exact Or.inl rfl | exact Or.inr (Or.inl rfl) | exact Or.inr (Or.inr rfl)) (hd : (x == ("__debug__" : Str)) = false := by decide)
    (hcd : (x == ("__classdict__" : Str)) = false := by decide)
    (ha : ∀ v, assign (.Subscript (.Name x p) e pos) X.env v = (do
      let ov ← holding [v] (eval (.Name x p) X.env)
      let iv ← holding [v, ov] (eval e X.env)
      standAt pos
      holding [v, ov, iv] (setItem ov iv v)
      release [v, ov, iv] []) := by intro _; rfl) : QG X c W (.Subscript (.Name x p) e pos) (gSub (tVar i) te rSetL) (gmItem i fe) [] := by
  obtain ⟨h1, h2⟩ := h
  exact ⟨pg_sub (pe_var hN hv hd hcd) h1 set_list ha, dg_item h2⟩
/-! ### blocks -/
theorem ss_nil : QSs X c W [] tNext mNx := ⟨pss_nil, ds_nx⟩
theorem ss_cons (h : QS X c W st t F) (k : QSs X c W ss u G) : QSs X c W (st :: ss) (tSeq t u) (mSeq F G) := by
  obtain ⟨h1, h2⟩ := h; obtain ⟨k1, k2⟩ := k
  exact ⟨pss_cons h1 k1, ds_seq h2 k2⟩
theorem ss_one (h : QS X c W st t F) : QSs X c W [st] t F := by
  obtain ⟨h1, h2⟩ := h
  exact ⟨pss_one h1, h2⟩
theorem ss_never : QSs X c W ss tNever mSt := ⟨pss_never, ds_never⟩
theorem s_ret (h : QE X c W e te fe) : QS X c W (.Return (some e) pos) (tRet te) (mRet fe) := by
  obtain ⟨h1, h2⟩ := h
  exact ⟨ps_ret h1, ds_ret h2⟩
theorem ds_retO {i : Nat} : DenS c W (tRet (tVar i)) (mRetO i) := fun B ts vs ρ σ H D r q => by
  unfold mRetO at q
  split at q
  · rename_i x e
    obtain ⟨G, o1, o2, kk, h1, h2⟩ := id r
    obtain ⟨a, own', ev, hc, hb, h3, m1, m2, m3, m4⟩ := h2.takeO e
    have nd := kk.nd
    rw [List.nodup_append] at nd
    obtain ⟨n4, n5⟩ := m4 nd.2.1
    refine ⟨.ref a, ev, q _ σ H ⟨G, a :: o1, own', kk.subO (fun p hp => ?_) ?_, .o hc (fun _ e => nomatch e) h1, h3⟩⟩
    · rcases List.mem_append.mp hp with hp | hp
      · rcases List.mem_cons.mp hp with rfl | hp
        · exact List.mem_append_right _ m3
        · exact List.mem_append_left _ hp
      · exact List.mem_append_right _ (m2 p hp)
    · rw [List.cons_append, List.nodup_cons, List.nodup_append]
      refine ⟨fun hm => ?_, nd.1, n4, fun x hx y hy => nd.2.2 x hx y (m2 y hy)⟩
      rcases List.mem_append.mp hm with hm | hm
      · exact nd.2.2 a hm a m3 rfl
      · exact n5 hm
  · rename_i x e
    obtain ⟨v, e1, r1⟩ := r.var e
    exact ⟨v, e1, q v σ H r1⟩
  · exact q.elim
theorem s_retO (i : Nat) {x : Str} (hN : X.N[i]? = some x := by rfl) (hv : Vis X.env.scope x := by first | exact Or.inl rfl | exact Or.inr (Or.inl rfl) | exact Or.inr (Or.inr rfl)) (hd : (x == ("__debug__" : Str)) = false := by decide)
    (hcd : (x == ("__classdict__" : Str)) = false := by decide) : QS X c W (.Return (some (.Name x p)) pos) (tRet (tVar i)) (mRetO i) := ⟨ps_ret (pe_var hN hv hd hcd), ds_retO⟩
theorem s_if (h : QT X c W d tt ft) (k : QSs X c W ss t F) (l : QSs X c W rs u G) : QS X c W (.If d ss rs pos) (tIfS tt t u) (mIfS ft F G) := by
  obtain ⟨h1, h2⟩ := h; obtain ⟨k1, k2⟩ := k; obtain ⟨l1, l2⟩ := l
  exact ⟨ps_if h1 k1 l1, ds_if h2 k2 l2⟩
theorem s_expr (h : QE X c W e te fe) (hs : swapsWith e none pos.line X.env = pure false := by rfl) : QS X c W (.Expr e pos) (tDrop te) (mDrop fe) := by
  obtain ⟨h1, h2⟩ := h
  exact ⟨ps_expr h1 hs, ds_drop h2⟩
theorem s_set (i : Nat) {x : Str} (hN : X.N.Nodup) (h : QE X c W e te fe) (hi : X.N[i]? = some x := by rfl) (hx : Loc X.env.scope x := by first | exact Or.inl rfl | exact Or.inr rfl) (hs : swapsWith e (some (.Name x p)) pos.line X.env = pure false := by rfl) (hf : X.fn x = true ∨ X.env.scope.names.lookup x = some .local := by first | exact Or.inl rfl | exact Or.inr rfl) :
    QS X c W (.Assign [.Name x p] e pos) (tAsg te (gName i)) (mAsg fe (gmName i)) := by
  obtain ⟨h1, h2⟩ := h
  exact ⟨ps_set hN hi hx h1 hs hf, ds_asg h2 dg_name⟩
theorem s_setO (i : Nat) {x : Str} (hN : X.N.Nodup) (h : QE X c W e te fe) (hi : X.N[i]? = some x := by rfl) (hx : Loc X.env.scope x := by first | exact Or.inl rfl | exact Or.inr rfl) (hs : swapsWith e (some (.Name x p)) pos.line X.env = pure false := by rfl) (hf : X.fn x = true ∨ X.env.scope.names.lookup x = some .local := by first | exact Or.inl rfl | exact Or.inr rfl) :
    QS X c W (.Assign [.Name x p] e pos) (tAsg te (gName i)) (mAsgO i fe) := by
  obtain ⟨h1, h2⟩ := h
  exact ⟨ps_set hN hi hx h1 hs hf, ds_asgO h2⟩
theorem s_asg (h : QE X c W e te fe) (k : QG X c W tg tgt g js) (hs : swapsWithSole [tg] e pos.line X.env = pure false := by rfl) (hw : swappedStores [tg] e X.env = pure none := by rfl)
    (h1 : (assignEach [tg] X.env).map (·.2) = [assign tg X.env] := by rfl) : QS X c W (.Assign [tg] e pos) (tAsg te tgt) (mAsg fe g) := by
  obtain ⟨h2, h3⟩ := h; obtain ⟨k1, k2⟩ := k
  exact ⟨ps_asg h2 k1 hs hw h1, ds_asg h3 k2⟩
theorem s_fld {f x : Str} (n : String) (i j : Nat) (K : FldOk c n f i) (hl : (c.flds n).length ≤ 100) (h : QE X c W e te fe) (hN : X.N[j]? = some x := by rfl) (hv : Vis X.env.scope x := by first | exact Or.inl rfl | exact Or.inr (Or.inl rfl) | exact Or.inr (Or.inr rfl)) (hd : (x == ("__debug__" : Str)) = false := by decide)
    (hcd : (x == ("__classdict__" : Str)) = false := by decide) (hK : X.K = c.K := by rfl)
    (hs : swapsWith e (some (.Attribute (.Name x p) f apos)) pos.line X.env = pure false := by rfl) : QS X c W (.Assign [.Attribute (.Name x p) f apos] e pos) (sFld c.K (tVar j) te f) (mSetF n i j fe) := by
  obtain ⟨h1, h2⟩ := h
  exact ⟨hK ▸ ps_fld (pe_var hN hv hd hcd) h1 hs, ds_setF K hl h2⟩
/-! ### loops -/
theorem s_for (hp : PassesOwn (model X.prog X.w) X.A X.env X.xe) (h : QI X c W tg it wi fI) (k : QG X c W tg tgt g js) (l : QSs X c W ss t F) (hc : X.calm = true := by rfl) (hs : ∀ x, foldedSetIterable it X.env x = pure x := by intro _; rfl) : QS X c W (.For tg it ss [] pos) (tFor wi tgt t) (mFor fI g F) := by
  obtain ⟨h1, h2⟩ := h; obtain ⟨k1, k2⟩ := k; obtain ⟨l1, l2⟩ := l
  exact ⟨ps_for hp hc h1 k1 l1 hs, ds_for h2 k2 l2⟩
theorem s_while (n : Nat) (hp : PassesOwn (model X.prog X.w) X.A X.env X.xe) (h : QT X c W d tt ft) (l : QSs X c W ss t F) : QS X c W (.While d ss [] pos) (tWhile tt t) (mWhile ft F n) := by
  obtain ⟨h1, h2⟩ := h; obtain ⟨l1, l2⟩ := l
  exact ⟨ps_while hp h1 l1, ds_while h2 l2⟩
/-! ### what is walked -/
theorem i_seq (h : QE X c W e te fe) (hK : X.K = c.K := by rfl) : QI X c W tg e (iSeqT c.K te) (iSeq fe) := by
  obtain ⟨h1, h2⟩ := h
  have h3 : PI X tg e (iSeqT X.K te) := PI.or (pi_list h1) (pi_tup h1)
  exact ⟨hK ▸ h3, di_seq h2⟩
theorem i_range1 (hm : X.mg "range" = none) (h : QA X c W [a] tA fA) (hg : Gl X "range" := by rfl) (hs : starEach [a] X.env = [(false, eval a X.env)] := by rfl) : QI X c W tg (.Call (.Name "range" p) [a] [] pos) (iRng1 tA) (iRange1 fA) := by
  obtain ⟨h1, h2⟩ := h
  exact ⟨pi_range1 hg hm h1 hs, di_range1 h2⟩
end
section
variable {X : Cx} {c : Cfg} {W : WX} {a b : Expr} {fA : M (List D)} {tA : TA} {es : List Expr} {kk : Nat} {tpos pos p : Pos}
theorem i_enum (hm : X.mg "enumerate" = none) (h : QA X c W [a] tA fA) (hg : Gl X "enumerate" := by rfl) (hK : X.K = c.K := by rfl) (hs : starEach [a] X.env = [(false, eval a X.env)] := by rfl) : QI X c W (.Tuple es kk tpos) (.Call (.Name "enumerate" p) [a] [] pos) (iEnumG c.K tA) (iEnu fA) := by
  obtain ⟨h1, h2⟩ := h
  have h3 : PI X (.Tuple es kk tpos) (.Call (.Name "enumerate" p) [a] [] pos) (iEnumG X.K tA) := PI.or (pi_enum hg hm h1 hs) (Rw.pi_enumT hg hm h1 hs)
  exact ⟨hK ▸ h3, di_enu h2⟩
theorem i_zip (hm : X.mg "zip" = none) (h : QA X c W [a, b] tA fA) (hg : Gl X "zip" := by rfl) (hK : X.K = c.K := by rfl) (hs : starEach [a, b] X.env = (false, eval a X.env) :: starEach [b] X.env := by rfl)
    (hpl : ((backTo pos (starEach [b] X.env)).any fun x => x.fst) = false := by rfl) : QI X c W (.Tuple es kk tpos) (.Call (.Name "zip" p) [a, b] [] pos) (iZipB c.K tA) (iZip' fA) := by
  obtain ⟨h1, h2⟩ := h
  exact ⟨hK ▸ PI.or (RZ.pi_zipA hg hm h1 hs hpl) (pi_zipM hg hm h1 hs hpl), di_zip h2⟩
end
/-! ### comprehensions -/
/-- a test of a comprehension, none or one -/
structure QTs (X : Cx) (c : Cfg) (W : WX) (es : List Expr) (t : TT) (f : M Bool) : Prop where
  pe : PTs X es t
  dn : DenT c W t f
/-- the place of a comprehension's own names -/
abbrev Blk (X : Cx) (scope : Scope) (s : Shared) (H : Hp) (C : Addr) (cl : List (Str × Addr)) (fp : List Addr) : Cx := X.blk s H scope (compEnvC scope cl C X.env) fp
section
variable {X : Cx} {c : Cfg} {W : WX} {tg it elt tg1 it1 : Expr} {ifs ifs1 : List Expr} {fI fI1 : M (List D)} {g g1 : D → M Unit} {js js1 : List Nat} {ft ft1 : M Bool} {fe : M S} {scope : Scope} {own : List (Str × Nat)} {vs1 : List Nat} {pos spos py : Pos} {wi wi1 : TI} {tgt tgt1 : TG} {tt tt1 : TT} {te : TE}
theorem ts_nil : QTs X c W [] tYes mYes := ⟨pts_nil, dt_yes⟩
theorem ts_one {e : Expr} (h : QT X c W e tt ft) : QTs X c W [e] tt ft := by
  obtain ⟨h1, h2⟩ := h
  exact ⟨pts_one h1, h2⟩
theorem anyPlace (c : Cfg) (P : Shared → Hp → Addr → List (Str × Addr) → List Addr → Prop) (h : ∀ s H C cl fp, P s H C cl fp) : ∃ s H C cl fp, P s H C cl fp := ⟨({} : Shared), fun _ => none, 0, [], [], h _ _ _ _ _⟩
theorem q_lc (hN : X.N.Nodup) (hI : QI X c W tg it wi fI) (hB : BlkOk X.N X.env.scope scope own) (hG : ∀ s H C cl fp, QG (Blk X scope s H C cl fp) c W0 tg tgt g js) (hT : ∀ s H C cl fp, QTs (Blk X scope s H C cl fp) c W0 ifs tt ft)
    (hE : ∀ s H C cl fp, QE (Blk X scope s H C cl fp) c W0 elt te fe) (hj : ∀ j ∈ js, j ∈ own.map (·.2) := by decide) (hc : X.calm = true := by rfl) (hs : ∀ x, foldedSetIterable it X.env x = pure x := by intro _; rfl) :
    QE X c W (.ListComp elt [{ target := tg, iter := it, ifs := ifs, is_async := 0 }] scope pos) (tLc wi tgt tt te (own.map (·.2))) (mLc fI g ft fe (own.map (·.2))) := by
  obtain ⟨h1, h2⟩ := hI
  obtain ⟨s, H, C, cl, fp, g2, t2, e2⟩ := anyPlace c _ fun s H C cl fp => And.intro (hG s H C cl fp).dn (And.intro (hT s H C cl fp).dn (hE s H C cl fp).dn)
  exact ⟨pe_lc hc hN h1 hB (fun s H C cl fp => (hG s H C cl fp).pe) (fun s H C cl fp => (hT s H C cl fp).pe) (fun s H C cl fp => (hE s H C cl fp).pe) hs, den_lc h2 g2 t2 e2 hj⟩
theorem s_setLc (i : Nat) {y : Str} (hN : X.N.Nodup) (hI : QI X c W tg it wi fI) (hB : BlkOk X.N X.env.scope scope own) (hG : ∀ s H C cl fp, QG (Blk X scope s H C cl fp) c W0 tg tgt g js) (hT : ∀ s H C cl fp, QTs (Blk X scope s H C cl fp) c W0 ifs tt ft)
    (hE : ∀ s H C cl fp, QE (Blk X scope s H C cl fp) c W0 elt te fe) (hj : ∀ j ∈ js, j ∈ own.map (·.2) := by decide) (hc : X.calm = true := by rfl) (hi : X.N[i]? = some y := by rfl) (hy : X.env.scope.names.lookup y = some .local := by rfl)
    (hw : swapsWith (.ListComp elt [{ target := tg, iter := it, ifs := ifs, is_async := 0 }] scope pos) (some (.Name y py)) spos.line X.env = pure true := by rfl) (hs : ∀ x, foldedSetIterable it X.env x = pure x := by intro _; rfl) :
    QS X c W (.Assign [.Name y py] (.ListComp elt [{ target := tg, iter := it, ifs := ifs, is_async := 0 }] scope pos) spos) (tAsg (tLc wi tgt tt te (own.map (·.2))) (gName i)) (mAsg (mLc fI g ft fe (own.map (·.2))) (gmName i)) := by
  obtain ⟨h1, h2⟩ := hI
  obtain ⟨s, H, C, cl, fp, g2, t2, e2⟩ := anyPlace c _ fun s H C cl fp => And.intro (hG s H C cl fp).dn (And.intro (hT s H C cl fp).dn (hE s H C cl fp).dn)
  exact ⟨ps_setLc hc hN hi hy hw h1 hB (fun s H C cl fp => (hG s H C cl fp).pe) (fun s H C cl fp => (hT s H C cl fp).pe) (fun s H C cl fp => (hE s H C cl fp).pe) hs, ds_asg (den_lc h2 g2 t2 e2 hj) dg_name⟩
end
end Fx
/-! lambdas: made, handed on, called -/
namespace Fx
open PySem PySem.Spec PyProof.Rows L2
open C8 (Cal Mak pe_c pe_mk)
open LamX (Tabs TabS TabB ExtN CodeO codeO_ne)
def runL (np nN : Nat) (fe : M S) : Fn := fun args => if args.length = np then fe (args.map some ++ List.replicate (nN - np) none) else .stuck
section
variable {c : Cfg} {W : WX} {B : Base} {G H : Hp} {ts : En} {vs : List (Option V)} {ρ : En} {σ : L2.St}
theorem Cell.at_ {a : Addr} {x : D} (hc : Cell c G H a x) : ∃ u, H a = some u ∧ isCell u := by
  cases x with
  | lst ds =>
    obtain ⟨vs, h, k⟩ := hc
    exact ⟨_, h, .lst _⟩
  | ins n ds =>
    obtain ⟨dx, fs, h, hn, k⟩ := hc
    exact ⟨_, h, .ins _ _ _⟩
  | dct ks ds =>
    obtain ⟨o, kv, us, h, d, k1, k2⟩ := hc
    have : ∃ es ep, o.data = .dict es ep := by cases d <;> assumption
    obtain ⟨es, ep, e⟩ := this
    exact ⟨_, h, .xd _ _ es ep e⟩
  | xo b o => exact ⟨_, hc.2.1, hc.2.2⟩
  | tup ds =>
    obtain ⟨vs, o, h, d, k⟩ := hc
    exact ⟨_, h, .frz _ _⟩
  | _ => exact hc.elim
theorem LsAll.at_ : ∀ {bs : List Addr} {dss : List (List D)}, LsAll c G H bs dss → ∀ p ∈ bs, ∃ u, H p = some u ∧ isCell u
  | _, _, .nil, p, hp => by simp at hp
  | _, _, .cons h _ l, p, hp => by
    rcases List.mem_cons.mp hp with rfl | hp
    · exact ⟨_, h, .lst _⟩
    · exact LsAll.at_ l p hp
theorem QCell.at_ {a : Addr} {ks : List D} {dss : List (List D)} {os : Owns} (h : QCell c B G H a ks dss os) : ∀ p ∈ os, ∃ u, H p = some u ∧ isCell u := fun p hp => by
  rcases h with ⟨kvs, bs, rfl, h1, _, _, h4⟩ | ⟨n, ds, p, dk, dv, dx, fs, b, o, kv, us, vs, rfl, rfl, rfl, h1, h2, h3, h4, h5, h6, h7, h8, h9⟩
  · rcases List.mem_cons.mp hp with rfl | hp
    · exact ⟨_, h1, .dK _⟩
    · exact h4.at_ p hp
  · simp only [List.mem_cons, List.not_mem_nil, or_false] at hp
    rcases hp with rfl | rfl
    · exact ⟨_, h1, .ins _ _ _⟩
    · have : ∃ es ep, o.data = .dict es ep := by
        cases h6 <;> assumption
      obtain ⟨es, ep, e⟩ := this
      exact ⟨_, h5, .xd _ _ es ep e⟩
end
end Fx
/-! more words: int, sorted, sums, borrowed operands, methods, several names at once -/
namespace Fx
open PySem PySem.Spec PyProof.Rows L2
open C8 (Cal Mak pe_c pe_mk)
/-! ### ints of a list -/
def intsD : List D → Option (List Int)
  | [] => some []
  | .int i :: ds => (intsD ds).map (i :: ·)
  | _ => none
theorem RpAll.ints {c : Cfg} {G : Hp} : ∀ {us : List V} {ds : List D} {ns : List Int}, intsD ds = some ns → RpAll c G us ds → us = ns.map V.int
  | _, [], _, e, h => by cases e; cases h; rfl
  | _, d :: ds, ns, e, h => by
    cases d <;> first | cases e | skip
    rename_i i
    cases h with
    | cons h1 h2 =>
      cases h1
      have e : (intsD ds).map (i :: ·) = some ns := e
      cases e2 : intsD ds with
      | none => rw [e2] at e; cases e
      | some ms =>
        rw [e2] at e
        cases e
        rw [RpAll.ints e2 h2]
        rfl
theorem RpAll.ofInts {c : Cfg} {G : Hp} : ∀ ns : List Int, RpAll c G (ns.map V.int) (ns.map D.int)
  | [] => .nil
  | i :: ns => .cons (.int i) (RpAll.ofInts ns)
theorem intsD_map : ∀ ns : List Int, intsD (ns.map D.int) = some ns
  | [] => rfl
  | i :: ns => by
    show (intsD (ns.map D.int)).map (i :: ·) = _
    rw [intsD_map ns]
    rfl
def ins (i : Int) : List Int → List Int
  | [] => [i]
  | j :: js => if i ≤ j then i :: j :: js else j :: ins i js
def isort : List Int → List Int
  | [] => []
  | i :: is => ins i (isort is)
theorem ins_perm (i : Int) : ∀ js : List Int, (ins i js).Perm (i :: js)
  | [] => .refl _
  | j :: js => by
    unfold ins
    split
    · exact .refl _
    · exact ((ins_perm i js).cons j).trans (.swap i j js)
theorem isort_perm : ∀ is : List Int, (isort is).Perm is
  | [] => .refl _
  | i :: is => (ins_perm i _).trans ((isort_perm is).cons i)
theorem ins_pw (i : Int) : ∀ {js : List Int}, js.Pairwise (· ≤ ·) → (ins i js).Pairwise (· ≤ ·)
  | [], _ => by simp [ins]
  | j :: js, h => by
    unfold ins
    split
    · rename_i hij
      refine List.pairwise_cons.mpr ⟨fun k hk => ?_, h⟩
      rcases List.mem_cons.mp hk with rfl | hk
      · exact hij
      · exact Int.le_trans hij ((List.pairwise_cons.mp h).1 k hk)
    · rename_i hij
      refine List.pairwise_cons.mpr ⟨fun k hk => ?_, ins_pw i (List.pairwise_cons.mp h).2⟩
      have := (ins_perm i js).mem_iff.mp hk
      rcases List.mem_cons.mp this with rfl | hk
      · omega
      · exact (List.pairwise_cons.mp h).1 k hk
theorem isort_pw : ∀ is : List Int, (isort is).Pairwise (· ≤ ·)
  | [] => .nil
  | i :: is => ins_pw i (isort_pw is)
theorem isort_eq {ns ms : List Int} (p : ms.Perm ns) (h : ms.Pairwise (· ≤ ·)) : ms = isort ns :=
  List.Perm.eq_of_pairwise (fun a b _ _ h1 h2 => Int.le_antisymm h1 h2) h (isort_pw ns) (p.trans (isort_perm ns).symm)
def gSorted : List D → Option S
  | [.lst ds] => (intsD ds).map fun ns => .o none (.lst ((isort ns).map D.int))
  | _ => none
theorem cd_sorted {c : Cfg} : CbDen c (rSortedI c.K) gSorted := by
  intro B ts vs ρ σ H Q ds us s hl r e q
  match ds, hl, r, e with
  | [.lst ds], hl, r, e =>
    obtain ⟨v, rfl, G, O, h⟩ := r.one' hl
    obtain ⟨a, xs, rfl, ha, ka⟩ := h.lstE
    have e : (intsD ds).map (fun ns => S.o none (.lst ((isort ns).map D.int))) = some s := e
    cases e2 : intsD ds with
    | none => rw [e2] at e; cases e
    | some ns =>
      rw [e2] at e
      cases e
      rw [RpAll.ints e2 ka] at ha
      refine ⟨a, ns, rfl, SqL.of (O.sub _ _ ha), fun ns' p pm pw hp => ?_⟩
      rw [isort_eq pm pw]
      exact q _ _ (O.newO hp fun H' e => ⟨_, e, RpAll.ofInts _⟩)
/-! ### int, min, max, sum -/
def gInt1 : List D → Option S
  | [.int i] => ok1 (.int i)
  | [.bl b] => ok1 (.int (if b = true then 1 else 0))
  | _ => none
theorem cd_int {c : Cfg} : CbDen c (fun xs H Q => (∃ i, xs = [V.int i] ∧ Q (V.int i) H) ∨ ∃ k, xs = [V.bl k] ∧ Q (V.int (if k = true then 1 else 0)) H) gInt1 := by
  intro B ts vs ρ σ H Q ds us s hl r e q
  match ds, hl, r, e with
  | [.int i], hl, r, e =>
    cases e
    obtain ⟨v, rfl, G, O, h⟩ := r.one' hl
    cases h
    exact .inl ⟨i, rfl, q _ _ (O.val (.int _))⟩
  | [.bl b], hl, r, e =>
    cases e
    obtain ⟨v, rfl, G, O, h⟩ := r.one' hl
    cases h
    exact .inr ⟨b, rfl, q _ _ (O.val (.int _))⟩
section
variable {X : Cx} {c : Cfg}
theorem b_int : QB X c "int" (fun xs H Q => (∃ i, xs = [V.int i] ∧ Q (V.int i) H) ∨ ∃ k, xs = [V.bl k] ∧ Q (V.int (if k = true then 1 else 0)) H) gInt1 := ⟨.inr ⟨_, call_int1, by decide +kernel⟩, cd_int⟩
theorem b_sorted (hK : X.K = c.K := by rfl) : QB X c "sorted" (rSortedI c.K) gSorted := ⟨.inl ⟨_, hK ▸ cr_sortedI, by decide +kernel⟩, cd_sorted⟩
end
/-! ### an operand that is a name's cell, lent -/
/-- an operation whose answer is flat and that leaves the heap -/
def FlatOp (c : Cfg) (r : R2) (g : D → D → Option S) : Prop := ∀ (G H : Hp) (Q : VK) (x y : D) (v u : V) (s : S), (∀ a o, G a = some o → H a = some o) → Rp c G v x → Rp c G u y → g x y = some s → (∀ b : Bool, s = .d (.bl b) → Q (.bl b) H) → r v u H Q
theorem fo_in {c : Cfg} {neg : Bool} : FlatOp c (rInP c.K neg) (gInN neg) := by
  intro G H Q x y v u s sub h1 h2 e q
  unfold gInN at e
  split at e
  · rename_i ds hi
    split at e
    · rename_i hp
      rw [Bool.and_eq_true] at hp
      cases e
      have e3 : (toPs ds).any (fun z => PyData.eqv z (toP x)) = inD x ds := by
        rw [toPs_map, List.any_map]
        rfl
      refine ⟨toP x, toPs ds, h1.dp sub hp.1, ?_, (pl60_shaped hp.1).1, (plA_plain hp.2).1, Nat.le_trans (pl60_shaped hp.1).2 (by decide), ?_⟩
      · cases y <;> first | cases hi | skip
        · have := h2.dp (n := 61) sub (by simpa [pl] using hp.2)
          simp only [toP] at this
          exact .inr this
        · have := h2.dp (n := 61) sub (by simpa [pl] using hp.2)
          simp only [toP] at this
          exact .inl this
      · rw [e3]
        exact q _ rfl
    · cases e
  · cases e
section
variable {c : Cfg} {W : WX} {B : Base} {ts : En} {vs : List (Option V)} {ρ : En} {σ : L2.St} {H : Hp} {ta tb : TE} {fa fb : M S} {i : Nat} {r : R2} {g : D → D → Option S}
def lendD (ρ : En) (i : Nat) : Option D := match ρ[i]? with
  | some (some (.d x)) => some x
  | some (some (.o _ x)) => if canFz x then some x else none
  | _ => none
theorem Rep.lend {x y : D} {v : V} (e : lendD ρ i = some y) (r : Rep c B (some (.d x) :: ts) (some v :: vs) ρ σ H) : ∃ u G, σ[i]? = some (some u) ∧ (∀ a o, G a = some o → H a = some o) ∧ Rp c G v x ∧ Rp c G u y := by
  obtain ⟨G, o1, o2, k, h1, h2⟩ := r
  have hv : Rp c G v x := by
    cases h1 with
    | d h _ => exact h
  unfold lendD at e
  split at e
  · rename_i x' e1
    cases e
    obtain ⟨u, ev, hu⟩ := h2.getD e1
    exact ⟨u, G, ev, k.sub, hv, hu⟩
  · rename_i b x' e1
    split at e
    · rename_i hz
      cases e
      obtain ⟨a, ev, hc, ho, _⟩ := h2.getO e1
      obtain ⟨o, ha, _, hf⟩ := hc.fz hz
      have gp := (k.out a (List.mem_append_right _ ho)).1
      have s : ∀ b u, G b = some u → upd G a o b = some u := fun b u e => by
        have : b ≠ a := fun z => by rw [z, gp] at e; cases e
        rw [upd_ne this]
        exact e
      refine ⟨.ref a, upd G a o, ev, fun b u e => ?_, hv.mono s, hf _ s upd_same⟩
      by_cases hb : b = a
      · rw [hb, upd_same] at e
        rw [hb, ha, ← e]
      · rw [upd_ne hb] at e
        exact k.sub _ _ e
    · cases e
  · cases e
def mOpR (g : D → D → Option S) (fa : M S) (i : Nat) : M S := fun ρ => (dv fa ρ).then fun x ρ1 => match lendD ρ1 i with
  | some y => match g x y with
    | some (.d (.bl b)) => .ok (.d (.bl b)) ρ1
    | _ => .stuck
  | none => .stuck
theorem Rep.unit1 {x : D} {v : V} {b : Bool} (r : Rep c B (some (.d x) :: ts) (some v :: vs) ρ σ H) : Rep c B (some (.d (.bl b)) :: ts) (some (.bl b) :: vs) ρ σ H := by
  obtain ⟨G, O, _⟩ := r.one
  exact O.val (.bl _)
theorem den_opR (ho : FlatOp c r g) (h : Den c W ta fa) : Den c W (tOp r ta (tVar i)) (mOpR g fa i) := fun B ts vs ρ σ H Q rp q => by
  unfold mOpR at q
  rw [post_then] at q
  refine h.dv rp (q.imp1 fun x ρ1 q v H1 r1 => ?_)
  split at q
  · rename_i y e
    obtain ⟨u, G, ev, sub, hx, hy⟩ := r1.lend e
    split at q
    · rename_i b eg
      refine ⟨u, ev, ho G H1 Q x y v u _ sub hx hy eg fun b' hb => ?_⟩
      cases hb
      exact q _ _ r1.unit1
    · exact q.elim
  · exact q.elim
end
section
variable {X : Cx} {c : Cfg} {W : WX} {a b e : Expr} {es : List Expr} {fa fb fe : M S} {pos p p2 apos cpos : Pos} {k : Nat} {ta tb te : TE}
/-- an operator of comparison whose operand may be lent -/
structure QF (X : Cx) (c : Cfg) (op : CmpOp) (r : R2) (g : D → D → Option S) : Prop where
  pe : OpR X (compareOp op) r
  dn : FlatOp c r g
theorem f_in (hr : Room k X.A) (hK : X.K = c.K := by rfl) : QF X c .In (rInP c.K false) gIn := ⟨hK ▸ op_inP (un66 hr), fo_in⟩
theorem f_nin (hr : Room k X.A) (hK : X.K = c.K := by rfl) : QF X c .NotIn (rInP c.K true) gNotIn := ⟨hK ▸ op_ninP (un66 hr), fo_in⟩
variable {op : CmpOp} {g : D → D → Option S} {r : R2} {x : Str}
theorem t_cmpR (ho : QF X c op r g) (ha : QE X c W a ta fa) (i : Nat) (hN : X.N[i]? = some x := by rfl) (hv : Vis X.env.scope x := by first | exact Or.inl rfl | exact Or.inr (Or.inl rfl) | exact Or.inr (Or.inr rfl)) (hd : (x == ("__debug__" : Str)) = false := by decide)
    (hcd : (x == ("__classdict__" : Str)) = false := by decide) (hm : behindInMarks op (.Name x p) = false := by first | exact nomark _ | with_unfolding_all rfl) : QT X c W (.Compare a [op] [.Name x p] pos) (tTest (tOp r ta (tVar i))) (mTest (mOpR g fa i)) := by
  obtain ⟨h1, h2⟩ := ha; obtain ⟨r1, r2⟩ := ho
  exact ⟨pt_cmpR r1 h1 (pe_var hN hv hd hcd) hm, dt_test (den_opR r2 h2)⟩
/-! ### methods of a name's list, its length -/
theorem q_lenO (i : Nat) (hmg : X.mg "len" = none) (hN : X.N[i]? = some x := by rfl) (hv : Vis X.env.scope x := by first | exact Or.inl rfl | exact Or.inr (Or.inl rfl) | exact Or.inr (Or.inr rfl)) (hd : (x == ("__debug__" : Str)) = false := by decide)
    (hcd : (x == ("__classdict__" : Str)) = false := by decide) (hg : Gl X "len" := by rfl) (he : starEach [.Name x p2] X.env = (false, eval (.Name x p2) X.env) :: starEach [] X.env := by rfl) (hpl : (backTo pos (starEach [] X.env)).any (·.1) = false := by rfl) (hK : X.K = c.K := by rfl) :
    QE X c W (.Call (.Name "len" p) [.Name x p2] [] pos) (tCB (rLenG c.K) (tCons (tVar i) tNil)) (mLenO i) :=
  ⟨pe_callB (hK ▸ cr_lenG) hg hmg PySem.boot_len (pa_cons (pe_var hN hv hd hcd) pa_nil he) (by decide) (by decide) he hpl, den_lenO⟩
theorem q_append (i : Nat) (he : QE X c W e te fe) (hN : X.N[i]? = some x := by rfl) (hv : Vis X.env.scope x := by first | exact Or.inl rfl | exact Or.inr (Or.inl rfl) | exact Or.inr (Or.inr rfl)) (hd : (x == ("__debug__" : Str)) = false := by decide)
    (hcd : (x == ("__classdict__" : Str)) = false := by decide) (hbase : attributeBase (.Name x p) "append" X.env (eval (.Name x p) X.env) = eval (.Name x p) X.env := by rfl)
    (hfew : ((backTo cpos (starEach [e] X.env)).all (fun y => !y.1) && (backToKw cpos (keywordEach [] X.env)).all (fun y => y.1.isSome) && decide ([e].length + ([] : List Keyword).length + (if ([] : List Keyword).isEmpty then 0 else 1) < 30)) = true := by rfl) (hline : (apos.endLine == cpos.line) = true := by rfl)
    (hs : starEach [e] X.env = (false, eval e X.env) :: starEach [] X.env := by rfl) (hplain : (backTo cpos (starEach [] X.env)).any (·.1) = false := by rfl) (hK : X.K = c.K := by rfl) :
    QE X c W (.Call (.Attribute (.Name x p) "append" apos) [e] [] cpos) (tBM c.K "list" rAppend (tVar i) (tCons te tNil)) (mMeth1 i gApp fe) := by
  obtain ⟨h1, h2⟩ := he
  exact ⟨hK ▸ pe_bm PySem.F.plainAttrs_list PySem.F.slot_list_append PySem.F.type_list_append mt_append (pe_var hN hv hd hcd) (pa_cons h1 pa_nil hs) hbase hfew hline hs hplain, den_meth1 md_app h2⟩
/-- isinstance(e, C), C a class of the text's own -/
theorem q_isC {C : Str} (n : String) (K : ClsOk c n) (hgm : X.mg C = some (.ref (c.cls n))) (hm : X.mg "isinstance" = none) (he : QE X c W e te fe) (hg : Gl X "isinstance" := by rfl) (hgC : Gl X C := by rfl) (hdb : (C == ("__debug__" : Str)) = false := by decide)
    (hs : starEach [e, .Name C p2] X.env = (false, eval e X.env) :: starEach [.Name C p2] X.env := by rfl) (hs2 : starEach [.Name C p2] X.env = (false, eval (.Name C p2) X.env) :: starEach [] X.env := by rfl) (hpl : (backTo pos (starEach [.Name C p2] X.env)).any (·.1) = false := by rfl) (hK : X.K = c.K := by rfl) :
    QE X c W (.Call (.Name "isinstance" p) [e, .Name C p2] [] pos) (tIsC c.K (c.cls n) te) (mIsC n fe) := by
  obtain ⟨h1, h2⟩ := he
  exact ⟨pe_callB (hK ▸ call_isi) hg hm (by decide +kernel) (pa_cons h1 (pa_cons (pe_glob (v := .ref (c.cls n)) hgC hgm rfl hdb) pa_nil hs2) hs) (by decide) (by decide) hs hpl, den_isC K h2⟩
end
end Fx
/-! a, b = x, y and a, b, c = x, y, z -/
namespace Fx
open PySem PySem.Spec PyProof.Rows L2
open C8 (Cal Mak pe_c pe_mk)
abbrev stk (ss : List S) : En := ss.reverse.map some
def DenP (c : Cfg) (W : WX) (tA : TA) (f : M (List S)) : Prop := ∀ B ts vs ρ σ H Q, Rep c B ts vs ρ σ H → Post (fun ss ρ' => ∀ us H', us.length = ss.length → Rep c B (stk ss ++ ts) (tmv us ++ vs) ρ' σ H' → Q us H') (ErrP c W B ts vs σ) (f ρ) → tA σ H Q
def psNil : M (List S) := fun ρ => .ok [] ρ
def psCons (fa : M S) (fr : M (List S)) : M (List S) := fun ρ => (fa ρ).then fun s ρ1 => (fr ρ1).then fun ss ρ2 => .ok (s :: ss) ρ2
def stS (own : Bool) (s : S) : Option S := if own then match s with
    | .o none x => some (.o none x)
    | _ => (toD s).map .d
  else (toD s).map .d
section
variable {c : Cfg} {W : WX} {B : Base} {ts : En} {vs : List (Option V)} {ρ : En} {σ : L2.St} {H : Hp} {ta : TE} {fa : M S} {tr tA : TA} {fr fP : M (List S)}
theorem dp_nil : DenP c W tNil psNil := fun B ts vs ρ σ H Q r h => h [] H rfl r
theorem dp_cons (ha : Den c W ta fa) (hr : DenP c W tr fr) : DenP c W (tCons ta tr) (psCons fa fr) := fun B ts vs ρ σ H Q r q => by
  unfold psCons at q
  rw [post_then] at q
  refine ha B ts vs ρ σ H _ r (q.imp1 fun s ρ1 h v H1 r1 => ?_)
  rw [post_then] at h
  refine hr B _ _ ρ1 σ H1 _ r1 (h.imp (fun ss ρ2 h us H2 hl r2 => ?_) fun _ _ h => h.drop)
  refine h (v :: us) H2 (by simp [hl]) ?_
  unfold stk tmv
  rw [List.reverse_cons, List.map_append, List.reverse_cons, List.map_append, List.append_assoc, List.append_assoc]
  exact r2
theorem Rep.stS {own : Bool} {s s' : S} {v : V} (e : stS own s = some s') (r : Rep c B (some s :: ts) (some v :: vs) ρ σ H) : Rep c B (some s' :: ts) (some v :: vs) ρ σ H := by
  have key : ∀ {s' : S}, (Fx.toD s).map S.d = some s' → Rep c B (some s' :: ts) (some v :: vs) ρ σ H := by
    intro s' e
    cases e2 : Fx.toD s with
    | none => rw [e2] at e; cases e
    | some x =>
      rw [e2] at e
      cases e
      exact r.toD e2
  unfold Fx.stS at e
  split at e
  · split at e
    · cases e
      exact r
    · exact key e
  · exact key e
def mPar2 (i : Nat) (oi : Bool) (j : Nat) (oj : Bool) (fP : M (List S)) : M Fl := fun ρ => (fP ρ).then fun ss ρ1 => match ss with
  | [s, t] => match stS oi s, stS oj t with
    | some s', some t' => .ok .nx ((ρ1.set j (some t')).set i (some s'))
    | _, _ => .stuck
  | _ => .stuck
theorem ds_par2 {i j : Nat} {oi oj : Bool} (hij : i ≠ j) (h : DenP c W tA fP) : DenS c W (tPar i j tA) (mPar2 i oi j oj fP) := fun B ts vs ρ σ H D r q => by
  unfold mPar2 at q
  rw [post_then] at q
  refine h B ts vs ρ σ H _ r (q.imp (fun ss ρ1 q us H1 hl r1 => ?_) fun _ _ h => h.toP)
  match ss, us, hl, q, r1 with
  | [s, t], [v, w], _, q, r1 =>
    dsimp only at q
    split at q
    · rename_i s' t' e1 e2
      refine ⟨v, w, rfl, ?_⟩
      have r2 : Rep c B (some t :: some s :: ts) (some w :: some v :: vs) ρ1 σ H1 := r1
      have r3 := (r2.stS e2).set (i := j)
      have r4 := (r3.stS e1).set (i := i)
      have q : EndP c B ts vs D .nx _ := q
      have e : (σ.set i (some v)).set j (some w) = (σ.set j (some w)).set i (some v) := List.set_comm _ _ hij
      rw [e]
      exact q _ _ r4
    · exact q.elim
end
structure QP (X : Cx) (c : Cfg) (W : WX) (es : List Expr) (t : TA) (f : M (List S)) : Prop where
  pe : PA X es t
  dn : DenP c W t f
section
variable {X : Cx} {c : Cfg} {W : WX} {a b d e : Expr} {es : List Expr} {te : TE} {fe : M S} {tA : TA} {fP : M (List S)} {pos : Pos} {oi oj ok : Bool}
theorem ps_nil : QP X c W [] tNil psNil := ⟨pa_nil, dp_nil⟩
theorem ps_cons (h : QE X c W e te fe) (k : QP X c W es tA fP) (hs : starEach (e :: es) X.env = (false, eval e X.env) :: starEach es X.env := by rfl) : QP X c W (e :: es) (tCons te tA) (psCons fe fP) := by
  obtain ⟨h1, h2⟩ := h; obtain ⟨k1, k2⟩ := k
  exact ⟨pa_cons h1 k1 hs, dp_cons h2 k2⟩
theorem s_par2 (i : Nat) (oi : Bool) (j : Nat) (oj : Bool) {x y : Str} {px py pt : Pos} {kt k2 pt2} (hN : X.N.Nodup) (ha : QP X c W [a, b] tA fP) (hij : i ≠ j := by decide) (hc : X.calm = true := by rfl) (hi : X.N[i]? = some x := by rfl) (hj : X.N[j]? = some y := by rfl)
    (hx : X.env.scope.names.lookup x = some .local := by rfl) (hy : X.env.scope.names.lookup y = some .local := by rfl)
    (hw : swappedStores [.Tuple [.Name x px, .Name y py] kt pt] (.Tuple [a, b] k2 pt2) X.env = pure (some [x, y]) := by rfl)
    (hs : swapsWithSole [.Tuple [.Name x px, .Name y py] kt pt] (.Tuple [a, b] k2 pt2) pos.line X.env = pure false := by rfl) :
    QS X c W (.Assign [.Tuple [.Name x px, .Name y py] kt pt] (.Tuple [a, b] k2 pt2) pos) (tPar i j tA) (mPar2 i oi j oj fP) := by
  obtain ⟨h1, h2⟩ := ha
  exact ⟨ps_par hc hN hi hj hij hx hy h1 hw hs, ds_par2 hij h2⟩
end
/-! the same by a tuple (where a name is a cell) -/
section
variable {c : Cfg} {W : WX} {B : Base} {ts : En} {vs : List (Option V)} {ρ : En} {σ : L2.St} {H : Hp} {tA : TA} {fP : M (List S)}
theorem Rep.extra {p : Addr} {o : HO} (r : Rep c B ts vs ρ σ H) (hp : H p = none) (ho : isTbl o = false) : Rep c B ts vs ρ σ (upd H p o) := by
  obtain ⟨G, o1, o2, k, h1, h2⟩ := r
  have gp := k.gnone hp
  have s : ∀ a u, G a = some u → upd G p o a = some u := upd_sub gp
  have e := own_new (o := o) k hp
  exact ⟨_, o1, o2, k.alloc hp ho, h1.mono s fun q hq => e q (List.mem_append_left _ hq), h2.mono s fun q hq => e q (List.mem_append_right _ hq)⟩
theorem ds_parT2 {i j : Nat} {oi oj : Bool} (hij : i ≠ j) (h : DenP c W tA fP) : DenS c W (tAsg (tTup tA) (gTup c.K 2 (gCons (gName i) (gCons (gName j) gNil)))) (mPar2 i oi j oj fP) := fun B ts vs ρ σ H D r q => by
  unfold mPar2 at q
  rw [post_then] at q
  refine h B ts vs ρ σ H _ r (q.imp (fun ss ρ1 q us H1 hl r1 => ?_) fun _ _ h => h.toP)
  match ss, us, hl, q, r1 with
  | [s, t], [v, w], _, q, r1 =>
    dsimp only at q
    split at q
    · rename_i s' t' e1 e2
      refine ⟨(by show 2 ≤ sizeLine; decide), fun p hp => ⟨p, [v, w], rfl, .inl (.inl upd_same), rfl, v, [w], rfl, w, [], rfl, rfl, ?_⟩⟩
      have r2 : Rep c B (some t :: some s :: ts) (some w :: some v :: vs) ρ1 σ H1 := r1
      have r3 := (r2.stS e2).set (i := j)
      have r4 := ((r3.stS e1).set (i := i)).extra (o := .tup [v, w]) hp rfl
      have q : EndP c B ts vs D .nx _ := q
      have e : (σ.set i (some v)).set j (some w) = (σ.set j (some w)).set i (some v) := List.set_comm _ _ hij
      rw [e]
      exact q _ _ r4
    · exact q.elim
end
section
variable {X : Cx} {c : Cfg} {W : WX} {a b d e : Expr} {es : List Expr} {te : TE} {fe : M S} {tA : TA} {fP : M (List S)} {pos : Pos} {oi oj ok : Bool}
theorem s_parT2 (i : Nat) (oi : Bool) (j : Nat) (oj : Bool) {x y : Str} {px py pt : Pos} {kt k2 pt2} (hN : X.N.Nodup) (ha : QP X c W [a, b] tA fP) (hij : i ≠ j := by decide) (hc : X.calm = true := by rfl) (hi : X.N[i]? = some x := by rfl) (hj : X.N[j]? = some y := by rfl)
    (hx : Loc X.env.scope x := by first | exact Or.inl rfl | exact Or.inr rfl) (hy : Loc X.env.scope y := by first | exact Or.inl rfl | exact Or.inr rfl)
    (fx : X.fn x = true ∨ X.env.scope.names.lookup x = some .local := by first | exact Or.inl rfl | exact Or.inr rfl) (fy : X.fn y = true ∨ X.env.scope.names.lookup y = some .local := by first | exact Or.inl rfl | exact Or.inr rfl)
    (hs : swapsWithSole [.Tuple [.Name x px, .Name y py] kt pt] (.Tuple [a, b] k2 pt2) pos.line X.env = pure false := by rfl) (hw : swappedStores [.Tuple [.Name x px, .Name y py] kt pt] (.Tuple [a, b] k2 pt2) X.env = pure none := by rfl)
    (h1 : (assignEach [.Tuple [.Name x px, .Name y py] kt pt] X.env).map (·.2) = [assign (.Tuple [.Name x px, .Name y py] kt pt) X.env] := by rfl) (hn : (assignEach [.Name x px, .Name y py] X.env).length = 2 := by rfl) (hst : (assignEach [.Name x px, .Name y py] X.env).findIdx? (·.1) = none := by rfl)
    (hg : (assignEach [.Name x px, .Name y py] X.env).map (·.2) = assign (.Name x px) X.env :: (assignEach [.Name y py] X.env).map (·.2) := by rfl) (hg2 : (assignEach [.Name y py] X.env).map (·.2) = assign (.Name y py) X.env :: (assignEach [] X.env).map (·.2) := by rfl) (hK : X.K = c.K := by rfl) :
    QS X c W (.Assign [.Tuple [.Name x px, .Name y py] kt pt] (.Tuple [a, b] k2 pt2) pos) (tAsg (tTup tA) (gTup c.K 2 (gCons (gName i) (gCons (gName j) gNil)))) (mPar2 i oi j oj fP) := by
  obtain ⟨h2, h3⟩ := ha
  exact ⟨ps_asg (pe_tup h2) (hK ▸ pg_tup hc (pgs_cons (pg_name hN hi hx fx) (pgs_cons (pg_name hN hj hy fy) pgs_nil hg2) hg) hn hst) hs hw h1, ds_parT2 hij h3⟩
end
end Fx
/-! isinstance of a written pair of types -/
namespace Fx
open PySem PySem.Spec PyProof.Rows L2
def isTy2 (n m : String) (x : D) : Option Bool := match isTy n x with
  | some true => some true
  | some false => isTy m x
  | none => none
def gIsi2 (n m : String) (x : D) : Option S := (isTy2 n m x).bind fun b => ok1 (.bl b)
def mIsi2 (n m : String) (fe : M S) : M S := mUn (gIsi2 n m) fe
end Fx
/-! set(a tuple of ints), its length -/
namespace Rw
open PySem PySem.Spec PyProof.Rows L2
section
variable {X : Cx}
/-- how many unlike ones -/
def Card (ns : List Int) (c : Nat) : Prop := ∃ l : List Int, l.Nodup ∧ (∀ k, k ∈ l ↔ k ∈ ns) ∧ l.length = c
def rSetT (K : PySem.W.Frag) (w : World) : List V → Hp → VK → Prop := fun xs H Q => ∃ (p : Addr) (ns : List Int), xs = [.ref p] ∧ SqT K H p (ns.map V.int) ∧ ns.length ≤ 1000 ∧
  ∀ q c, H q = none → c ≤ ns.length → Card ns c → Q (.ref q) (upd H q (SetO w q (fun j => decide (j ∈ ns)) c))
theorem cr_setT (hc : X.calm = true) : CallR X (.type "set") (rSetT X.K X.w) := by
  rintro pins s σ H xs us Q I r ⟨p, ns, rfl, hS, hn, q⟩
  obtain ⟨u, rfl, ru⟩ := vals1 r
  cases ru
  obtain ⟨its, rv, pt, hz⟩ := I.tuple hS
  have hi : IntsAre its.toArray.toList ns := ints_of_vals rv
  refine call_set_tupI ns (I.ok.hd hc) (show s.heap.IsTuple p its.toArray from pt) hi (by unfold scanBound; omega) fun h' tk c R hcn k => ?_
  have nw : H s.heap.objs.size = none := I.hok.fresh (Nat.le_refl _)
  have cd : Card ns c := by
    obtain ⟨o, es, ep, t, ho, hex, hdt, g, nd, hm, hb, hf, hsz, _⟩ := R
    refine ⟨es.toList.map keyOf, nd, fun j => ?_, ?_⟩
    · rw [← hm j, decide_eq_true_eq]
    · rw [List.length_map, Array.length_toList, hsz]
  exact ⟨.ref s.heap.objs.size, _, I.laid (t' := tk) k (Nat.le_refl _) (setO_new R), rfl, q _ c nw hcn cd⟩
theorem cr_lenSet : CallR X (.builtin "len") (fun xs H Q => ∃ (a : Addr) (S : Int → Bool) (n : Nat), xs = [.ref a] ∧ H a = some (SetO X.w a S n) ∧ n ≤ 1000 ∧ Q (.int n) H) := by
  rintro pins s σ H xs us Q I r ⟨a, S, n, rfl, ha, hn, q⟩
  obtain ⟨u, rfl, ru⟩ := vals1 r
  cases ru
  obtain ⟨o, es, ep, t, ho, hex, hdt, g, nd, hm, hb, hf, hsz, _⟩ := setO_get I ha
  subst hsz
  exact PySem.call_len_set ho hex hdt hf (by omega) ⟨.int es.size, H, I.tok _, ⟨_, rfl⟩, q⟩
end
end Rw
/-! sorted lists without repetition, the products' mirrors -/
namespace Rw
/-- u is what is in ls, ascending, once each -/
def Srt (u ls : List Int) : Prop := u.Pairwise (· < ·) ∧ ∀ k, k ∈ u ↔ k ∈ ls
theorem pw_nodup : ∀ {u : List Int}, u.Pairwise (· < ·) → u.Nodup
  | [], _ => List.nodup_nil
  | a :: u, h => by
    rw [List.pairwise_cons] at h
    rw [List.nodup_cons]
    exact ⟨fun m => Int.lt_irrefl _ (h.1 a m), pw_nodup h.2⟩
theorem srt_inj : ∀ {u v : List Int}, u.Pairwise (· < ·) → v.Pairwise (· < ·) → (∀ k, k ∈ u ↔ k ∈ v) → u = v
  | [], [], _, _, _ => rfl
  | [], b :: v, _, _, h => by have := (h b).mpr List.mem_cons_self; cases this
  | a :: u, [], _, _, h => by have := (h a).mp List.mem_cons_self; cases this
  | a :: u, b :: v, p, q, h => by
    rw [List.pairwise_cons] at p q
    have ab : a = b := by
      have h1 := (h a).mp List.mem_cons_self
      have h2 := (h b).mpr List.mem_cons_self
      rcases List.mem_cons.mp h1 with e | m1
      · exact e
      · rcases List.mem_cons.mp h2 with e | m2
        · exact e.symm
        · have := q.1 a m1
          have := p.1 b m2
          omega
    subst ab
    have : u = v := srt_inj p.2 q.2 fun k => by
      constructor
      · intro m
        rcases List.mem_cons.mp ((h k).mp (List.mem_cons_of_mem _ m)) with e | m'
        · have := p.1 k m
          omega
        · exact m'
      · intro m
        rcases List.mem_cons.mp ((h k).mpr (List.mem_cons_of_mem _ m)) with e | m'
        · have := q.1 k m
          omega
        · exact m'
    rw [this]
theorem Srt.inj {u v ls : List Int} (p : Srt u ls) (q : Srt v ls) : u = v := srt_inj p.1 q.1 fun k => (p.2 k).trans (q.2 k).symm
theorem len_sub : ∀ {l m : List Int}, l.Nodup → (∀ k ∈ l, k ∈ m) → l.length ≤ m.length
  | [], m, _, _ => Nat.zero_le _
  | a :: l, m, nd, h => by
    rw [List.nodup_cons] at nd
    have ha := h a List.mem_cons_self
    have := len_sub (l := l) (m := m.erase a) nd.2 fun k hk => by
      have ne : k ≠ a := fun e => nd.1 (e ▸ hk)
      exact (List.mem_erase_of_ne ne).mpr (h k (List.mem_cons_of_mem _ hk))
    have e := List.length_erase_of_mem ha
    have : 0 < m.length := List.length_pos_of_mem ha
    simp only [List.length_cons]
    omega
theorem Srt.card {u ls : List Int} {c : Nat} (p : Srt u ls) (q : Card ls c) : c = u.length := by
  obtain ⟨l, nd, m, rfl⟩ := q
  have h1 := len_sub nd fun k hk => (p.2 k).mpr ((m k).mp hk)
  have h2 := len_sub (pw_nodup p.1) fun k hk => (m k).mpr ((p.2 k).mp hk)
  omega
def ins (x : Int) : List Int → List Int
  | [] => [x]
  | y :: l => if x < y then x :: y :: l else if x = y then y :: l else y :: ins x l
theorem mem_ins {x k : Int} : ∀ {l : List Int}, k ∈ ins x l ↔ k = x ∨ k ∈ l
  | [] => by simp [ins]
  | y :: l => by
    unfold ins
    split
    · simp
    · split
      · rename_i e
        subst e
        simp
      · simp only [List.mem_cons, mem_ins]
        constructor
        · rintro (h | h | h) <;> simp [h]
        · rintro (h | h | h) <;> simp [h]
theorem pw_ins {x : Int} : ∀ {l : List Int}, l.Pairwise (· < ·) → (ins x l).Pairwise (· < ·)
  | [], _ => by simp [ins]
  | y :: l, h => by
    rw [List.pairwise_cons] at h
    unfold ins
    split
    · rename_i c
      rw [List.pairwise_cons, List.pairwise_cons]
      refine ⟨fun k hk => ?_, h⟩
      rcases List.mem_cons.mp hk with e | m
      · rw [e]; exact c
      · have := h.1 k m
        omega
    · split
      · rw [List.pairwise_cons]
        exact h
      · rw [List.pairwise_cons]
        refine ⟨fun k hk => ?_, pw_ins h.2⟩
        rcases mem_ins.mp hk with e | m
        · omega
        · exact h.1 k m
def uniq : List Int → List Int
  | [] => []
  | x :: l => ins x (uniq l)
theorem srt_uniq : ∀ ls, Srt (uniq ls) ls
  | [] => ⟨List.Pairwise.nil, fun _ => Iff.rfl⟩
  | x :: l => by
    obtain ⟨p, m⟩ := srt_uniq l
    refine ⟨pw_ins p, fun k => ?_⟩
    show k ∈ ins x (uniq l) ↔ _
    rw [mem_ins, m k, List.mem_cons]
theorem Srt.len {u ls : List Int} (p : Srt u ls) : u.length ≤ ls.length := len_sub (pw_nodup p.1) fun k hk => (p.2 k).mp hk
end Rw
/-! sets of a tuple's ints: sorted, counted; places in a list; the least of a tuple -/
namespace PySem
end PySem
namespace Fx
open PySem PySem.Spec PyProof.Rows L2
/-! ### on data -/
def gSetL (x : D) : Option S := match x with
  | .tup ds => match intsD ds with
    | some ns => if ns.length ≤ 1000 then ok1 (.int (Rw.uniq ns).length) else none
    | none => none
  | _ => none
def tSet (K : PySem.W.Frag) (w : World) (te : TE) : TE := tCB (Rw.rSetT K w) (tCons te tNil)
theorem den_setL {c : Cfg} {W : WX} {w : World} {te : TE} {fe : M S} (h : Den c W te fe) : Den c W (tCB (fun xs H Q => ∃ (a : Addr) (S : Int → Bool) (n : Nat), xs = [.ref a] ∧ H a = some (SetO w a S n) ∧ n ≤ 1000 ∧ Q (.int n) H) (tCons (tSet c.K w te) tNil)) (mUn gSetL fe) := fun B ts vs ρ σ H Q r q => by
  unfold mUn at q
  rw [post_then] at q
  refine h.dv r (q.imp1 fun x ρ1 q v H1 r1 => ?_)
  unfold gSetL at q
  split at q
  · rename_i s es
    split at es
    · rename_i ds
      split at es
      · rename_i ns en
        split at es
        · rename_i hn
          cases es
          obtain ⟨G, O, hv⟩ := r1.one
          obtain ⟨a, us, rfl, ha, ka⟩ := hv.tupE
          rw [RpAll.ints en ka] at ha
          refine ⟨a, ns, rfl, SqT.up O.sub ha, by omega, fun p n hp hl hc => ?_⟩
          obtain ⟨G2, O2, _⟩ := (r1.foreign (o := SetO w p (fun j => decide (j ∈ ns)) n) hp).one
          have e : n = (Rw.uniq ns).length := (Rw.srt_uniq ns).card hc
          refine ⟨p, _, n, rfl, upd_same, by omega, ?_⟩
          subst e
          exact q _ _ (O2.val (.int _))
        · cases es
      · cases es
    · cases es
  · exact q.elim
section
variable {X : Cx} {c : Cfg} {W : WX} {e f : Expr} {te tf : TE} {fe ff : M S} {pos p p2 p3 apos cpos : Pos}
theorem q_setL (hm1 : X.mg "len" = none) (hm2 : X.mg "set" = none) (he : QE X c W e te fe) (hc : X.calm = true := by rfl) (hg1 : Gl X "len" := by rfl) (hg2 : Gl X "set" := by rfl)
    (hs : starEach [.Call (.Name "set" p2) [e] [] p3] X.env = (false, eval (.Call (.Name "set" p2) [e] [] p3) X.env) :: starEach [] X.env := by rfl) (hpl : (backTo pos (starEach [] X.env)).any (·.1) = false := by rfl)
    (hs2 : starEach [e] X.env = (false, eval e X.env) :: starEach [] X.env := by rfl) (hpl2 : (backTo p3 (starEach [] X.env)).any (·.1) = false := by rfl) (hK : X.K = c.K := by rfl) :
    QE X c W (.Call (.Name "len" p) [.Call (.Name "set" p2) [e] [] p3] [] pos) (tCB (fun xs H Q => ∃ (a : Addr) (S : Int → Bool) (n : Nat), xs = [.ref a] ∧ H a = some (SetO X.w a S n) ∧ n ≤ 1000 ∧ Q (.int n) H) (tCons (tSet c.K X.w te) tNil)) (mUn gSetL fe) := by
  obtain ⟨h1, h2⟩ := he
  refine ⟨pe_callB Rw.cr_lenSet hg1 hm1 PySem.boot_len (pa_cons (pe_callTy (hK ▸ Rw.cr_setT hc) hg2 hm2 (by decide +kernel) (pa_cons h1 pa_nil hs2) (by decide) (by decide) hs2 hpl2) pa_nil hs) (by decide) (by decide) hs hpl, den_setL h2⟩
end
end Fx
/-! what the printed texts name -/
namespace Fx
open PySem PySem.Spec PyProof.Rows L2
def noE : Expr := .Name "" ⟨0, 0, 0, 0⟩
def lamQ (q : Str) : Expr → LamS
  | .Lambda params body scope _ => ⟨q, params, body, scope⟩
  | e => ⟨q, default, e, default⟩
theorem QSs.out {X : Cx} {c : Cfg} {W : WX} {ss : List Stmt} {t : TS} {F : M Fl} (h : QSs X c W ss t F) : ∃ t, PSs X ss t ∧ DenS c W t F := ⟨t, h.pe, h.dn⟩
theorem QE.out {X : Cx} {c : Cfg} {W : WX} {e : Expr} {t : TE} {f : M S} (h : QE X c W e t f) : ∃ t, PE X e t ∧ Den c W t f := ⟨t, h.pe, h.dn⟩
end Fx
/-! the law's call -/
namespace Fx
open PySem PySem.Spec PyProof.Rows L2
open C8 (Cal Mak pe_c pe_mk)
open LamX (Tabs TabS TabB ExtN CodeO codeO_ne)
def spLawX (c : Cfg) : Sp := fun vs H Q _ => ∃ (a : Addr) (ns : List Int), vs = [.ref a] ∧ ns.length ≤ 63 ∧ SqL c.K H a (ns.map V.int) ∧ Tabs c.T H ∧ ∀ H', Q (.bl true) H'
def noTbl (H : Hp) : Hp := fun a => match H a with
  | some o => if isTbl o then none else some o
  | none => none
theorem noTbl_sub {H : Hp} : ∀ a o, noTbl H a = some o → H a = some o ∧ isTbl o = false := fun a o e => by
  unfold noTbl at e
  split at e
  · rename_i u h
    split at e
    · cases e
    · rename_i hb
      cases e
      exact ⟨h, by simpa using hb⟩
  · cases e
theorem noTbl_at {H : Hp} {a : Addr} {o : HO} (h : H a = some o) (n : isTbl o = false) : noTbl H a = some o := by
  unfold noTbl
  rw [h]
  simp [n]
theorem law_ok {P : Program} {w : World} {c : Cfg} {mg : Str → Option Value} {base : Heap} {CX : CXT} {k : Nat} {f : Addr} {fd : FuncData} {F : Fn} (pure : ∀ ns : List Int, ns.length ≤ 63 → ∃ ρ, F [.d (.scr ns)] = .ok (.d (.bl true)) ρ)
    (o : FnOk P w c.K mg base CX k f fd ["script"] (spF c F)) : FnOk P w c.K mg base CX k f fd ["script"] (spLawX c) := by
  refine o.imp fun vs H Q E h => ?_
  obtain ⟨a, ns, rfl, hl, hs, hT, q⟩ := h
  obtain ⟨ρ, e⟩ := pure ns hl
  refine ⟨⟨fun _ => none, fun _ => none⟩, [], [], [.d (.scr ns)], ⟨noTbl H, [], [], ⟨fun a o e => (noTbl_sub a o e).1, fun a o e => (noTbl_sub a o e).2, List.nodup_nil, fun p hp => by simp at hp, hT, (fun a o e => nomatch e), (fun a o e => nomatch e)⟩, .nil, .d (.scr ?_) .nil⟩, ?_⟩
  · rcases hs with (h | ⟨o, h⟩) | h
    · exact .inl (.inl (noTbl_at h rfl))
    · exact .inl (.inr ⟨o, noTbl_at h rfl⟩)
    · exact .inr h
  · rw [e]
    intro v σ' H' r
    obtain ⟨G, O, hv⟩ := r.one
    cases hv
    exact q H'
theorem cal_mk {P : Program} {w : World} {K : PySem.W.Frag} {mg : Str → Option Value} {base : Heap} {f : Addr} {fd : FuncData} {x : Str} {st : Stmt} {ps : List Str} {k : Nat} {sp : Sp} (F : Fun K x x st f fd) (hm : mg x = some (.ref f)) (b : Binds K fd ps []) (o : FnOk P w K mg base CX0 k f fd ps sp) : Cal P w K mg base k x sp [] := ⟨f, fd, ps, [], o, hm, F.kp, b, .nil⟩
end Fx
/-! defs that raise, try .. except X -/
/-! tuple(range(n)), list(range(n)), a starred element, reversed(xs) -/
namespace Fx
open PySem PySem.Spec PyProof.Rows L2
open C8 (Cal Mak pe_c pe_mk)
open StX (tStar pa_star)
section
variable {c : Cfg} {B : Base} {W : WX} {ts : En} {vs : List (Option V)} {ρ : En} {σ : L2.St} {H : Hp} {ta te : TE} {fa fe : M S} {tA : TA} {fA fr : M (List D)}
/-! ### tuple(range(n)) -/
def rgOk (n : Int) : Bool := decide (-1000000 ≤ n) && decide (n ≤ 16777216)
theorem rgOk_of {n : Int} (h : rgOk n = true) : RgOk 0 n := by
  unfold rgOk at h
  rw [Bool.and_eq_true, decide_eq_true_eq, decide_eq_true_eq] at h
  refine ⟨by omega, by omega, by omega, by omega, by omega⟩
theorem arcy_ints : ∀ {n : Nat} {lo : Int}, arcy (intsFrom lo n) = false
  | 0, _ => rfl
  | _ + 1, _ => rfl
theorem rpAll_rg {G : Hp} {n : Int} : RpAll c G (rgV 0 n) (intsFrom 0 n.toNat) := by
  have key : ∀ (k : Nat) (lo : Int), RpAll c G ((List.range k).map fun i => V.int (lo + (i : Nat))) (intsFrom lo k) := by
    intro k
    induction k with
    | zero => exact fun lo => .nil
    | succ k ih =>
      intro lo
      rw [List.range_succ_eq_map, List.map_cons, List.map_map]
      show RpAll c G (_ :: _) (.int lo :: intsFrom (lo + 1) k)
      have e0 : lo + ((0 : Nat) : Int) = lo := by simp
      rw [e0]
      refine .cons (.int _) ?_
      have e : ((fun i : Nat => V.int (lo + (i : Nat))) ∘ Nat.succ) = fun i : Nat => V.int (lo + 1 + (i : Nat)) := by
        funext i
        show V.int _ = V.int _
        congr 1
        rw [Nat.succ_eq_add_one]
        omega
      rw [e]
      exact ih (lo + 1)
  have := key n.toNat 0
  unfold rgV
  rw [Int.sub_zero]
  exact this
def mTupRg (fa : M S) : M S := fun ρ => (dv fa ρ).then fun x ρ1 => match x with
  | .int n => if rgOk n then .ok (.d (.tup (intsFrom 0 n.toNat))) ρ1 else .stuck
  | _ => .stuck
theorem den_tupRg (h : Den c W ta fa) : Den c W (tTupRg (tRg1 ta)) (mTupRg fa) := fun B ts vs ρ σ H Q r q => by
  unfold mTupRg at q
  rw [post_then] at q
  refine h.dv r (q.imp1 fun x ρ1 q v H1 r1 => ?_)
  cases x <;> first | exact q.elim | skip
  rename_i n
  obtain ⟨G, O, hv⟩ := r1.one
  cases hv
  have q : Post (OkP c B ts vs σ Q) (ErrP c W B ts vs σ) (if rgOk n then .ok (.d (.tup (intsFrom 0 n.toNat))) ρ1 else .stuck) := q
  split at q
  · rename_i hn
    exact ⟨n, rfl, rgOk_of hn, fun p hp => q _ _ (Rep.new (ds := []) (us := []) r1.drop rfl hp rfl fun G' e _ => .tup (.inl (.inl e)) rpAll_rg fun z => absurd z (by rw [arcy_ints]; decide))⟩
  · exact q.elim
/-! ### (.., *xs, ..) -/
def aStar (fe : M S) (fr : M (List D)) : M (List D) := fun ρ => (dv fe ρ).then fun x ρ1 => match itemsD x with
  | some ds => (fr ρ1).then fun es ρ2 => .ok (ds ++ es) ρ2
  | none => .stuck
theorem Rep.spread {x : D} {v : V} {ds : List D} (e : itemsD x = some ds) (r : Rep c B (some (.d x) :: ts) (some v :: vs) ρ σ H) : ∃ a us, v = .ref a ∧ SqI c.K (isLst x) H a us ∧ us.length = ds.length ∧ Rep c B (tmp ds ++ ts) (tmv us ++ vs) ρ σ H := by
  obtain ⟨G, O, hv⟩ := r.top
  obtain ⟨a, us, rfl, h1, k⟩ := hv.seq O.sub e
  obtain ⟨G', o1, o2, kk, g1, g2⟩ := r
  cases g1 with
  | d g0 g1 =>
    obtain ⟨a', us', e1, h1', k'⟩ := g0.seq kk.sub e
    cases e1
    refine ⟨a, us', rfl, h1', k'.length, G', o1, o2, kk, ?_, g2⟩
    have := (k'.rev).sl (B := B) (H := H) g1
    unfold tmp tmv
    exact this
theorem den_star (he : Den c W te fe) (hr : DenA c W tA fr) : DenA c W (tStar c.K te tA) (aStar fe fr) := fun B ts vs ρ σ H Q r q => by
  unfold aStar at q
  rw [post_then] at q
  refine he.dv r (q.imp1 fun x ρ1 q v H1 r1 => ?_)
  have q : Post (OkA c B ts vs σ Q) (ErrP c W B ts vs σ) (match itemsD x with
    | some ds => (fr ρ1).then fun es ρ2 => .ok (ds ++ es) ρ2
    | none => .stuck) := q
  cases e : itemsD x with
  | none => rw [e] at q; exact q.elim
  | some ds =>
    rw [e] at q
    have q : Post (OkA c B ts vs σ Q) (ErrP c W B ts vs σ) ((fr ρ1).then fun es ρ2 => .ok (ds ++ es) ρ2) := q
    rw [post_then] at q
    obtain ⟨a, us, rfl, h1, hl, r2⟩ := Rep.spread e r1
    refine ⟨a, us, rfl, ?_, ?_⟩
    · cases hx : isLst x with
      | true => rw [hx] at h1; exact .inr h1
      | false => rw [hx] at h1; exact .inl h1
    · refine hr B _ _ ρ1 σ H1 _ r2 (q.imp (fun es ρ2 q ws H2 hl2 r3 => ?_) fun e' ρ' q k d H' he' r' => q k d H' he' (r'.dropN hl))
      refine q (us ++ ws) H2 (by rw [List.length_append, List.length_append, hl, hl2]) ?_
      unfold tmp tmv at r3 ⊢
      rw [List.reverse_append, List.map_append, List.reverse_append, List.map_append, List.append_assoc, List.append_assoc]
      exact r3
/-! ### reversed(xs) -/
end
section
variable {X : Cx} {c : Cfg} {W : WX} {a e tg : Expr} {es : List Expr} {ta te : TE} {tA : TA} {fa fe : M S} {fA fr : M (List D)} {pos p p2 pos2 : Pos}
theorem q_tupRg (hm : X.mg "tuple" = none) (hm2 : X.mg "range" = none) (h : QE X c W a ta fa) (hc : X.calm = true := by rfl) (hg : Gl X "tuple" := by rfl) (hg2 : Gl X "range" := by rfl) (na : starEach [a] X.env = (false, eval a X.env) :: starEach [] X.env := by rfl)
    (na2 : starEach [.Call (.Name "range" p2) [a] [] pos2] X.env = (false, eval (.Call (.Name "range" p2) [a] [] pos2) X.env) :: starEach [] X.env := by rfl) : QE X c W (.Call (.Name "tuple" p) [.Call (.Name "range" p2) [a] [] pos2] [] pos) (tTupRg (tRg1 ta)) (mTupRg fa) := by
  obtain ⟨h1, h2⟩ := h
  exact ⟨pe_tupRg hc hg hm (prg_1 hg2 hm2 h1 na) na2, den_tupRg h2⟩
theorem a_star (h : QE X c W e te fe) (k : QA X c W es tA fr) (hK : X.K = c.K := by rfl) (hs : starEach (.Starred e p :: es) X.env = (true, eval e X.env) :: starEach es X.env := by rfl) : QA X c W (.Starred e p :: es) (tStar c.K te tA) (aStar fe fr) := by
  obtain ⟨h1, h2⟩ := h; obtain ⟨k1, k2⟩ := k
  exact ⟨hK ▸ pa_star h1 k1 hs, den_star h2 k2⟩
end
end Fx
/-! dicts whose objects are known: keys ints and texts, or tuples: read, written -/
namespace Fx
open PySem PySem.Spec PyProof.Rows L2
open C8 (Cal Mak pe_c pe_mk)
/-! ### keys -/
def isKey : D → Bool
  | .int _ => true
  | .str _ => true
  | _ => false
def isKeyT : D → Bool
  | .tup ds => match nkDs ds with
    | some ks => decide (NestedKey.depthAll ks + 1 ≤ 8)
    | none => false
  | _ => false
def keyEq : D → D → Bool
  | .int i, .int j => decide (i = j)
  | .str x, .str y => decide (x = y)
  | .tup xs, .tup ys => match nkDs xs, nkDs ys with
    | some a, some b => NestedKey.beqAll a b
    | _, _ => false
  | _, _ => false
theorem keyEq_keyD {k k' : Key} : keyEq (keyD k) (keyD k') = decide (k = k') := by
  cases k <;> cases k' <;> simp [keyEq, keyD]
/-- the place of a key -/
def keyAt (ks : List D) (k : D) : Option Nat := ks.findIdx? (keyEq k)
def hasKey (ks : List D) (k : D) : Bool := ks.any (keyEq k)
/-- a key that the dict can be asked for -/
def homog (ks : List D) (k : D) : Bool := (isKey k && ks.all isKey) || (isKeyT k && ks.all isKeyT)
def putKs {α : Type} (ks : List D) (k : D) (l : List α) (x : α) : List α := if hasKey ks k then l else l ++ [x]
def putVs {α : Type} (ks : List D) (k : D) (l : List α) (x : α) : List α := if hasKey ks k then List.zipWith (fun k' d => if keyEq k k' then x else d) ks l else l ++ [x]
theorem find_at {β : Type} (q : β → Bool) : ∀ l : List β, l.find? q = (l.findIdx? q).bind fun i => l[i]?
  | [] => rfl
  | x :: l => by
    rw [List.find?_cons, List.findIdx?_cons]
    cases e : q x with
    | true => simp
    | false =>
      simp only [Bool.false_eq_true, if_false]
      rw [find_at q l]
      cases l.findIdx? q <;> simp
theorem idx_map {α β : Type} {p : α → Bool} {q : β → Bool} {l1 : List α} {l2 : List β} (h : l1.map p = l2.map q) : l1.findIdx? p = l2.findIdx? q := by
  have e1 := List.findIdx?_map (f := p) (l := l1) (p := id)
  have e2 := List.findIdx?_map (f := q) (l := l2) (p := id)
  rw [h] at e1
  exact e1.symm.trans e2
theorem any_map2 {α β : Type} {p : α → Bool} {q : β → Bool} {l1 : List α} {l2 : List β} (h : l1.map p = l2.map q) : l1.any p = l2.any q := by
  have e1 : (l1.map p).any id = l1.any p := by rw [List.any_map]; rfl
  have e2 : (l2.map q).any id = l2.any q := by rw [List.any_map]; rfl
  rw [← e1, ← e2, h]
theorem any_idx {α : Type} {p : α → Bool} : ∀ {l : List α}, l.any p = (l.findIdx? p).isSome
  | [] => rfl
  | x :: l => by
    rw [List.any_cons, List.findIdx?_cons]
    cases e : p x with
    | true => rfl
    | false =>
      rw [any_idx (l := l)]
      simp only [Bool.false_or, Bool.false_eq_true, if_false, Option.isSome_map]
theorem key_of {c : Cfg} {G : Hp} {v : V} {x : D} (h : Rp c G v x) (e : isKey x = true) : ∃ k : Key, x = keyD k ∧ v = kV k := by
  cases x <;> first | cases e | skip
  · cases h
    exact ⟨.inl _, rfl, rfl⟩
  · cases h
    exact ⟨.inr _, rfl, rfl⟩
theorem keyT_of {x : D} (e : isKeyT x = true) : ∃ ds ks, x = .tup ds ∧ nkDs ds = some ks ∧ nkD x = some (.tup ks) ∧ (NestedKey.tup ks).depth ≤ 8 := by
  cases x <;> first | cases e | skip
  rename_i ds
  have e : (match nkDs ds with
    | some ks => decide (NestedKey.depthAll ks + 1 ≤ 8)
    | none => false) = true := e
  cases h : nkDs ds with
  | none => rw [h] at e; cases e
  | some ks =>
    rw [h] at e
    exact ⟨ds, ks, rfl, h, by rw [nkD, h], of_decide_eq_true e⟩
theorem keyEqT {ds : List D} {ks : List NestedKey} {k' : D} {n' : NestedKey} (h : nkDs ds = some ks) (h' : nkD k' = some n') : keyEq (.tup ds) k' = decide (n' = .tup ks) := by
  rw [NestedKey.decide_eq]
  cases k' with
  | tup es =>
    rw [nkD] at h'
    cases e : nkDs es with
    | none => rw [e] at h'; cases h'
    | some ls =>
      rw [e] at h'
      cases h'
      show (match nkDs ds, nkDs es with
        | some a, some b => NestedKey.beqAll a b
        | _, _ => false) = NestedKey.beqAll ls ks
      rw [h, e]
      show NestedKey.beqAll ks ls = NestedKey.beqAll ls ks
      have a := NestedKey.decide_eq (.tup ks) (.tup ls)
      have b := NestedKey.decide_eq (.tup ls) (.tup ks)
      show NestedKey.beq (.tup ks) (.tup ls) = NestedKey.beq (.tup ls) (.tup ks)
      rw [← a, ← b]
      by_cases q : NestedKey.tup ks = .tup ls
      · rw [decide_eq_true q, decide_eq_true q.symm]
      · rw [decide_eq_false q, decide_eq_false fun z => q z.symm]
  | non => rw [nkD] at h'; cases h'; rfl
  | int i => rw [nkD] at h'; cases h'; rfl
  | str i => rw [nkD] at h'; cases h'; rfl
  | bl _ => rw [nkD] at h'; cases h'
  | ty _ => rw [nkD] at h'; cases h'
  | lst _ => rw [nkD] at h'; cases h'
  | ins _ _ => rw [nkD] at h'; cases h'
  | dct _ _ => rw [nkD] at h'; cases h'
  | dcq _ _ => rw [nkD] at h'; cases h'
  | xo _ _ => rw [nkD] at h'; cases h'
  | exc => rw [nkD] at h'; cases h'
  | rng _ _ => rw [nkD] at h'; cases h'
  | fu => rw [nkD] at h'; cases h'
  | scr _ => rw [nkD] at h'; cases h'
  | fn _ => rw [nkD] at h'; cases h'
section
variable {X : Cx} {pins : List (Addr × Obj)} {σ : L2.St} {H : Hp} {s : Shared} {c : Cfg} {G : Hp}
mutual
theorem rp_nested (I : Inv X pins σ H s) (hK : X.K = c.K) (sub : ∀ a o, G a = some o → H a = some o) : ∀ {v : V} {d : D} {k : NestedKey} {u : Value}, Rp c G v d → nkD d = some k → RelV v u → NestedIs s.heap k u
  | _, _, k, u, .non, e, r => by rw [nkD] at e; cases e; cases r; exact .none
  | _, _, k, u, .bl b, e, r => by rw [nkD] at e; cases e
  | _, _, k, u, .int i, e, r => by
    rw [nkD] at e
    cases e
    obtain ⟨t, rfl⟩ := r
    exact .int _ _
  | _, _, k, u, .str x, e, r => by
    rw [nkD] at e
    cases e
    obtain ⟨t, rfl⟩ := r
    exact .text _ _
  | _, _, k, u, .ty n, e, r => by rw [nkD] at e; cases e
  | _, _, k, u, .tup (ds := ds) h ka n, e, r => by
    rw [nkD] at e
    cases er : nkDs ds with
    | none => rw [er] at e; cases e
    | some ks =>
      rw [er] at e
      cases e
      cases r
      obtain ⟨its, rv, ⟨o, ho, hc, m, hd⟩, _⟩ := I.tuple (hK ▸ SqT.up sub h)
      exact .tup ho hc hd (by simpa using rps_nested I hK sub ka er rv)
  | _, _, k, u, .lst h ka, e, r => by rw [nkD] at e; cases e
  | _, _, k, u, .scr h, e, r => by rw [nkD] at e; cases e
  | _, _, k, u, .ins h n ka, e, r => by rw [nkD] at e; cases e
  | _, _, k, u, .dct h ka, e, r => by rw [nkD] at e; cases e
  | _, _, k, u, .dcx h o k1 k2, e, r => by rw [nkD] at e; cases e
  | _, _, k, u, .xo h, e, r => by rw [nkD] at e; cases e
  | _, _, k, u, .exc h h2, e, r => by rw [nkD] at e; cases e
  | _, _, k, u, .rng h, e, r => by rw [nkD] at e; cases e
  | _, _, k, u, .fu h, e, r => by rw [nkD] at e; cases e
  | _, _, k, u, .fn h ka, e, r => by rw [nkD] at e; cases e
termination_by structural _ _ _ _ h => h
theorem rps_nested (I : Inv X pins σ H s) (hK : X.K = c.K) (sub : ∀ a o, G a = some o → H a = some o) : ∀ {vs : List V} {ds : List D} {ks : List NestedKey} {us : List Value}, RpAll c G vs ds → nkDs ds = some ks → Vals vs us → NestedAll s.heap ks us
  | _, _, ks, us, .nil, e, r => by rw [nkDs] at e; cases e; cases r; exact .nil
  | _, _, ks, us, .cons (d := d) (ds := ds) h ka, e, r => by
    rw [nkDs] at e
    cases e1 : nkD d with
    | none => rw [e1] at e; cases e
    | some k =>
      cases e2 : nkDs ds with
      | none => rw [e1, e2] at e; cases e
      | some ks' =>
        rw [e1, e2] at e
        cases e
        cases r with
        | cons r1 r2 => exact .cons (rp_nested I hK sub h e1 r1) (rps_nested I hK sub ka e2 r2)
termination_by structural _ _ _ _ h => h
end
/-! ### what the object tells -/
theorem DcO.sys {w : World} {a : Addr} {o : Obj} {ks : List D} {kv us : List V} (d : DcO w a o ks kv us) : (a == sysModules) = false := by cases d <;> assumption
theorem DcO.exact {w : World} {a : Addr} {o : Obj} {ks : List D} {kv us : List V} (d : DcO w a o ks kv us) : o.ExactDict := by cases d <;> assumption
theorem DcO.dat {w : World} {a : Addr} {o : Obj} {ks : List D} {kv us : List V} (d : DcO w a o ks kv us) : ∃ es ep, o.data = .dict es ep := by cases d <;> assumption
theorem DcO.len {w : World} {a : Addr} {o : Obj} {ks : List D} {kv us : List V} (d : DcO w a o ks kv us) : ks.length ≤ sizeLine := by
  cases d with
  | mix _ _ _ _ h _ => rw [List.length_map]; exact h
  | nk _ _ _ _ h _ e _ =>
    have := congrArg List.length e
    rw [List.length_map, List.length_map] at this
    omega
theorem xd_get {a : Addr} {o : Obj} (I : Inv X pins σ H s) (h : H a = some (xdO a o)) : s.heap.get? a = some o := (I.hok a _ h).1
theorem xd_ok {P : Program} {w : World} {H' : Hp} {h : Heap} {a : Addr} {o : Obj} (e : h.get? a = some o) : ObjOk P w H' h a (xdO a o) := ⟨e, ⟨o, e⟩, fun _ _ q k => k o q⟩
/-- the two forms of what is known, over the heap that stands -/
theorem DcO.real {a : Addr} {o : Obj} {ks : List D} {kv us : List V} (I : Inv X pins σ H s) (hK : X.K = c.K) (hw : X.w = c.w) (sub : ∀ a o, G a = some o → H a = some o) (hD : H a = some (xdO a o)) (d : DcO c.w a o ks kv us) (ka : RpAll c G kv ks) :
    (∃ kvs : List (Key × Value), s.heap.DictOf (mixKind X.prog X.w) a kvs ∧ ks = kvs.map (fun p => keyD p.1) ∧ kv = kvs.map (fun p => kV p.1) ∧ Vals us (kvs.map (·.2)) ∧ kvs.length ≤ sizeLine) ∨
    ∃ xs : List (NestedKey × Addr × Value), s.heap.DictOfH (nestedKind X.prog X.w) a xs ∧ ks.map nkD = xs.map (fun x => some x.1) ∧ kv = xs.map (fun x => V.ref x.2.1) ∧ Vals us (xs.map (·.2.2)) ∧ xs.length ≤ sizeLine ∧ (∀ x ∈ xs, (nestedKind X.prog X.w).is s.heap x.1 x.2.1) ∧ ∀ x ∈ xs, x.1.depth ≤ 8 := by
  have got := xd_get I hD
  cases d with
  | @mix kvs us h1 h2 h3 h4 h5 h6 => exact .inl ⟨kvs, hw ▸ h4 X.prog s.heap a got, rfl, rfl, h6, h5⟩
  | @nk xs us ks h1 h2 h3 h4 h5 h6 h7 h8 =>
    have his : ∀ x ∈ xs, (nestedKind X.prog X.w).is s.heap x.1 x.2.1 := by
      intro x hx
      obtain ⟨i, hi⟩ := List.mem_iff_getElem?.mp hx
      have e1 : (xs.map fun x => V.ref x.2.1)[i]? = some (.ref x.2.1) := by rw [List.getElem?_map, hi]; rfl
      obtain ⟨k, e2, hr⟩ := ka.getV e1
      have e3 : (ks.map nkD)[i]? = some (some x.1) := by rw [h7, List.getElem?_map, hi]; rfl
      rw [List.getElem?_map, e2] at e3
      exact ⟨rp_nested I hK sub hr (Option.some.inj e3) rfl, h8 x hx⟩
    exact .inr ⟨xs, hw ▸ h4 X.prog s.heap a got (by rw [← hw]; exact his), h7, rfl, h6, h5, his, h8⟩
/-- an empty dict is of both kinds -/
theorem DictOf.flip {P : Program} {w : World} {h : Heap} {a : Addr} (d : h.DictOf (mixKind P w) a []) : h.DictOfH (nestedKind P w) a [] := by
  obtain ⟨o, es, ep, ho, hc, hd, _, hp, _⟩ := d
  have := hp.length
  have e : es = #[] := by
    have : es.size = 0 := by simpa using this
    exact Array.eq_empty_of_size_eq_zero this
  subst e
  exact ⟨o, #[], ep, ho, hc, hd, rfl, (fun _ hx => nomatch hx), List.nodup_nil⟩
theorem DictOfH.flip {P : Program} {w : World} {h : Heap} {a : Addr} (d : h.DictOfH (nestedKind P w) a []) : h.DictOf (mixKind P w) a [] := by
  obtain ⟨o, es, ep, ho, hc, hd, he, _, _⟩ := d
  have e : es = #[] := by
    have : es.toList = [] := he
    cases es
    simp at this
    rw [this]
  subst e
  exact ⟨o, #[], ep, ho, hc, hd, (fun e he => by simp at he), .nil, List.nodup_nil⟩
end
theorem pairs_mix {P0 P : Program} {w : World} {es : List DictEntry} {kvs : List (Key × Value)} (h : Pairs (mixKind P0 w) es kvs) : Pairs (mixKind P w) es kvs := by
  induction h with
  | nil => exact .nil
  | cons h1 h2 _ ih => exact .cons h1 h2 ih
theorem dictOf_mix {P0 P : Program} {w : World} {h h' : Heap} {a b : Addr} {o : Obj} {kvs : List (Key × Value)} (d : h.DictOf (mixKind P0 w) a kvs) (e : h.get? a = some o) (e' : h'.get? b = some o) : h'.DictOf (mixKind P w) b kvs := by
  obtain ⟨o', es, ep, ho, hc, hd, hk, hp, hn⟩ := d
  rw [e] at ho
  cases ho
  exact ⟨o, es, ep, e', hc, hd, hk, pairs_mix hp, hn⟩
theorem mixObj_of {P0 : Program} {w : World} {h : Heap} {a : Addr} {o : Obj} {kvs : List (Key × Value)} (d : h.DictOf (mixKind P0 w) a kvs) (e : h.get? a = some o) : MixObj w o kvs := fun P h' b e' => dictOf_mix d e e'
theorem nkObj_of {P0 : Program} {w : World} {h : Heap} {a : Addr} {o : Obj} {xs : List (NestedKey × Addr × Value)} (d : h.DictOfH (nestedKind P0 w) a xs) (e : h.get? a = some o) : NkObj w o xs := fun P h' b e' his => by
  obtain ⟨o', es, ep, ho, hc, hd, he, _, hn⟩ := d
  rw [e] at ho
  cases ho
  exact ⟨o, es, ep, e', hc, hd, he, his, hn⟩
theorem vals_at {us : List V} {ws : List Value} (h : Vals us ws) : ∀ i : Nat, RelO us[i]? ws[i]? := by
  unfold Vals at h
  induction h with
  | nil => intro i; simp [RelO]
  | cons r _ ih =>
    intro i
    cases i with
    | zero => exact r
    | succ i => simpa using ih i
theorem relO_bind {us : List V} {ws : List Value} (h : Vals us ws) (o : Option Nat) : RelO (o.bind fun i => us[i]?) (o.bind fun i => ws[i]?) := by
  cases o with
  | none => exact True.intro
  | some i => exact vals_at h i
/-- what is found at a key -/
def look {α : Type} (ks : List D) (k : D) (l : List α) : Option α := (keyAt ks k).bind fun i => l[i]?
def XLook (X : Cx) (s : Shared) (a : Addr) (u : Value) (vo : Option V) : Prop :=
  (∃ kvs k0, s.heap.DictOf (mixKind X.prog X.w) a kvs ∧ RelV (kV k0) u ∧ RelO vo (valueAt kvs k0)) ∨
  ∃ xs n b, u = .ref b ∧ s.heap.DictOfH (nestedKind X.prog X.w) a xs ∧ (nestedKind X.prog X.w).is s.heap n b ∧ RelO vo ((atKey xs n).map (·.2))
theorem mix_keys {kvs : List (Key × Value)} (k0 : Key) : (kvs.map fun p => keyD p.1).map (keyEq (keyD k0)) = kvs.map fun kv => decide (kv.1 = k0) := by
  rw [List.map_map]
  apply List.map_congr_left
  intro p _
  show keyEq (keyD k0) (keyD p.1) = _
  rw [keyEq_keyD]
  by_cases e : p.1 = k0
  · rw [decide_eq_true e, decide_eq_true e.symm]
  · rw [decide_eq_false e, decide_eq_false fun z => e z.symm]
theorem nk_keys {ds : List D} {n : List NestedKey} (h : nkDs ds = some n) : ∀ {ks : List D} {xs : List (NestedKey × Addr × Value)}, ks.map nkD = xs.map (fun x => some x.1) → ks.map (keyEq (.tup ds)) = xs.map fun x => decide (x.1 = .tup n)
  | [], [], _ => rfl
  | [], _ :: _, e => by cases e
  | _ :: _, [], e => by cases e
  | k :: ks, x :: xs, e => by
    rw [List.map_cons, List.map_cons] at e
    injection e with e1 e2
    rw [List.map_cons, List.map_cons, nk_keys h e2, keyEqT h e1]
theorem valueAt_at (kvs : List (Key × Value)) (k0 : Key) : valueAt kvs k0 = (kvs.findIdx? fun kv => decide (kv.1 = k0)).bind fun i => (kvs.map (·.2))[i]? := by
  unfold valueAt
  rw [find_at]
  cases kvs.findIdx? fun kv => decide (kv.1 = k0) with
  | none => rfl
  | some i => show ((kvs[i]?).map (·.2)) = (kvs.map (·.2))[i]?; rw [List.getElem?_map]
theorem atKey_at (xs : List (NestedKey × Addr × Value)) (n : NestedKey) : (atKey xs n).map (·.2) = (xs.findIdx? fun x => decide (x.1 = n)).bind fun i => (xs.map (·.2.2))[i]? := by
  unfold atKey
  rw [find_at]
  cases xs.findIdx? fun x => decide (x.1 = n) with
  | none => rfl
  | some i => show ((xs[i]?.map (·.2)).map (·.2)) = (xs.map (·.2.2))[i]?; rw [List.getElem?_map, Option.map_map]; rfl
theorem key_notT {k : Key} : isKeyT (keyD k) = false := by cases k <;> rfl
section
variable {X : Cx} {pins : List (Addr × Obj)} {σ : L2.St} {H : Hp} {s : Shared} {c : Cfg} {G : Hp}
/-- which of the two kinds a question is of -/
theorem DcO.ask {a : Addr} {o : Obj} {ks : List D} {kv us : List V} {y : V} {k : D} (I : Inv X pins σ H s) (hK : X.K = c.K) (hw : X.w = c.w) (sub : ∀ a o, G a = some o → H a = some o) (hD : H a = some (xdO a o)) (d : DcO c.w a o ks kv us) (ka : RpAll c G kv ks) (hk : Rp c G y k) (hm : homog ks k = true) :
    (∃ (kvs : List (Key × Value)) (k0 : Key), s.heap.DictOf (mixKind X.prog X.w) a kvs ∧ ks = kvs.map (fun p => keyD p.1) ∧ kv = kvs.map (fun p => kV p.1) ∧ Vals us (kvs.map (·.2)) ∧ kvs.length ≤ sizeLine ∧ k = keyD k0 ∧ y = kV k0) ∨
    ∃ (xs : List (NestedKey × Addr × Value)) (ds : List D) (n : List NestedKey) (b : Addr), s.heap.DictOfH (nestedKind X.prog X.w) a xs ∧ ks.map nkD = xs.map (fun x => some x.1) ∧ kv = xs.map (fun x => V.ref x.2.1) ∧ Vals us (xs.map (·.2.2)) ∧ xs.length ≤ sizeLine ∧ (∀ x ∈ xs, (nestedKind X.prog X.w).is s.heap x.1 x.2.1) ∧ (∀ x ∈ xs, x.1.depth ≤ 8) ∧
      k = .tup ds ∧ y = .ref b ∧ nkDs ds = some n ∧ (NestedKey.tup n).depth ≤ 8 ∧ (nestedKind X.prog X.w).is s.heap (.tup n) b := by
  have tkey : isKeyT k = true → ∃ (ds : List D) (n : List NestedKey) (b : Addr), k = .tup ds ∧ y = .ref b ∧ nkDs ds = some n ∧ (NestedKey.tup n).depth ≤ 8 ∧ (nestedKind X.prog X.w).is s.heap (.tup n) b := by
    intro e
    obtain ⟨ds, n, rfl, e1, e2, e3⟩ := keyT_of e
    obtain ⟨b, vs, rfl, _⟩ := hk.tupE
    exact ⟨ds, n, b, rfl, rfl, e1, e3, rp_nested I hK sub hk e2 rfl, e3⟩
  unfold homog at hm
  rw [Bool.or_eq_true, Bool.and_eq_true, Bool.and_eq_true] at hm
  rcases d.real I hK hw sub hD ka with ⟨kvs, d1, e1, e2, e3, e4⟩ | ⟨xs, d1, e1, e2, e3, e4, e5, e6⟩
  · rcases hm with ⟨m1, _⟩ | ⟨m1, m2⟩
    · obtain ⟨k0, rfl, rfl⟩ := key_of hk m1
      exact .inl ⟨kvs, k0, d1, e1, e2, e3, e4, rfl, rfl⟩
    · obtain ⟨ds, n, b, rfl, rfl, q1, q2, q3⟩ := tkey m1
      cases kvs with
      | nil =>
        subst e1 e2
        exact .inr ⟨[], ds, n, b, DictOf.flip d1, rfl, rfl, e3, Nat.zero_le _, (fun _ h => nomatch h), (fun _ h => nomatch h), rfl, rfl, q1, q2, q3⟩
      | cons p r =>
        subst e1
        rw [List.map_cons, List.all_cons, key_notT] at m2
        cases m2
  · rcases hm with ⟨m1, m2⟩ | ⟨m1, _⟩
    · obtain ⟨k0, rfl, rfl⟩ := key_of hk m1
      cases xs with
      | nil =>
        have : ks = [] := by cases ks with
          | nil => rfl
          | cons _ _ => cases e1
        subst this e2
        exact .inl ⟨[], k0, DictOfH.flip d1, rfl, rfl, e3, Nat.zero_le _, rfl, rfl⟩
      | cons x r =>
        subst e2
        rw [List.map_cons] at ka
        cases ka with
        | cons h _ =>
          rw [List.all_cons, Bool.and_eq_true] at m2
          obtain ⟨k1, _, e⟩ := key_of h m2.1
          cases k1 <;> cases e
    · obtain ⟨ds, n, b, rfl, rfl, q1, q2, q3⟩ := tkey m1
      exact .inr ⟨xs, ds, n, b, d1, e1, e2, e3, e4, e5, e6, rfl, rfl, q1, q2, q3⟩
theorem xd_look {a : Addr} {o : Obj} {ks : List D} {kv us : List V} {y : V} {k : D} {u : Value} (I : Inv X pins σ H s) (hK : X.K = c.K) (hw : X.w = c.w) (sub : ∀ a o, G a = some o → H a = some o) (hD : H a = some (xdO a o)) (d : DcO c.w a o ks kv us) (ka : RpAll c G kv ks) (hk : Rp c G y k) (hm : homog ks k = true) (ry : RelV y u) :
    XLook X s a u (look ks k us) := by
  rcases d.ask I hK hw sub hD ka hk hm with ⟨kvs, k0, d1, rfl, rfl, e3, e4, rfl, rfl⟩ | ⟨xs, ds, n, b, d1, e1, rfl, e3, e4, e5, e6, rfl, rfl, q1, q2, q3⟩
  · refine .inl ⟨kvs, k0, d1, ry, ?_⟩
    rw [valueAt_at]
    unfold look keyAt
    rw [idx_map (mix_keys k0)]
    exact relO_bind e3 _
  · cases ry
    refine .inr ⟨xs, .tup n, b, rfl, d1, q3, ?_⟩
    rw [atKey_at]
    unfold look keyAt
    rw [idx_map (nk_keys q1 e1)]
    exact relO_bind e3 _
theorem hasKey_look {ks : List D} {k : D} {kv us : List V} {w : World} {a : Addr} {o : Obj} (d : DcO w a o ks kv us) : (look ks k us).isSome = hasKey ks k := by
  have hl : us.length = ks.length := by
    cases d with
    | mix _ _ _ _ _ h => rw [h.length, List.length_map, List.length_map]
    | nk _ _ _ _ _ h e _ =>
      have := congrArg List.length e
      rw [List.length_map, List.length_map] at this
      rw [h.length, List.length_map, this]
  unfold look hasKey keyAt
  rw [any_idx]
  cases e : ks.findIdx? (keyEq k) with
  | none => rfl
  | some i =>
    have hi : i < ks.length := by
      have := List.findIdx?_eq_some_iff_findIdx_eq.mp e
      exact this.1
    show (us[i]?).isSome = true
    rw [List.getElem?_eq_getElem (by omega)]
    rfl
end
section
variable {X : Cx} {pins : List (Addr × Obj)} {σ : L2.St} {H : Hp} {s : Shared} {a : Addr} {y v d : V} {u r : Value} {o : Option V} {A : Around} {E : Value → Shared → Prop}
theorem nk_room {A : Around} {P : Program} {w : World} (hu : A.units + 10 < cLine) : (nestedKind P w).room A.in1 := by
  show A.units + 1 + 8 < cLine
  omega
theorem x_getItem {Q : Value → Shared → Prop} (hu : A.units + 10 < cLine) (I : Inv X pins σ H s) (g : XLook X s a u (some v)) (h : ∀ w' s', Inv X pins σ H s' → RelV v w' → Q w' s') : wpAny (model X.prog X.w) A (getItem (.ref a) u) Q E s := by
  rcases g with ⟨kvs, k0, d1, ry, rel⟩ | ⟨xs, n, b, rfl, d1, hk, rel⟩
  · obtain ⟨w', hw, rw'⟩ := RelO.some_of (v := v) (o := valueAt kvs k0) rel
    exact wpAny_getItem_of (kV_is ry) d1.mapOf hw (h w' _ (I.tok _) rw')
  · obtain ⟨w', hw, rw'⟩ := RelO.some_of (v := v) (o := (atKey xs n).map (·.2)) rel
    obtain ⟨p, hp, hp2⟩ := Option.map_eq_some_iff.mp hw
    refine wpAny_getItem_heap (nk_room hu) hk d1 hp ?_
    rw [hp2]
    exact h w' _ (I.tok _) rw'
theorem x_in {Q : Value → Shared → Prop} (hu : A.units + 10 < cLine) (I : Inv X pins σ H s) (hd : (a == sysModules) = false) (g : XLook X s a u o) (h : ∀ s', Inv X pins σ H s' → Q (.bool o.isSome) s') : wpAny (model X.prog X.w) A (compareOp .In u (.ref a)) Q E s := by
  rcases g with ⟨kvs, k0, d1, ry, rel⟩ | ⟨xs, n, b, rfl, d1, hk, rel⟩
  · refine wpAny_in_of (kV_is ry) hd d1.mapOf ?_
    rw [← rel.isSome_eq]
    exact h _ (I.tok _)
  · refine wpAny_in_heap (nk_room hu) hk hd d1 ?_
    have q := rel.isSome_eq
    rw [Option.isSome_map] at q
    rw [← q]
    exact h _ (I.tok _)
theorem x_notIn {Q : Value → Shared → Prop} (hu : A.units + 10 < cLine) (I : Inv X pins σ H s) (hd : (a == sysModules) = false) (g : XLook X s a u o) (h : ∀ s', Inv X pins σ H s' → Q (.bool (!o.isSome)) s') : wpAny (model X.prog X.w) A (compareOp .NotIn u (.ref a)) Q E s := by
  rcases g with ⟨kvs, k0, d1, ry, rel⟩ | ⟨xs, n, b, rfl, d1, hk, rel⟩
  · refine wpAny_notIn_of (kV_is ry) hd d1.mapOf ?_
    rw [← rel.isSome_eq]
    exact h _ (I.tok _)
  · refine wpAny_notIn_heap (nk_room hu) hk hd d1 ?_
    have q := rel.isSome_eq
    rw [Option.isSome_map] at q
    rw [← q]
    exact h _ (I.tok _)
end
/-! ### the store -/
theorem vals_zip {kvs : List (Key × Value)} {k0 : Key} {v : V} {r : Value} (rv : RelV v r) : ∀ {us : List V}, Vals us (kvs.map (·.2)) → Vals (List.zipWith (fun k' d => if keyEq (keyD k0) k' then v else d) (kvs.map fun p => keyD p.1) us) ((kvs.map fun kv => if kv.1 = k0 then (kv.1, r) else kv).map (·.2)) := by
  induction kvs with
  | nil => intro us h; cases h; exact .nil
  | cons p kvs ih =>
    intro us h
    rw [List.map_cons] at h
    cases h with
    | cons h1 h2 =>
      simp only [List.map_cons, List.zipWith_cons_cons, keyEq_keyD]
      refine .cons ?_ (ih h2)
      by_cases e : p.1 = k0
      · rw [if_pos (by rw [e]; simp), if_pos e]
        exact rv
      · rw [if_neg (by simp; exact fun z => e z.symm), if_neg e]
        exact h1
theorem vals_zipH {ds : List D} {n : List NestedKey} (hn : nkDs ds = some n) {v : V} {r : Value} (rv : RelV v r) : ∀ {xs : List (NestedKey × Addr × Value)} {ks : List D} {us : List V}, ks.map nkD = xs.map (fun x => some x.1) → Vals us (xs.map (·.2.2)) →
    Vals (List.zipWith (fun k' d => if keyEq (.tup ds) k' then v else d) ks us) ((xs.map (putAt (.tup n) r)).map (·.2.2))
  | [], [], us, _, h => by cases h; exact .nil
  | [], _ :: _, us, e, h => by cases e
  | _ :: _, [], us, e, h => by cases e
  | x :: xs, k :: ks, us, e, h => by
    rw [List.map_cons, List.map_cons] at e
    injection e with e1 e2
    rw [List.map_cons] at h
    cases h with
    | cons h1 h2 =>
      simp only [List.map_cons, List.zipWith_cons_cons, keyEqT hn e1]
      refine .cons ?_ (vals_zipH hn rv e2 h2)
      unfold putAt
      by_cases q : x.1 = .tup n
      · rw [if_pos (decide_eq_true q), if_pos q]
        exact rv
      · rw [if_neg (by simp [q]), if_neg q]
        exact h1
theorem hasKey_mix {kvs : List (Key × Value)} {k0 : Key} : hasKey (kvs.map fun p => keyD p.1) (keyD k0) = kvs.any fun kv => decide (kv.1 = k0) := any_map2 (mix_keys k0)
theorem mix_stored {kvs : List (Key × Value)} {k0 : Key} {v : V} {r : Value} {us : List V} (rv : RelV v r) (e3 : Vals us (kvs.map (·.2))) :
    (stored kvs k0 r).map (fun p => keyD p.1) = putKs (kvs.map fun p => keyD p.1) (keyD k0) (kvs.map fun p => keyD p.1) (keyD k0) ∧
    (stored kvs k0 r).map (fun p => kV p.1) = putKs (kvs.map fun p => keyD p.1) (keyD k0) (kvs.map fun p => kV p.1) (kV k0) ∧
    Vals (putVs (kvs.map fun p => keyD p.1) (keyD k0) us v) ((stored kvs k0 r).map (·.2)) := by
  unfold stored putKs putVs
  rw [hasKey_mix]
  by_cases e : (kvs.any fun kv => decide (kv.1 = k0)) = true
  · rw [if_pos e, if_pos e, if_pos e, if_pos e]
    refine ⟨?_, ?_, vals_zip rv e3⟩
    · rw [List.map_map]
      apply List.map_congr_left
      intro p _
      show keyD (if p.1 = k0 then (p.1, r) else p).1 = _
      split <;> rfl
    · rw [List.map_map]
      apply List.map_congr_left
      intro p _
      show kV (if p.1 = k0 then (p.1, r) else p).1 = _
      split <;> rfl
  · rw [if_neg e, if_neg e, if_neg e, if_neg e]
    refine ⟨?_, ?_, ?_⟩
    · rw [List.map_append]; rfl
    · rw [List.map_append]; rfl
    · rw [List.map_append]
      exact e3.append (.cons rv .nil)
theorem hasKey_nk {ds : List D} {n : List NestedKey} {ks : List D} {xs : List (NestedKey × Addr × Value)} (hn : nkDs ds = some n) (e1 : ks.map nkD = xs.map (fun x => some x.1)) : hasKey ks (.tup ds) = (atKey xs (.tup n)).isSome := by
  have h1 : hasKey ks (.tup ds) = xs.any fun x => decide (x.1 = .tup n) := any_map2 (nk_keys hn e1)
  rw [h1, any_idx]
  unfold atKey
  rw [find_at, Option.isSome_map]
  cases e : xs.findIdx? fun x => decide (x.1 = .tup n) with
  | none => rfl
  | some i =>
    have hi := (List.findIdx?_eq_some_iff_findIdx_eq.mp e).1
    show true = (xs[i]?).isSome
    rw [List.getElem?_eq_getElem hi]
    rfl
theorem nk_stored {ds : List D} {n : List NestedKey} {ks : List D} {xs : List (NestedKey × Addr × Value)} {b : Addr} {v : V} {r : Value} {us : List V} (hn : nkDs ds = some n) (hk : nkD (.tup ds) = some (.tup n)) (hd : (NestedKey.tup n).depth ≤ 8) (e1 : ks.map nkD = xs.map (fun x => some x.1)) (rv : RelV v r) (e3 : Vals us (xs.map (·.2.2))) (e6 : ∀ x ∈ xs, x.1.depth ≤ 8) :
    (putKs ks (.tup ds) ks (.tup ds)).map nkD = (storedH xs (.tup n) b r).map (fun x => some x.1) ∧
    (storedH xs (.tup n) b r).map (fun x => V.ref x.2.1) = putKs ks (.tup ds) (xs.map fun x => V.ref x.2.1) (.ref b) ∧
    Vals (putVs ks (.tup ds) us v) ((storedH xs (.tup n) b r).map (·.2.2)) ∧ ∀ x ∈ storedH xs (.tup n) b r, x.1.depth ≤ 8 := by
  unfold storedH putKs putVs
  rw [hasKey_nk hn e1]
  by_cases e : (atKey xs (.tup n)).isSome = true
  · rw [if_pos e, if_pos e, if_pos e, if_pos e]
    refine ⟨?_, ?_, vals_zipH hn rv e1 e3, ?_⟩
    · rw [e1, List.map_map]
      apply List.map_congr_left
      intro p _
      show _ = some (putAt (.tup n) r p).1
      unfold putAt
      split <;> rfl
    · rw [List.map_map]
      apply List.map_congr_left
      intro p _
      show V.ref (putAt (.tup n) r p).2.1 = _
      unfold putAt
      split <;> rfl
    · intro x hx
      obtain ⟨p, hp, rfl⟩ := List.mem_map.mp hx
      have := e6 p hp
      unfold putAt
      split <;> exact this
  · rw [if_neg e, if_neg e, if_neg e, if_neg e]
    refine ⟨?_, ?_, ?_, ?_⟩
    · rw [List.map_append, List.map_append, e1, List.map_cons, hk]; rfl
    · rw [List.map_append]; rfl
    · rw [List.map_append]
      exact e3.append (.cons rv .nil)
    · intro x hx
      rcases List.mem_append.mp hx with hx | hx
      · exact e6 x hx
      · rw [List.mem_singleton] at hx
        subst hx
        exact hd
theorem stored_len (kvs : List (Key × Value)) (k : Key) (r : Value) : (stored kvs k r).length ≤ kvs.length + 1 := by
  unfold stored
  split
  · rw [List.length_map]; omega
  · rw [List.length_append]; exact Nat.le_refl _
theorem storedH_len (xs : List (NestedKey × Addr × Value)) (k : NestedKey) (b : Addr) (r : Value) : (storedH xs k b r).length ≤ xs.length + 1 := by
  unfold storedH
  split
  · rw [List.length_map]; omega
  · rw [List.length_append]; exact Nat.le_refl _
theorem RpAll.put {c : Cfg} {G : Hp} {ks kd : List D} {kv : List V} {k x : D} {y : V} (ka : RpAll c G kv kd) (hk : Rp c G y x) : RpAll c G (putKs ks k kv y) (putKs ks k kd x) := by
  unfold putKs
  split
  · exact ka
  · exact ka.snoc hk
section
variable {X : Cx} {pins : List (Addr × Obj)} {σ : L2.St} {H : Hp} {s : Shared} {c : Cfg} {G : Hp} {A : Around} {E : Value → Shared → Prop}
/-- what a store leaves -/
theorem xd_store {a : Addr} {o : Obj} {ks : List D} {kv us : List V} {y v : V} {k : D} {u r : Value} {m : Sem Unit} {Q : Unit → Shared → Prop} (I : Inv X pins σ H s) (hK : X.K = c.K) (hw : X.w = c.w) (sub : ∀ a o, G a = some o → H a = some o) (hD : H a = some (xdO a o)) (d : DcO c.w a o ks kv us) (ka : RpAll c G kv ks) (hk : Rp c G y k) (hm : homog ks k = true)
    (hz : ks.length < sizeLine) (ry : RelV y u) (rv : RelV v r)
    (step1 : ∀ kvs k0, RelV (kV k0) u → s.heap.DictOf (mixKind X.prog X.w) a kvs → kvs.length ≤ sizeLine → (∀ h', h'.DictOf (mixKind X.prog X.w) a (stored kvs k0 r) → Heap.SameBut a s.heap h' → ∀ t, Q () { s with heap := h', toks := t }) → wpAny (model X.prog X.w) A m Q E s)
    (step2 : ∀ xs n b, u = .ref b → (nestedKind X.prog X.w).is s.heap n b → s.heap.DictOfH (nestedKind X.prog X.w) a xs → xs.length ≤ sizeLine → (∀ h', h'.DictOfH (nestedKind X.prog X.w) a (storedH xs n b r) → Heap.SameBut a s.heap h' → ∀ t, Q () { s with heap := h', toks := t }) → wpAny (model X.prog X.w) A m Q E s)
    (q : ∀ s' o', Inv X pins σ (upd H a (xdO a o')) s' → DcO c.w a o' (putKs ks k ks k) (putKs ks k kv y) (putVs ks k us v) → Q () s') : wpAny (model X.prog X.w) A m Q E s := by
  have sys := d.sys
  rcases d.ask I hK hw sub hD ka hk hm with ⟨kvs, k0, d1, rfl, rfl, e3, e4, rfl, rfl⟩ | ⟨xs, ds, n, b, d1, e1, rfl, e3, e4, e5, e6, rfl, rfl, q1, q2, q3⟩
  · refine step1 kvs k0 ry d1 e4 fun h' dd same t => ?_
    obtain ⟨o', es, ep, ho, hc, hd, _⟩ := id dd
    have I' : Inv X pins σ (upd H a (xdO a o')) { s with heap := h', toks := t } := d_write I (by rw [hD]; exact True.intro) same ⟨o', ho⟩ (xd_ok ho)
    have mo : MixObj c.w o' (stored kvs k0 r) := hw ▸ mixObj_of dd ho
    rw [List.length_map] at hz
    have lk : (stored kvs k0 r).length ≤ sizeLine := Nat.le_trans (stored_len _ _ _) hz
    obtain ⟨f1, f2, f3⟩ := mix_stored (k0 := k0) rv e3
    have dc := DcO.mix (w := c.w) (a := a) sys hc ⟨es, ep, hd⟩ mo lk f3
    rw [f1, f2] at dc
    exact q _ o' I' dc
  · cases ry
    refine step2 xs (.tup n) b rfl q3 d1 e4 fun h' dd same t => ?_
    obtain ⟨o', es, ep, ho, hc, hd, _⟩ := id dd
    have I' : Inv X pins σ (upd H a (xdO a o')) { s with heap := h', toks := t } := d_write I (by rw [hD]; exact True.intro) same ⟨o', ho⟩ (xd_ok ho)
    have mo : NkObj c.w o' (storedH xs (.tup n) b r) := hw ▸ nkObj_of dd ho
    have hl : ks.length = xs.length := by
      have := congrArg List.length e1
      rw [List.length_map, List.length_map] at this
      exact this
    have lk : (storedH xs (.tup n) b r).length ≤ sizeLine := Nat.le_trans (storedH_len _ _ _ _) (by omega)
    have hk2 : nkD (.tup ds) = some (.tup n) := by rw [nkD, q1]
    obtain ⟨f1, f2, f3, f4⟩ := nk_stored (b := b) q1 hk2 q2 e1 rv e3 e6
    have dc := DcO.nk (w := c.w) (a := a) sys hc ⟨es, ep, hd⟩ mo lk f3 f1 f4
    rw [f2] at dc
    exact q _ o' I' dc
theorem x_setItem {a : Addr} {o : Obj} {ks : List D} {kv us : List V} {y v : V} {k : D} {u r : Value} {Q : Unit → Shared → Prop} (hu : A.units + 10 < cLine) (I : Inv X pins σ H s) (hK : X.K = c.K) (hw : X.w = c.w) (sub : ∀ a o, G a = some o → H a = some o) (hD : H a = some (xdO a o)) (d : DcO c.w a o ks kv us) (ka : RpAll c G kv ks) (hk : Rp c G y k) (hm : homog ks k = true)
    (hz : ks.length < sizeLine) (ry : RelV y u) (rv : RelV v r) (q : ∀ s' o', Inv X pins σ (upd H a (xdO a o')) s' → DcO c.w a o' (putKs ks k ks k) (putKs ks k kv y) (putVs ks k us v) → Q () s') :
    wpAny (model X.prog X.w) A (setItem (.ref a) u r) Q E s :=
  xd_store I hK hw sub hD d ka hk hm hz ry rv (fun kvs k0 r0 dd hl f => wpAny_setItem_pairs (hsz := hl) (kV_is r0) dd fun h' d' sm => f h' d' sm _)
    (fun xs n b e hk dd hl f => by subst e; exact wpAny_setItem_heap (hsz := hl) (nk_room hu) hk dd fun h' d' sm => f h' d' sm _) q
theorem nk_room0 {A : Around} {P : Program} {w : World} (hu : A.units + 10 < cLine) : (nestedKind P w).room A := by
  show A.units + 8 < cLine
  omega
theorem x_dictSet {a : Addr} {o : Obj} {ks : List D} {kv us : List V} {y v : V} {k : D} {u r : Value} {Q : Unit → Shared → Prop} (hu : A.units + 10 < cLine) (I : Inv X pins σ H s) (hK : X.K = c.K) (hw : X.w = c.w) (sub : ∀ a o, G a = some o → H a = some o) (hD : H a = some (xdO a o)) (d : DcO c.w a o ks kv us) (ka : RpAll c G kv ks) (hk : Rp c G y k) (hm : homog ks k = true)
    (hz : ks.length < sizeLine) (ry : RelV y u) (rv : RelV v r) (q : ∀ s' o', Inv X pins σ (upd H a (xdO a o')) s' → DcO c.w a o' (putKs ks k ks k) (putKs ks k kv y) (putVs ks k us v) → Q () s') :
    wpAny (model X.prog X.w) A (dictSet a u r) Q E s :=
  xd_store I hK hw sub hD d ka hk hm hz ry rv (fun kvs k0 r0 dd hl f => wpAny_dictSet_pairs (hsz := hl) (kV_is r0) dd fun h' d' sm => f h' d' sm _)
    (fun xs n b e hk dd hl f => by subst e; exact wpAny_dictSet_heap (hsz := hl) (nk_room0 hu) hk dd fun h' d' sm => f h' d' sm _) q
/-- a new dict -/
theorem DcO.new {w : World} {h : Heap} (hb : sysModules < h.objs.size) : DcO w h.objs.size { cls := .type "dict", data := .dict #[] } [] [] [] :=
  .mix (kvs := []) (beq_eq_false_iff_ne.mpr (Ne.symm (Nat.ne_of_lt hb))) ⟨rfl, rfl, rfl⟩ ⟨#[], 0, rfl⟩ (fun P h' b e => ⟨_, #[], 0, e, ⟨rfl, rfl, rfl⟩, rfl, (fun e he => by simp at he), .nil, List.nodup_nil⟩) (Nat.zero_le _) .nil
theorem pairs_keys {P : Program} {w : World} {l : List DictEntry} {kvs : List (Key × Value)} (hp : Pairs (mixKind P w) l kvs) : Vals (kvs.map fun p => kV p.1) (l.map (·.key)) := by
  induction hp with
  | nil => exact .nil
  | cons h1 h2 _ ih =>
    rw [List.map_cons, List.map_cons]
    exact .cons (relV_key (show keyIs _ _ = true from h1)) ih
theorem pairs_vals {P : Program} {w : World} {l : List DictEntry} {kvs : List (Key × Value)} (hp : Pairs (mixKind P w) l kvs) : l.map (·.val) = kvs.map (·.2) := by
  induction hp with
  | nil => rfl
  | cons h1 h2 _ ih => rw [List.map_cons, List.map_cons, h2, ih]
theorem vals_refs : ∀ xs : List (NestedKey × Addr × Value), Vals (xs.map fun x => V.ref x.2.1) (xs.map fun x => Value.ref x.2.1)
  | [] => .nil
  | x :: xs => by
    rw [List.map_cons, List.map_cons]
    exact .cons rfl (vals_refs xs)
/-- its entries -/
theorem DcO.raw {a : Addr} {o : Obj} {ks : List D} {kv us : List V} (I : Inv X pins σ H s) (hK : X.K = c.K) (hw : X.w = c.w) (sub : ∀ a o, G a = some o → H a = some o) (hD : H a = some (xdO a o)) (d : DcO c.w a o ks kv us) (ka : RpAll c G kv ks) :
    ∃ es ep, o.data = .dict es ep ∧ s.heap.DictRaw a es ep ∧ Vals kv (es.toList.map (·.key)) ∧ Vals us (es.toList.map (·.val)) ∧ es.size = ks.length := by
  have got := xd_get I hD
  rcases d.real I hK hw sub hD ka with ⟨kvs, ⟨o', es, ep, ho, hc, hd, hk, hp, hn⟩, rfl, rfl, e3, e4⟩ | ⟨xs, ⟨o', es, ep, ho, hc, hd, he, his, hn⟩, e1, rfl, e3, e4, e5, e6⟩
  · rw [got] at ho
    cases ho
    refine ⟨es, ep, hd, ⟨o, got, hc, hd⟩, pairs_keys hp, by rw [pairs_vals hp]; exact e3, ?_⟩
    · have := hp.length
      rw [Array.length_toList] at this
      rw [List.length_map]
      exact this
  · rw [got] at ho
    cases ho
    refine ⟨es, ep, hd, ⟨o, got, hc, hd⟩, by rw [he, List.map_map]; exact vals_refs xs, by rw [he, List.map_map]; exact e3, ?_⟩
    · have h1 := congrArg List.length e1
      have h2 := congrArg List.length he
      rw [List.length_map, List.length_map] at h1
      rw [List.length_map, Array.length_toList] at h2
      omega
end
end Fx
/-! dicts as data: comprehensions, reads, stores -/
namespace Fx
open PySem PySem.Spec PyProof.Rows L2
open C8 (Cal Mak pe_c pe_mk)
theorem valV_no : ∀ {kvs : List (Key × V)} {k : Key}, (kvs.map fun p => keyD p.1).any (keyEq (keyD k)) = false → valV kvs k = none
  | [], _, _ => rfl
  | p :: r, k, e => by
    rw [List.map_cons, List.any_cons, Bool.or_eq_false_iff, keyEq_keyD] at e
    have h : p.1 ≠ k := fun z => by simp [z] at e
    have := valV_no e.2
    unfold valV at this ⊢
    rw [List.find?_cons]
    simp [h, this]
theorem valV_at {c : Cfg} {G : Hp} : ∀ {kvs : List (Key × V)} {ds : List D} {k : Key} {i : Nat} {x : D}, RpAll c G (kvs.map (·.2)) ds → keyAt (kvs.map fun p => keyD p.1) (keyD k) = some i → ds[i]? = some x → ∃ v, valV kvs k = some v ∧ Rp c G v x
  | [], _, _, _, _, _, e, _ => by simp [keyAt] at e
  | p :: r, ds, k, i, x, ka, e, ex => by
    cases ka with
    | cons h ka =>
      rename_i d ds
      unfold keyAt at e
      rw [List.map_cons, List.findIdx?_cons] at e
      by_cases hk : keyEq (keyD k) (keyD p.1) = true
      · rw [hk] at e
        simp at e
        subst e
        rw [keyEq_keyD, decide_eq_true_eq] at hk
        simp at ex
        subst ex
        refine ⟨p.2, ?_, h⟩
        unfold valV
        rw [List.find?_cons]
        simp [hk]
      · have hk' : keyEq (keyD k) (keyD p.1) = false := by simpa using hk
        rw [hk'] at e
        simp at e
        obtain ⟨j, ej, rfl⟩ := e
        have hne : p.1 ≠ k := fun z => by
          rw [z, keyEq_keyD] at hk
          simp at hk
        obtain ⟨v, e1, e2⟩ := valV_at (k := k) (i := j) ka (by unfold keyAt; rw [List.findIdx?_map]; exact ej) (by simpa using ex)
        refine ⟨v, ?_, e2⟩
        unfold valV at e1 ⊢
        rw [List.find?_cons]
        simp only [hne, decide_false]
        exact e1
theorem RpAll.zip {c : Cfg} {G : Hp} {k x : D} {v : V} (hv : Rp c G v x) : ∀ {ks : List D} {us : List V} {ds : List D}, RpAll c G us ds → RpAll c G (List.zipWith (fun k' d => if keyEq k k' then v else d) ks us) (List.zipWith (fun k' d => if keyEq k k' then x else d) ks ds)
  | [], _, _, _ => by rw [List.zipWith_nil_left, List.zipWith_nil_left]; exact .nil
  | _ :: _, _, _, .nil => by rw [List.zipWith_nil_right, List.zipWith_nil_right]; exact .nil
  | k' :: ks, _, _, .cons h r => by
    rw [List.zipWith_cons_cons, List.zipWith_cons_cons]
    refine .cons ?_ (RpAll.zip hv r)
    split
    · exact hv
    · exact h
theorem RpAll.putV {c : Cfg} {G : Hp} {ks ds : List D} {us : List V} {k x : D} {v : V} (ka : RpAll c G us ds) (hv : Rp c G v x) : RpAll c G (putVs ks k us v) (putVs ks k ds x) := by
  unfold putVs
  split
  · exact ka.zip hv
  · exact ka.snoc hv
/-! ### readings -/
def LookX (c : Cfg) (H : Hp) (a : Addr) (y : V) (vo : Option V) : Prop := ∃ (o : Obj) (ks : List D) (kv us : List V) (k : D) (G : Hp), H a = some (xdO a o) ∧ DcO c.w a o ks kv us ∧ (∀ a o, G a = some o → H a = some o) ∧ RpAll c G kv ks ∧ Rp c G y k ∧ homog ks k = true ∧ vo = look ks k us
def PutX (c : Cfg) (H : Hp) (a : Addr) (y v : V) (Nx : Hp → Prop) : Prop := ∃ (o : Obj) (ks : List D) (kv us : List V) (k : D) (G : Hp), H a = some (xdO a o) ∧ DcO c.w a o ks kv us ∧ (∀ a o, G a = some o → H a = some o) ∧ RpAll c G kv ks ∧ Rp c G y k ∧ homog ks k = true ∧ ks.length < sizeLine ∧
  ∀ o', DcO c.w a o' (putKs ks k ks k) (putKs ks k kv y) (putVs ks k us v) → Nx (upd H a (xdO a o'))
def IsX (c : Cfg) (H : Hp) (a : Addr) : Prop := ∃ (o : Obj) (ks : List D) (kv us : List V), H a = some (xdO a o) ∧ DcO c.w a o ks kv us
section
variable {X : Cx} {pins : List (Addr × Obj)} {σ : L2.St} {H : Hp} {s : Shared} {c : Cfg} {a : Addr} {y : V} {u : Value} {vo : Option V}
theorem LookX.isX (h : LookX c H a y vo) : IsX c H a := let ⟨o, ks, kv, us, _, _, h1, h2, _⟩ := h; ⟨o, ks, kv, us, h1, h2⟩
theorem LookX.x (I : Inv X pins σ H s) (hK : X.K = c.K) (hw : X.w = c.w) (ry : RelV y u) (h : LookX c H a y vo) : XLook X s a u vo := by
  obtain ⟨o, ks, kv, us, k, G, h1, h2, h3, h4, h5, h6, rfl⟩ := h
  exact xd_look I hK hw h3 h1 h2 h4 h5 h6 ry
theorem IsX.at_ (I : Inv X pins σ H s) (h : IsX c H a) : s.TypeIs (.ref a) "dict" ∧ (∀ b, Value.ref a = .ref b → ∃ ob, s.heap.get? b = some ob ∧ ob.dict = none) ∧ (a == sysModules) = false := by
  obtain ⟨o, ks, kv, us, h1, h2⟩ := h
  have got := xd_get I h1
  refine ⟨⟨o, got, h2.exact.1⟩, fun b e => ?_, h2.sys⟩
  cases e
  exact ⟨o, got, h2.exact.2.1⟩
end
/-- .. of a dict told by its keys and values alone -/
def LookK (H : Hp) (a : Addr) (y : V) (vo : Option V) : Prop := ∃ kvs k, H a = some (.dK kvs) ∧ y = kV k ∧ vo = valV kvs k
def LookE (c : Cfg) (H : Hp) (a : Addr) (y : V) (vo : Option V) : Prop := H a = some (.dK []) ∧ (∃ (G : Hp) (k : D), (∀ a o, G a = some o → H a = some o) ∧ Rp c G y k ∧ isKeyT k = true) ∧ vo = none
def LookA (c : Cfg) (H : Hp) (a : Addr) (y : V) (vo : Option V) : Prop := LookX c H a y vo ∨ LookK H a y vo ∨ LookE c H a y vo
def IsA (c : Cfg) (H : Hp) (a : Addr) : Prop := IsX c H a ∨ ∃ kvs, H a = some (.dK kvs)
section
variable {X : Cx} {pins : List (Addr × Obj)} {σ : L2.St} {H : Hp} {s : Shared} {c : Cfg} {a : Addr} {y : V} {u : Value} {vo : Option V}
theorem LookA.isA (h : LookA c H a y vo) : IsA c H a := by
  rcases h with h | ⟨kvs, k, h, _⟩ | ⟨h, _⟩
  · exact .inl h.isX
  · exact .inr ⟨_, h⟩
  · exact .inr ⟨_, h⟩
theorem IsA.at_ (I : Inv X pins σ H s) (h : IsA c H a) : s.TypeIs (.ref a) "dict" ∧ (∀ b, Value.ref a = .ref b → ∃ ob, s.heap.get? b = some ob ∧ ob.dict = none) ∧ (a == sysModules) = false := by
  rcases h with h | ⟨kvs, h⟩
  · exact h.at_ I
  · exact isD_at I (.inl ⟨kvs, .inl h⟩)
theorem LookA.x (I : Inv X pins σ H s) (hK : X.K = c.K) (hw : X.w = c.w) (ry : RelV y u) (h : LookA c H a y vo) : XLook X s a u vo := by
  rcases h with h | ⟨kvs, k, h, rfl, rfl⟩ | ⟨h, ⟨G, k, sub, hk, ht⟩, rfl⟩
  · exact h.x I hK hw ry
  · obtain ⟨z, hd, vs, rel, dd⟩ := dk_of I.hok h
    exact .inl ⟨vs, k, dd, ry, rel.val k⟩
  · obtain ⟨z, hd, vs, rel, dd⟩ := dk_of I.hok h
    cases rel
    obtain ⟨ds, n, rfl, e1, e2, e3⟩ := keyT_of ht
    obtain ⟨b, vs, rfl, _⟩ := hk.tupE
    cases ry
    exact .inr ⟨[], .tup n, b, rfl, DictOf.flip dd, ⟨rp_nested I hK sub hk e2 rfl, e3⟩, True.intro⟩
end
def rInX (c : Cfg) (neg : Bool) : R2 := fun y x H Q => ∃ a o, x = .ref a ∧ LookA c H a y o ∧ Q (.bl (if neg then !o.isSome else o.isSome)) H
def rSetX (c : Cfg) : TSet := fun o i v H Q => ∃ p, o = .ref p ∧ PutX c H p i v Q
section
variable {X : Cx} {c : Cfg} {o i e f value : Expr} {pos pos' apos cpos : Pos} {td ty tv tx : TE}
/-- d[y] by values -/
def rGetX (c : Cfg) : R2 := fun x y H Q => ∃ a v, x = .ref a ∧ LookA c H a y (some v) ∧ Q v H
theorem ix_X (hK : X.K = c.K) (hw : X.w = c.w) (hu : X.A.units + 10 < cLine) : IxR X (rGetX c) := by
  intro ve se pins st σ H x y xv yv Q I rx ry ⟨a, v, ex, look, fin⟩ plain
  subst ex
  cases rx
  have ty := (look.isA.at_ I).1
  unfold subscriptTail
  refine wpAny_bind ?_
  rw [getitemInPython_of_ne ty.not_modules]
  refine wpAny_bind (wpAny_specialOf ty PySem.F.slot_dict_getitem.lookup ?_)
  have got := x_getItem (E := X.xe) (Q := EP X pins σ Q) hu I (look.x I hK hw ry) fun w' s' I' rw' => ⟨v, H, I', rw', fin⟩
  first
    | exact wpAny_pure (wpAny_bind (by rw [plain]; exact wpAny_operating (wpAny_mono got (fun _ _ h => wpAny_bind (wpAny_letTemporaryGo (wpAny_pure h))) fun _ _ h => h)))
    | exact wpAny_bind (wpAny_pure (wpAny_bind (by rw [plain]; exact wpAny_operating (wpAny_mono got (fun _ _ h => wpAny_bind (wpAny_letTemporaryGo (wpAny_pure h))) fun _ _ h => h))))
    | exact wpAny_bind (by rw [plain]; exact wpAny_operating (wpAny_mono got (fun _ _ h => wpAny_bind (wpAny_letTemporaryGo (wpAny_pure h))) fun _ _ h => h))
theorem op_inX (hK : X.K = c.K) (hw : X.w = c.w) (hu : X.A.units + 10 < cLine) : OpR X (compareOp .In) (rInX c false) := by
  rintro pins st σ H y x yv xv Q I ry rx ⟨a, vo, ex, look, fin⟩
  subst ex
  cases rx
  exact x_in hu I (look.isA.at_ I).2.2 (look.x I hK hw ry) fun s' I' => ⟨.bl vo.isSome, H, I', rfl, fin⟩
theorem op_ninX (hK : X.K = c.K) (hw : X.w = c.w) (hu : X.A.units + 10 < cLine) : OpR X (compareOp .NotIn) (rInX c true) := by
  rintro pins st σ H y x yv xv Q I ry rx ⟨a, vo, ex, look, fin⟩
  subst ex
  cases rx
  exact x_notIn hu I (look.isA.at_ I).2.2 (look.x I hK hw ry) fun s' I' => ⟨.bl (!vo.isSome), H, I', rfl, fin⟩
theorem set_X (hK : X.K = c.K) (hw : X.w = c.w) (hu : X.A.units + 10 < cLine) : PSet X (rSetX c) := by
  rintro pins st σ H x y v xv yv zv Q I rx ry rz ⟨p, ex, ob, ks, kv, us, k, G, p1, p2, p3, p4, p5, p6, p7, fin⟩
  subst ex
  cases rx
  exact x_setItem hu I hK hw p3 p1 p2 p4 p5 p6 p7 ry rz fun s' o' I' d => ⟨_, I', fin o' d⟩
end
end Fx
/-! dicts on data -/
namespace Fx
open PySem PySem.Spec PyProof.Rows L2
open C8 (Cal Mak pe_c pe_mk)
theorem dc_it {J : It} {n : Nat} {G : Hp → Prop} {Y : Nat → Hp → V → Hp → Prop} (w : Walk J n G Y) {g : TG} {tt : TT} {tk tv : TE} {vs : List Nat} {σ : L2.St} {H1 : Hp} {D : Addr} {Qd : Hp → Prop} (Pv : Nat → Hp → Prop) (h0 : Pv 0 (upd H1 D (.dK []))) (hG : ∀ i H, i ≤ n → Pv i H → G H)
    (hs : ∀ i x H H', i < n → Pv i H → Y i H x H' → g x (L2.wipe σ vs) H' fun σ2 H2 => L2.wipe σ2 vs = L2.wipe σ vs ∧ tt σ2 H2 fun b H3 =>
      if b = true then tk σ2 H3 fun y H4 => tv σ2 H4 fun z H5 => ∃ kvs k, y = kV k ∧ H5 D = some (.dK kvs) ∧ kvs.length < sizeLine ∧ Pv (i + 1) (upd H5 D (.dK (putK kvs k z))) else Pv (i + 1) H3) (hd : ∀ H, Pv n H → Qd H) :
    ∃ W : Nat → Nat → Hp → Prop, (∃ m, W 0 m (upd H1 D (.dK []))) ∧ ∀ i m H, W i m H →
      (J.stop i H ∧ Qd H) ∨ (J.go i H ∧ ∃ Nx : Hp → Prop, (∀ H', Nx H' → ∃ m', m' < m ∧ W (i + 1) m' H') ∧ ∀ x H', J.yld i H x H' → g x (L2.wipe σ vs) H' fun σ2 H2 => L2.wipe σ2 vs = L2.wipe σ vs ∧ tt σ2 H2 fun b H3 =>
        if b = true then tk σ2 H3 fun y H4 => tv σ2 H4 fun z H5 => ∃ kvs k, y = kV k ∧ H5 D = some (.dK kvs) ∧ kvs.length < sizeLine ∧ Nx (upd H5 D (.dK (putK kvs k z))) else Nx H3) := by
  refine ⟨fun i m H => m = n - i ∧ i ≤ n ∧ Pv i H, ⟨n, by simp, Nat.zero_le _, h0⟩, ?_⟩
  rintro i m H ⟨rfl, hi, p⟩
  have q := hG i H hi p
  by_cases hlt : i < n
  · refine .inr ⟨w.goes i H hlt q, Pv (i + 1), fun H' p' => ⟨n - (i + 1), by omega, rfl, hlt, p'⟩, fun x H' y => hs i x H H' hlt p (w.yields i H x H' hlt q y)⟩
  · have e : i = n := by omega
    subst e
    exact .inl ⟨w.stops H q, hd H p⟩
/-! ### reads -/
def gDget : D → D → Option S
  | .dct ks ds, k => if homog ks k then (look ks k ds).bind ok1 else none
  | .dcq ks ds, k => if homog ks k then (look ks k ds).bind ok1 else none
  | _, _ => none
def gInD (neg : Bool) : D → D → Option S
  | k, .dct ks _ => if homog ks k then ok1 (.bl (if neg then !hasKey ks k else hasKey ks k)) else none
  | _, _ => none
/-- a name that holds a dict, whether it may still be changed or not -/
def isDc : D → Bool
  | .dct _ _ => true
  | .dcq _ _ => true
  | _ => false
def peekD (ρ : En) (i : Nat) : Bool := match peek ρ i with
  | some x => isDc x
  | none => false
section
variable {c : Cfg} {B : Base} {W : WX} {ts : En} {vs : List (Option V)} {ρ : En} {σ : L2.St} {H : Hp} {ta tb tx : TE} {fa fb fx : M S} {i : Nat}
theorem look_rp {G : Hp} {us : List V} {ds ks : List D} {k x : D} (ka : RpAll c G us ds) (e : look ks k ds = some x) : ∃ v, look ks k us = some v ∧ Rp c G v x := by
  unfold look at e ⊢
  cases h : keyAt ks k with
  | none => rw [h] at e; cases e
  | some j =>
    rw [h] at e
    exact ka.get e
theorem look_no {G : Hp} {us : List V} {ds ks : List D} {k : D} (ka : RpAll c G us ds) (e : look ks k ds = none) : look ks k us = none := by
  unfold look at e ⊢
  cases h : keyAt ks k with
  | none => rfl
  | some j =>
    rw [h] at e
    have e : ds[j]? = none := e
    show us[j]? = none
    rw [List.getElem?_eq_none_iff] at e ⊢
    rw [ka.length]
    exact e
/-- a dict at a, either of its two forms -/
def DcAt (c : Cfg) (G H : Hp) (a : Addr) (ks ds : List D) : Prop := (∃ kvs : List (Key × V), H a = some (.dK kvs) ∧ ks = kvs.map (fun p => keyD p.1) ∧ RpAll c G (kvs.map (·.2)) ds) ∨ ∃ o kv us, H a = some (xdO a o) ∧ DcO c.w a o ks kv us ∧ RpAll c G kv ks ∧ RpAll c G us ds
theorem Rp.dcE {G : Hp} {v : V} {ks ds : List D} (s : ∀ a o, G a = some o → H a = some o) (h : Rp c G v (.dct ks ds)) : ∃ a, v = .ref a ∧ DcAt c G H a ks ds := by
  cases h with
  | @dcx a o kv us _ _ ha hd k1 k2 => exact ⟨a, rfl, .inr ⟨o, kv, us, s _ _ ha, hd, k1, k2⟩⟩
theorem DcAt.isA {G : Hp} {a : Addr} {ks ds : List D} (h : DcAt c G H a ks ds) : IsA c H a := by
  rcases h with ⟨kvs, ha, _⟩ | ⟨o, kv, us, ha, hd, _⟩
  · exact .inr ⟨kvs, ha⟩
  · exact .inl ⟨o, ks, kv, us, ha, hd⟩
theorem Rp.dqE {G : Hp} {v : V} {ks ds : List D} (s : ∀ a o, G a = some o → H a = some o) (h : Rp c G v (.dcq ks ds)) : ∃ a, v = .ref a ∧ DcAt c G H a ks ds := by
  cases h with
  | @dct a kvs _ ha ka => exact ⟨a, rfl, .inl ⟨kvs, s _ _ ha, rfl, ka⟩⟩
/-- what is found -/
inductive OptRp (c : Cfg) (G : Hp) : Option V → Option D → Prop
  | none : OptRp c G none none
  | some {v : V} {x : D} : Rp c G v x → OptRp c G (some v) (some x)
theorem valV_none {kvs : List (Key × V)} {k : Key} (e : keyAt (kvs.map fun p => keyD p.1) (keyD k) = none) : valV kvs k = none := by
  refine valV_no ?_
  have := any_idx (p := keyEq (keyD k)) (l := kvs.map fun p => keyD p.1)
  unfold keyAt at e
  rw [e] at this
  exact this
theorem keyAt_lt {ks : List D} {k : D} {j : Nat} (e : keyAt ks k = some j) : j < ks.length := (List.findIdx?_eq_some_iff_findIdx_eq.mp e).1
theorem DcAt.find {G : Hp} {a : Addr} {ks ds : List D} {w : V} {k : D} (s : ∀ a o, G a = some o → H a = some o) (h : DcAt c G H a ks ds) (h2 : Rp c G w k) (hm : homog ks k = true) :
    ∃ vo, LookA c H a w vo ∧ OptRp c G vo (look ks k ds) ∧ vo.isSome = hasKey ks k := by
  have hs : ∀ (n : Nat) (l : List D), l.length = ks.length → (look ks k l).isSome = hasKey ks k := by
    intro n l hl
    unfold look hasKey
    rw [any_idx]
    show ((keyAt ks k).bind fun i => l[i]?).isSome = (keyAt ks k).isSome
    cases e : keyAt ks k with
    | none => rfl
    | some i =>
      have hi := keyAt_lt e
      show (l[i]?).isSome = true
      rw [List.getElem?_eq_getElem (by omega)]
      rfl
  rcases h with ⟨kvs, ha, rfl, ka⟩ | ⟨o, kv, us, ha, hd, k1, k2⟩
  · have hl : ds.length = (kvs.map fun p => keyD p.1).length := by rw [← ka.length, List.length_map, List.length_map]
    have hs' := hs 0 ds hl
    unfold homog at hm
    rw [Bool.or_eq_true, Bool.and_eq_true, Bool.and_eq_true] at hm
    have real : isKey k = true → ∃ vo, LookA c H a w vo ∧ OptRp c G vo (look (kvs.map fun p => keyD p.1) k ds) ∧ vo.isSome = hasKey (kvs.map fun p => keyD p.1) k := by
      intro hk
      obtain ⟨k0, rfl, rfl⟩ := key_of h2 hk
      refine ⟨valV kvs k0, .inr (.inl ⟨kvs, k0, ha, rfl, rfl⟩), ?_, ?_⟩
      · cases e : look (kvs.map fun p => keyD p.1) (keyD k0) ds with
        | none =>
          have : keyAt (kvs.map fun p => keyD p.1) (keyD k0) = none := by
            unfold Fx.look at e
            cases ei : keyAt (kvs.map fun p => keyD p.1) (keyD k0) with
            | none => rfl
            | some j =>
              rw [ei] at e
              have hj := keyAt_lt ei
              have e : ds[j]? = none := e
              rw [List.getElem?_eq_getElem (by omega)] at e
              cases e
          rw [valV_none this]
          exact .none
        | some x =>
          unfold Fx.look at e
          cases ei : keyAt (kvs.map fun p => keyD p.1) (keyD k0) with
          | none => rw [ei] at e; cases e
          | some j =>
            rw [ei] at e
            obtain ⟨u, e1, e2⟩ := valV_at ka ei e
            rw [e1]
            exact .some e2
      · rw [← valV_any, ← any_map2 (p := keyEq (keyD k0)) (l1 := kvs.map fun p => keyD p.1) (q := fun kv : Key × V => decide (kv.1 = k0)) (l2 := kvs)]
        · rfl
        · rw [List.map_map]
          apply List.map_congr_left
          intro p _
          show keyEq (keyD k0) (keyD p.1) = _
          rw [keyEq_keyD]
          by_cases e : p.1 = k0
          · rw [decide_eq_true e, decide_eq_true e.symm]
          · rw [decide_eq_false e, decide_eq_false fun z => e z.symm]
    rcases hm with hm | hm
    · exact real hm.1
    · cases kvs with
      | nil => exact ⟨none, .inr (.inr ⟨ha, ⟨G, k, s, h2, hm.1⟩, rfl⟩), .none, rfl⟩
      | cons p r =>
        have := hm.2
        rw [List.map_cons, List.all_cons, key_notT] at this
        cases this
  · refine ⟨Fx.look ks k us, .inl ⟨o, ks, kv, us, k, G, ha, hd, s, k1, h2, hm, rfl⟩, ?_, hasKey_look hd⟩
    cases e : Fx.look ks k ds with
    | none => rw [look_no k2 e]; exact .none
    | some x =>
      obtain ⟨u, e1, e2⟩ := look_rp k2 e
      rw [e1]
      exact .some e2
theorem den_dget (ha : Den c W ta fa) (hb : Den c W tb fb) : Den c W (tOp (rGetX c) ta tb) (mOp gDget fa fb) := fun B ts vs ρ σ H Q r q => by
  unfold mOp at q
  rw [post_then] at q
  refine ha.dv r (q.imp1 fun x ρ1 q v H1 r1 => ?_)
  rw [post_then] at q
  refine hb.dv r1 (q.imp (fun y ρ2 q w H2 r2 => ?_) fun _ _ h => h.drop)
  have q : Post (OkP c B ts vs σ Q) (ErrP c W B ts vs σ) (match gDget x y with
    | some s => .ok s ρ2
    | none => .stuck) := q
  cases x with
  | dct ks ds =>
    cases e : gDget (.dct ks ds) y with
    | none => rw [e] at q; exact q.elim
    | some s =>
      rw [e] at q
      have e : (if homog ks y then (look ks y ds).bind ok1 else none) = some s := e
      split at e
      · rename_i hm
        obtain ⟨G, O, h1, h2⟩ := r2.two
        obtain ⟨a, rfl, g⟩ := h1.dcE O.sub
        obtain ⟨vo, g1, g2, _⟩ := g.find O.sub h2 hm
        cases el : look ks y ds with
        | none => rw [el] at e; cases e
        | some z =>
          rw [el] at e g2
          cases e
          cases g2 with
          | some hu => exact ⟨a, _, rfl, g1, q _ _ (O.val hu)⟩
      · cases e
  | dcq ks ds =>
    cases e : gDget (.dcq ks ds) y with
    | none => rw [e] at q; exact q.elim
    | some s =>
      rw [e] at q
      have e : (if homog ks y then (look ks y ds).bind ok1 else none) = some s := e
      split at e
      · rename_i hm
        obtain ⟨G, O, h1, h2⟩ := r2.two
        obtain ⟨a, rfl, g⟩ := h1.dqE O.sub
        obtain ⟨vo, g1, g2, _⟩ := g.find O.sub h2 hm
        cases el : look ks y ds with
        | none => rw [el] at e; cases e
        | some z =>
          rw [el] at e g2
          cases e
          cases g2 with
          | some hu => exact ⟨a, _, rfl, g1, q _ _ (O.val hu)⟩
      · cases e
  | _ => exact q.elim
/-- the dict that a name holds -/
theorem Rep.dctAt {x : D} {ks ds : List D} (e : peek ρ i = some x) (hx : x = .dct ks ds ∨ x = .dcq ks ds) (r : Rep c B ts vs ρ σ H) : ∃ a G o1 o2, σ[i]? = some (some (.ref a)) ∧ OkB c B G H (o1 ++ o2) ∧ Sl c B G H ts vs o1 ∧ Sl c B G H ρ σ o2 ∧ DcAt c G H a ks ds := by
  unfold peek at e
  obtain ⟨G, o1, o2, k, h1, h2⟩ := r
  split at e
  · rename_i x e1
    cases e
    obtain ⟨v, ev, hv⟩ := h2.getD e1
    rcases hx with rfl | rfl
    · obtain ⟨a, rfl, g⟩ := hv.dcE k.sub
      exact ⟨a, G, o1, o2, ev, k, h1, h2, g⟩
    · obtain ⟨a, rfl, g⟩ := hv.dqE k.sub
      exact ⟨a, G, o1, o2, ev, k, h1, h2, g⟩
  · rename_i b x e1
    cases e
    obtain ⟨a, ev, hc, _, _⟩ := h2.getO e1
    rcases hx with rfl | rfl
    · exact ⟨a, G, o1, o2, ev, k, h1, h2, .inr hc⟩
    · exact hc.elim
  · cases e
def mDgetN (i : Nat) (fb : M S) : M S := fun ρ => if peekD ρ i then (dv fb ρ).then fun y ρ1 => match peek ρ1 i with
    | some x => match gDget x y with
      | some s => .ok s ρ1
      | none => .stuck
    | none => .stuck
  else .stuck
theorem peekD_at (h : peekD ρ i = true) (r : Rep c B ts vs ρ σ H) : ∃ a, σ[i]? = some (some (.ref a)) := by
  unfold peekD at h
  cases e : peek ρ i with
  | none => rw [e] at h; cases h
  | some x =>
    rw [e] at h
    cases x <;> first | cases h | skip
    · obtain ⟨a, _, _, _, ev, _⟩ := r.dctAt e (.inl rfl)
      exact ⟨a, ev⟩
    · obtain ⟨a, _, _, _, ev, _⟩ := r.dctAt e (.inr rfl)
      exact ⟨a, ev⟩
theorem den_dgetN (hb : Den c W tb fb) : Den c W (tOp (rGetX c) (tVar i) tb) (mDgetN i fb) := fun B ts vs ρ σ H Q r q => by
  unfold mDgetN at q
  split at q
  · rename_i hp
    obtain ⟨a, ev⟩ := peekD_at hp r
    rw [post_then] at q
    refine ⟨.ref a, ev, hb.dv r (q.imp1 fun y ρ1 q w H1 r1 => ?_)⟩
    cases e1 : peek ρ1 i with
    | none => rw [e1] at q; exact q.elim
    | some x =>
      rw [e1] at q
      have q : Post (OkP c B ts vs σ Q) (ErrP c W B ts vs σ) (match gDget x y with
        | some s => .ok s ρ1
        | none => .stuck) := q
      cases x with
      | dct ks ds =>
        cases e : gDget (.dct ks ds) y with
        | none => rw [e] at q; exact q.elim
        | some s =>
          rw [e] at q
          have e : (if homog ks y then (look ks y ds).bind ok1 else none) = some s := e
          split at e
          · rename_i hm
            obtain ⟨a', G, o1, o2, ev', kk, h1, h2, g⟩ := r1.dctAt e1 (.inl rfl)
            rw [ev] at ev'
            cases ev'
            cases h1 with
            | d hy h1 =>
              obtain ⟨vo, g1, g2, _⟩ := g.find kk.sub hy hm
              cases el : look ks y ds with
              | none => rw [el] at e; cases e
              | some z =>
                rw [el] at e g2
                cases e
                cases g2 with
                | some hu => exact ⟨a, _, rfl, g1, q _ _ ⟨G, o1, o2, kk, .d hu h1, h2⟩⟩
          · cases e
      | dcq ks ds =>
        cases e : gDget (.dcq ks ds) y with
        | none => rw [e] at q; exact q.elim
        | some s =>
          rw [e] at q
          have e : (if homog ks y then (look ks y ds).bind ok1 else none) = some s := e
          split at e
          · rename_i hm
            obtain ⟨a', G, o1, o2, ev', kk, h1, h2, g⟩ := r1.dctAt e1 (.inr rfl)
            rw [ev] at ev'
            cases ev'
            cases h1 with
            | d hy h1 =>
              obtain ⟨vo, g1, g2, _⟩ := g.find kk.sub hy hm
              cases el : look ks y ds with
              | none => rw [el] at e; cases e
              | some z =>
                rw [el] at e g2
                cases e
                cases g2 with
                | some hu => exact ⟨a, _, rfl, g1, q _ _ ⟨G, o1, o2, kk, .d hu h1, h2⟩⟩
          · cases e
      | _ => exact q.elim
  · exact q.elim
/-- x in d, d a name -/
def mInN (neg : Bool) (fa : M S) (i : Nat) : M S := fun ρ => (dv fa ρ).then fun y ρ1 => match peek ρ1 i with
  | some x => match gInD neg y x with
    | some s => .ok s ρ1
    | none => .stuck
  | none => .stuck
theorem den_inN {neg : Bool} (ha : Den c W ta fa) : Den c W (tOp (rInX c neg) ta (tVar i)) (mInN neg fa i) := fun B ts vs ρ σ H Q r q => by
  unfold mInN at q
  rw [post_then] at q
  refine ha.dv r (q.imp1 fun y ρ1 q w H1 r1 => ?_)
  cases e1 : peek ρ1 i with
  | none => rw [e1] at q; exact q.elim
  | some x =>
    rw [e1] at q
    have q : Post (OkP c B ts vs σ Q) (ErrP c W B ts vs σ) (match gInD neg y x with
      | some s => .ok s ρ1
      | none => .stuck) := q
    cases x with
    | dct ks ds =>
      cases e : gInD neg y (.dct ks ds) with
      | none => rw [e] at q; exact q.elim
      | some s =>
        rw [e] at q
        have e : (if homog ks y then ok1 (.bl (if neg then !hasKey ks y else hasKey ks y)) else none) = some s := by cases y <;> exact e
        split at e
        · rename_i hm
          cases e
          obtain ⟨a, G, o1, o2, ev, kk, h1, h2, g⟩ := r1.dctAt e1 (.inl rfl)
          cases h1 with
          | d hy h1 =>
            obtain ⟨vo, g1, g2, g3⟩ := g.find kk.sub hy hm
            exact ⟨.ref a, ev, a, vo, rfl, g1, by rw [g3]; exact q _ _ ⟨G, o1, o2, kk, .d (.bl _) h1, h2⟩⟩
        · cases e
    | _ => cases y <;> exact q.elim
end
end Fx
/-! tuple(d) of a dict -/
/-! dicts on data: get, store, new, comprehension, len, truth, walks, list(d), tuple(d), list(d.values()) -/
namespace Fx
open PySem PySem.Spec PyProof.Rows L2
open PySem.W (KdlSrc kdl_call)
open C8 (Cal Mak pe_c pe_mk)
/-- a dict whose keys and values are known -/
def WholeX (c : Cfg) (H : Hp) (a : Addr) (o : Obj) (ks : List D) (kv us : List V) : Prop := H a = some (xdO a o) ∧ DcO c.w a o ks kv us ∧ ∃ G : Hp, (∀ a o, G a = some o → H a = some o) ∧ RpAll c G kv ks
section
variable {X : Cx} {pins : List (Addr × Obj)} {σ : L2.St} {H : Hp} {s : Shared} {c : Cfg} {a : Addr} {o : Obj} {ks : List D} {kv us : List V}
theorem WholeX.raw (I : Inv X pins σ H s) (hK : X.K = c.K) (hw : X.w = c.w) (h : WholeX c H a o ks kv us) : s.heap.get? a = some o ∧ (a == sysModules) = false ∧ o.ExactDict ∧ ks.length ≤ sizeLine ∧ ∃ es ep, o.data = .dict es ep ∧ s.heap.DictRaw a es ep ∧ Vals kv (es.toList.map (·.key)) ∧ Vals us (es.toList.map (·.val)) ∧ es.size = ks.length := by
  obtain ⟨h1, h2, G, h3, h4⟩ := h
  exact ⟨xd_get I h1, h2.sys, h2.exact, h2.len, h2.raw I hK hw h3 h1 h4⟩
/-! ### for k in d -/
end
end Fx
/-! dicts on data: the rules that gen2 prints -/
namespace Fx
open PySem PySem.Spec PyProof.Rows L2
open C8 (Cal Mak pe_c pe_mk)
/-! ### k in d, d.get -/
/-- d[k] = v -/
def gmItemD (i : Nat) (fe : M S) : D → M Unit := fun x ρ => if peekD ρ i then (dv fe ρ).then fun y ρ1 => match ρ1[i]? with
    | some (some (.o b (.dct ks ds))) => if homog ks y && small (ks.length + 1) then .ok () (ρ1.set i (some (.o b (.dct (putKs ks y ks y) (putVs ks y ds x))))) else .stuck
    | _ => .stuck
  else .stuck
section
variable {c : Cfg} {W : WX} {B : Base} {ts : En} {vs : List (Option V)} {ρ : En} {σ : L2.St} {H : Hp} {te ta tb tx : TE} {fe fa fb fx : M S} {i : Nat}
theorem OptRp.getD {G : Hp} {vo : Option V} {xo : Option D} {v : V} {x : D} (h : OptRp c G vo xo) (hx : Rp c G v x) : Rp c G (vo.getD v) (xo.getD x) := by
  cases h with
  | none => exact hx
  | some h => exact h
theorem dct_cell {o : Obj} {ks : List D} {kv us : List V} {w : World} {a : Addr} (d : DcO w a o ks kv us) : isCell (xdO a o) := by
  obtain ⟨es, ep, e⟩ := d.dat
  exact .xd _ _ _ _ e
theorem dg_itemD (h : Den c W te fe) : DenG c W (gSub (tVar i) te (rSetX c)) (gmItemD i fe) [] := fun B ts vs ρ σ H x v Q r q => by
  unfold gmItemD at q
  split at q
  · rename_i hp
    obtain ⟨a, ev⟩ := peekD_at hp r
    rw [post_then] at q
    refine ⟨.ref a, ev, h.dv r (q.imp (fun y ρ1 q1 w H1 r1 => ?_) fun _ _ h => h.drop.toP)⟩
    split at q1
    · rename_i b ks ds e1
      split at q1
      · rename_i hz
        rw [Bool.and_eq_true] at hz
        obtain ⟨hm, hz⟩ := hz
        obtain ⟨G, o1, o2, kk, h1, h2⟩ := id r1
        obtain ⟨a', ev', ⟨o, kv, us, ha, hd, k1, k2⟩, hmem, hb⟩ := h2.getO e1
        rw [ev] at ev'
        cases ev'
        cases h1 with
        | d hw h1 =>
          cases h1 with
          | d hv h1 =>
            have nd := kk.nd
            rw [List.nodup_append] at nd
            have hz := small_line hz
            refine ⟨a, rfl, o, ks, kv, us, y, G, ha, hd, kk.sub, k1, hw, hm, by omega, fun o' d' => q1 σ _ ⟨rfl, fun _ _ => rfl⟩ ?_⟩
            exact ⟨G, o1, o2, kk.write (List.mem_append_right _ hmem) ha (dct_cell hd), h1.mono (fun _ _ e => e) fun q hq => upd_ne fun z => nd.2.2 q hq a hmem z, h2.write nd.2.1 e1 ev (fun q hq => upd_ne hq) ⟨o', _, _, upd_same, d', k1.put hw, k2.putV hv⟩⟩
      · exact q1.elim
    · exact q1.elim
  · exact q.elim
end
end Fx
/-! dicts on data: comprehensions; the rules that gen2 prints -/
namespace Fx
open PySem PySem.Spec PyProof.Rows L2
open C8 (Cal Mak pe_c pe_mk)
open PySem.W (KdlSrc kdl_call)
/-! ### list(d.values()) -/
section
variable {X : Cx} {c : Cfg} {W : WX} {tg it kx vx a b e : Expr} {ifs : List Expr} {fI : M (List D)} {g : D → M Unit} {js : List Nat} {ft : M Bool} {fk fv fa fb fe fx : M S} {scope : Scope} {own : List (Str × Nat)} {pos p p2 apos cpos : Pos} {wi : TI} {tgt : TG} {tt : TT} {tk tv ta tb te tx : TE} {kk : Nat} {x : Str}
theorem un10 {A : Around} (hr : Room kk A) : A.units + 10 < cLine := by have := un66 hr; omega
theorem q_dget (hr : Room kk X.A) (hw : X.w = c.w) (ha : QE X c W a ta fa) (hb : QE X c W b tb fb) (hK : X.K = c.K := by rfl) (hs : PlainIx b := by exact fun _ _ => rfl) : QE X c W (.Subscript a b pos) (tOp (rGetX c) ta tb) (mOp gDget fa fb) := by
  obtain ⟨h1, h2⟩ := ha; obtain ⟨k1, k2⟩ := hb
  exact ⟨pe_ix (ix_X hK hw (un10 hr)) h1 k1 hs, den_dget h2 k2⟩
theorem q_dgetN (i : Nat) (hr : Room kk X.A) (hw : X.w = c.w) (hb : QE X c W b tb fb) (hN : X.N[i]? = some x := by rfl) (hv : Vis X.env.scope x := by first | exact Or.inl rfl | exact Or.inr (Or.inl rfl) | exact Or.inr (Or.inr rfl)) (hd : (x == ("__debug__" : Str)) = false := by decide)
    (hcd : (x == ("__classdict__" : Str)) = false := by decide) (hK : X.K = c.K := by rfl) (hs : PlainIx b := by exact fun _ _ => rfl) : QE X c W (.Subscript (.Name x p) b pos) (tOp (rGetX c) (tVar i) tb) (mDgetN i fb) := by
  obtain ⟨k1, k2⟩ := hb
  exact ⟨pe_ix (ix_X hK hw (un10 hr)) (pe_var hN hv hd hcd) k1 hs, den_dgetN k2⟩
theorem t_inN (i : Nat) (hr : Room kk X.A) (hw : X.w = c.w) (ha : QE X c W a ta fa) (hN : X.N[i]? = some x := by rfl) (hv : Vis X.env.scope x := by first | exact Or.inl rfl | exact Or.inr (Or.inl rfl) | exact Or.inr (Or.inr rfl)) (hd : (x == ("__debug__" : Str)) = false := by decide)
    (hcd : (x == ("__classdict__" : Str)) = false := by decide) (hK : X.K = c.K := by rfl) (hm : behindInMarks .In (.Name x p) = false := by with_unfolding_all rfl) : QT X c W (.Compare a [.In] [.Name x p] pos) (tTest (tOp (rInX c false) ta (tVar i))) (mTest (mInN false fa i)) := by
  obtain ⟨h1, h2⟩ := ha
  exact ⟨pt_cmpR (op_inX hK hw (un10 hr)) h1 (pe_var hN hv hd hcd) hm, dt_test (den_inN h2)⟩
theorem t_ninN (i : Nat) (hr : Room kk X.A) (hw : X.w = c.w) (ha : QE X c W a ta fa) (hN : X.N[i]? = some x := by rfl) (hv : Vis X.env.scope x := by first | exact Or.inl rfl | exact Or.inr (Or.inl rfl) | exact Or.inr (Or.inr rfl)) (hd : (x == ("__debug__" : Str)) = false := by decide)
    (hcd : (x == ("__classdict__" : Str)) = false := by decide) (hK : X.K = c.K := by rfl) (hm : behindInMarks .NotIn (.Name x p) = false := by with_unfolding_all rfl) : QT X c W (.Compare a [.NotIn] [.Name x p] pos) (tTest (tOp (rInX c true) ta (tVar i))) (mTest (mInN true fa i)) := by
  obtain ⟨h1, h2⟩ := ha
  exact ⟨pt_cmpR (op_ninX hK hw (un10 hr)) h1 (pe_var hN hv hd hcd) hm, dt_test (den_inN h2)⟩
theorem g_itemD (i : Nat) (hr : Room kk X.A) (hw : X.w = c.w) (h : QE X c W e te fe) (hN : X.N[i]? = some x := by rfl) (hv : Vis X.env.scope x := by first | exact Or.inl rfl | exact Or.inr (Or.inl rfl) | exact Or.inr (Or.inr rfl)) (hd : (x == ("__debug__" : Str)) = false := by decide)
    (hcd : (x == ("__classdict__" : Str)) = false := by decide) (hK : X.K = c.K := by rfl)
    (ha : ∀ v, assign (.Subscript (.Name x p) e pos) X.env v = (do
      let ov ← holding [v] (eval (.Name x p) X.env)
      let iv ← holding [v, ov] (eval e X.env)
      standAt pos
      holding [v, ov, iv] (setItem ov iv v)
      release [v, ov, iv] []) := by intro _; rfl) : QG X c W (.Subscript (.Name x p) e pos) (gSub (tVar i) te (rSetX c)) (gmItemD i fe) [] := by
  obtain ⟨h1, h2⟩ := h
  exact ⟨pg_sub (pe_var hN hv hd hcd) h1 (set_X hK hw (un10 hr)) ha, dg_itemD h2⟩
theorem swD {es : List Comprehension} {py : Pos} {y : Str} {l : Nat} {env : Env} (hf : env.scope.kind = .function) (hy : env.scope.names.lookup y = some .local) (hl : (py.line == pos.line) = true)
    (ha : (scope.names.any fun (n, k) => n == y && (k == .local || k == .cell)) = false) : swapsWith (.DictComp kx vx es scope pos) (some (.Name y py)) l env = pure true := by
  have k1 : env.kindOf y = some .local := hy
  have k2 : env.blockKind = .function := by unfold Env.blockKind; rw [hf]; rfl
  unfold swapsWith
  simp only [k2, k1, ha, Expr.pos, hl]
  rfl
theorem psD {i : Nat} {y : Str} {py spos : Pos} (hc : X.calm = true) (hN : X.N.Nodup) (hy : X.N[i]? = some y) (hyl : X.env.scope.names.lookup y = some .local) (hsw : swapsWith (.DictComp kx vx [⟨tg, it, ifs, 0⟩] scope pos) (some (.Name y py)) spos.line X.env = pure true) (hi : PI X tg it wi) (ok : BlkOk X.N X.env.scope scope own)
    (hg : ∀ s H C cl fp, PG (Blk X scope s H C cl fp) tg tgt) (ht : ∀ s H C cl fp, PTs (Blk X scope s H C cl fp) ifs tt) (hk : ∀ s H C cl fp, PE (Blk X scope s H C cl fp) kx tk) (he : ∀ s H C cl fp, PE (Blk X scope s H C cl fp) vx tv) (hs : ∀ x, foldedSetIterable it X.env x = pure x) :
    PS X (.Assign [.Name y py] (.DictComp kx vx [⟨tg, it, ifs, 0⟩] scope pos) spos) (tAsg (tDc wi tgt tt tk tv (own.map (·.2))) (gName i)) := by
  refine ⟨fun pins s σ H D I h => ?_⟩
  rw [exec_Assign_Name_used _ _ _ _ hsw]
  refine wpAny_bind (wpAny_standAt (wpAny_bind ?_))
  show wpAny _ X.A (do let _ ← comprehension (.DictComp kx vx [⟨tg, it, ifs, 0⟩] scope pos) scope X.env (firstIterPos [⟨tg, it, ifs, 0⟩] pos) newDict false (eval it X.env) (some (assign (.Name y py) X.env))) _ _ s
  have h : tDc wi tgt tt tk tv (own.map (·.2)) σ H (fun x H1 => gName i x σ H1 D.nx) := h
  refine wpAny_bind (thn (dc_core (Qf := fun _ s' => SP X pins D .next s') hc hN I hi ok hg ht hk he hs h fun L C s' m H' I' q hn f => ?_) fun _ s' hq => wpAny_pure (wpAny_pure hq))
  show wpAny _ _ (assign (.Name y py) X.env (.ref L)) _ _ _
  refine wpAny_assign_Name (store_ok2 (v := V.ref L) I' hN hy (.inl hyl) rfl (fun s2 I2 ⟨a, sb, ha⟩ => ?_) (.inr hyl))
  obtain ⟨f0, f1, f2, f3, f4, f5⟩ := f
  have haC : C ≠ a := by
    rcases ha with z | z
    · rw [z]; exact f1
    · exact fun e => f4 y a z e.symm
  refine ⟨m, hn.sameBut sb haC, fun h3 sb3 => ?_⟩
  exact ⟨_, H', I2.turned (t' := s2.toks) (fun b o hb e => (sb3.2 b hb).trans e) f0 f1 f3 f4 f5, q⟩
end
end Fx
/-! sorted of a tuple or a list of pairs of ints -/
namespace PySem
open PySem.Spec PyProof.Rows SrtO
section
variable {prog : Program} {w : World} {A : Around} {E : Value → Shared → Prop} {s : Shared}
/-- the items of a tuple, collected -/
theorem collect_tupF {l : Addr} {vs : List Value} {Q : List Value → Shared → Prop} (hl : s.heap.IsTuple l vs.toArray)
    (h : Q vs { s with heap := (s.heap.push (seqObj "list" #[] 0)).update s.heap.objs.size (Obj.mapSeq (· ++ vs.toArray)) }) (hsz : vs.length ≤ sizeLine) : wpAny (model prog w) A (collect (.ref l)) Q E s := by
  obtain ⟨o, ho, hc, n, hd⟩ := id hl
  unfold collect
  refine wpAny_bind (wpAny_runValue (codeAny_builtin entry_proto_collect' ?_))
  show wpAny _ _ (do again (.builtin "list.__iadd__" ⟨[← newList [], .ref l], []⟩)) _ _ s
  refine wpAny_bind (wpAny_newList (wpAny_pure ⟨Code.quiet_builtin _ (by decide +kernel), codeAny_builtin entry_list_iadd' ?_⟩))
  show wpAny _ _ (Builtin.List.listExtendWith (.ref s.heap.objs.size) (.ref l) (.ref s.heap.objs.size)) _ _ { s with heap := s.heap.push (seqObj "list" #[] 0) }
  unfold Builtin.List.listExtendWith
  have ho' : (s.heap.push (seqObj "list" #[] 0)).get? l = some o := Heap.get?_push_of_some _ ho
  refine wpAny_bind (wpAny_typeOf (T := "tuple") ⟨o, ho', hc⟩ ?_)
  have ht : (Value.type "tuple" == Value.type "tuple") = true := by rfl
  rw [if_pos (by rw [ht]; simp)]
  refine wpAny_bind (listItems_at ho' hd ?_)
  refine wpAny_bind (listItems_at (xs := #[]) (n := 0) (Heap.get?_push_size _ rfl) rfl ?_)
  rw [if_neg (by simp)]
  refine wpAny_bind (listUpdate_at (xs := #[]) (n := 0) (Heap.get?_push_size _ rfl) rfl ?_ (Nat.zero_le _) (by show (#[] ++ vs.toArray).size ≤ sizeLine + 1; simp only [Array.size_append, List.size_toArray, List.length_nil]; omega))
  refine wpAny_pure ?_
  show wpAny (model prog w) A (do
      let o ← load s.heap.objs.size
      match o.data with
      | .seq xs _ => pure xs.toList
      | _ => unsupported "internal:collect") Q E { s with heap := (s.heap.push (seqObj "list" #[] 0)).update s.heap.objs.size (Obj.mapSeq (· ++ vs.toArray)) }
  refine wpAny_bind (wpAny_load (get?_update_seq (Heap.get?_push_size _ rfl) _) ?_)
  show wpAny _ _ (pure ((#[] : Array Value) ++ vs.toArray).toList) Q E _
  rw [show ((#[] : Array Value) ++ vs.toArray).toList = vs by simp]
  exact wpAny_pure h
theorem sorted_ordT {l : Addr} {vs : List Value} {ltv : Value → Value → Bool} {Q : Value → Shared → Prop} (O : Swo ltv) (hl : s.heap.IsTuple l vs.toArray) (hz : vs.length ≤ sizeLine)
    (hS : 2 ≤ vs.length → ∀ (h₁ : Heap) (a : Addr), h₁.get? a = some (seqObj "list" vs.toArray 0) → (∀ b o, s.heap.get? b = some o → b ≠ a ∧ h₁.get? b = some o) → SortableO prog w A.in1.in1 { s with heap := h₁ } a vs ltv)
    (h : ∀ out : List Value, Srtd ltv out → Stb ltv out vs → Q (.ref (s.heap.objs.size + 1)) { s with heap := sortedAll s.heap vs out.toArray }) :
    wpAny (model prog w) A (call (.builtin "sorted") [.ref l]) Q E s := by
  refine Calls.call_function_entry kind_sorted plain_sorted entry_sorted (args_sorted1 _) ?_
  unfold Builtin.«sorted»
  refine wpAny_bind (m := checkCount "sorted" 1 1 _) (wpAny_pure ?_)
  refine wpAny_bind (collect_tupF hl ?_ hz)
  refine wpAny_bind (wpAny_newList ?_ hz)
  have hsz : ((s.heap.push (seqObj "list" #[] 0)).update s.heap.objs.size (Obj.mapSeq (· ++ vs.toArray))).objs.size = s.heap.objs.size + 1 := by
    rw [Heap.size_update, size_push']
  have hoL : (((s.heap.push (seqObj "list" #[] 0)).update s.heap.objs.size (Obj.mapSeq (· ++ vs.toArray))).push (seqObj "list" vs.toArray 0)).get? (s.heap.objs.size + 1) = some (seqObj "list" vs.toArray 0) := by
    rw [← hsz]; exact Heap.get?_push_size _ rfl
  have keep : ∀ b o, s.heap.get? b = some o → b ≠ s.heap.objs.size + 1 ∧ (((s.heap.push (seqObj "list" #[] 0)).update s.heap.objs.size (Obj.mapSeq (· ++ vs.toArray))).push (seqObj "list" vs.toArray 0)).get? b = some o := fun b o q => by
    have hlt : b < s.heap.objs.size := Heap.lt_size q
    refine ⟨Nat.ne_of_lt (Nat.lt_succ_of_lt hlt), Heap.get?_push_of_some _ ?_⟩
    rw [Heap.get?_update_ne _ _ _ _ (Nat.ne_of_lt hlt)]
    exact Heap.get?_push_of_some _ q
  show wpAny _ _ _ _ _ { s with heap := ((s.heap.push (seqObj "list" #[] 0)).update s.heap.objs.size (Obj.mapSeq (· ++ vs.toArray))).push (seqObj "list" vs.toArray 0) }
  rw [hsz]
  refine wpAny_bind (wpAny_holding (wpAny_call_entry slot_list_sort ⟨_, hoL, rfl⟩ entry_list_sort (list_sort_ord O hoL hz (fun h2 => hS h2 _ _ hoL keep) fun out hs hb => ⟨_, rfl, ?_⟩) (args_list_sort _)))
  exact wpAny_pure ⟨_, rfl, h out hs hb⟩
end
end PySem
/-! sorted of a tuple or a list of tuples of ints, none empty, of any lengths -/
namespace PySem
open PySem.Spec PyProof.Rows SrtO
/-- one before another, as tuples of ints are -/
def lexI : List Int → List Int → Bool
  | [], [] => false
  | [], _ :: _ => true
  | _ :: _, [] => false
  | x :: xs, y :: ys => if x = y then lexI xs ys else decide (x < y)
theorem lexI_asym : ∀ {xs ys : List Int}, lexI xs ys = true → lexI ys xs = false
  | [], [], h => by simp [lexI] at h
  | [], _ :: _, _ => rfl
  | _ :: _, [], h => by simp [lexI] at h
  | x :: xs, y :: ys, h => by
    unfold lexI at h ⊢
    by_cases e : x = y
    · rw [if_pos e] at h
      rw [if_pos e.symm]
      exact lexI_asym h
    · rw [if_neg e, decide_eq_true_eq] at h
      rw [if_neg (Ne.symm e), decide_eq_false_iff_not]
      omega
theorem lexI_anti : ∀ {xs ys : List Int}, lexI xs ys = false → lexI ys xs = false → xs = ys
  | [], [], _, _ => rfl
  | [], _ :: _, h, _ => by simp [lexI] at h
  | _ :: _, [], _, h => by simp [lexI] at h
  | x :: xs, y :: ys, h, k => by
    unfold lexI at h k
    by_cases e : x = y
    · rw [if_pos e] at h
      rw [if_pos e.symm] at k
      rw [e, lexI_anti h k]
    · rw [if_neg e, decide_eq_false_iff_not] at h
      rw [if_neg (Ne.symm e), decide_eq_false_iff_not] at k
      omega
/-- not behind, and not behind: not behind -/
theorem lexI_tr : ∀ {xs ys zs : List Int}, lexI ys xs = false → lexI zs ys = false → lexI zs xs = false
  | [], _, [], _, _ => rfl
  | [], _, _ :: _, _, _ => rfl
  | _ :: _, [], [], h, _ => by simp [lexI] at h
  | _ :: _, _ :: _, [], _, h => by simp [lexI] at h
  | _ :: _, [], _ :: _, h, _ => by simp [lexI] at h
  | x :: xs, y :: ys, z :: zs, h, k => by
    unfold lexI at h k ⊢
    by_cases e1 : y = x
    · rw [if_pos e1] at h
      by_cases e2 : z = y
      · rw [if_pos e2] at k
        rw [if_pos (e2.trans e1)]
        exact lexI_tr h k
      · rw [if_neg e2, decide_eq_false_iff_not] at k
        rw [if_neg (by omega), decide_eq_false_iff_not]
        omega
    · rw [if_neg e1, decide_eq_false_iff_not] at h
      by_cases e2 : z = y
      · rw [if_neg (by omega), decide_eq_false_iff_not]
        omega
      · rw [if_neg e2, decide_eq_false_iff_not] at k
        rw [if_neg (by omega), decide_eq_false_iff_not]
        omega
theorem swo_lexI {α : Type} (k : α → List Int) : Swo fun v u => lexI (k v) (k u) := ⟨fun _ _ h => lexI_asym h, fun _ _ _ h1 h2 => lexI_tr h1 h2⟩
section
variable {prog : Program} {w : World} {A : Around} {E : Value → Shared → Prop} {s : Shared}
theorem kat_lex {b : Bool} {Q : Bool → Shared → Prop} : ∀ {xs ys : List Value} {ns ms : List Int} (i : Nat), IntsAre xs ns → IntsAre ys ms → Q (lexI ns ms) s → PySem.W.KatLex prog w A b (decide (ns.length < ms.length)) Q (xs.zip ys) i s
  | _, _, _, _, i, .nil, .nil, h => PySem.W.kat_nil (by simpa [lexI] using h)
  | _, _, _, _, i, .nil, .cons q u hy, h => PySem.W.kat_nil (by simpa [lexI] using h)
  | _, _, _, _, i, .cons p t hx, .nil, h => PySem.W.kat_nil (by simpa [lexI] using h)
  | _, _, p :: ns, q :: ms, i, @IntsAre.cons _ t xs _ hx, @IntsAre.cons _ u ys _ hy, h => by
    show PySem.W.KatLex prog w A b _ Q ((Value.int p t, Value.int q u) :: xs.zip ys) i s
    refine PySem.W.kat_cons (wpAny_eqBool_int ?_)
    unfold lexI at h
    by_cases e : p = q
    · subst e
      rw [beq_self_eq_true]
      rw [if_pos rfl] at h
      have d : decide ((p :: ns).length < (p :: ms).length) = decide (ns.length < ms.length) := by simp
      rw [d]
      exact PySem.W.kat_yes (kat_lex (i + 1) hx hy h)
    · rw [show (p == q) = false from beq_eq_false_iff_ne.mpr e]
      rw [if_neg e] at h
      exact PySem.W.kat_no (TS.oneLt_ints _ h)
/-- a tuple of ints, not empty -/
def NeT (h : Heap) (v : Value) (ns : List Int) : Prop := TS.TupInts h v ns ∧ ns ≠ []
theorem NeT.keeps {h h' : Heap} {v : Value} {ns : List Int} (x : NeT h v ns) (k : ∀ b o, h.get? b = some o → o.cls = .type "tuple" → h'.get? b = some o) : NeT h' v ns := ⟨x.1.keeps k, x.2⟩
theorem firstsT {h : Heap} : ∀ vs : List Value, (∀ v ∈ vs, ∃ ns, NeT h v ns) → ∃ fs, PySem.W.KatTups h vs fs ∧ fs.length = vs.length ∧ ∀ f ∈ fs, ∃ n t, f = Value.int n t
  | [], _ => ⟨[], PySem.W.KatTups.nil, rfl, fun f hf => by simp at hf⟩
  | v :: vs, x => by
    obtain ⟨fs, k, hl, hi⟩ := firstsT vs fun u hu => x u (List.mem_cons_of_mem _ hu)
    obtain ⟨ns, ⟨a, xs, rfl, ⟨o, ho, hc, n, hdt⟩, i⟩, hn⟩ := x v (List.mem_cons_self ..)
    obtain ⟨y, ys, e⟩ : ∃ y ys, xs.toList = y :: ys := by
      cases q : xs.toList with
      | nil =>
        rw [q] at i
        cases i
        exact absurd rfl hn
      | cons y ys => exact ⟨y, ys, rfl⟩
    obtain ⟨m, t, hy⟩ := i.all y (by rw [e]; exact List.mem_cons_self ..)
    refine ⟨y :: fs, PySem.W.KatTups.cons ho hc hdt ?_ k, by simp [hl], ?_⟩
    · have z := congrArg (fun l : List Value => l[0]?) e
      simpa using z
    · intro f hf
      rcases List.mem_cons.mp hf with rfl | hf
      · exact ⟨m, t, hy⟩
      · exact hi f hf
theorem tups_cmp {vs : List Value} {k : Value → List Int} (hp : ∀ v ∈ vs, NeT s.heap v (k v)) : Cmp prog w A s (tuples' true) (fun p => p.1 ∈ vs) (lt2 fun v u => lexI (k v) (k u)) := by
  intro p q hm hm'
  obtain ⟨⟨a, xs, e, ⟨o, ho, hc, n, hd⟩, i⟩, _⟩ := hp _ hm
  obtain ⟨⟨a', ys, e', ⟨o', ho', hc', n', hd'⟩, i'⟩, _⟩ := hp _ hm'
  show wpAny (model prog w) A (keyLt' (tuples' true) p.1 q.1) (fun r s' => s' = s ∧ r = lexI (k p.1) (k q.1)) (fun _ _ => False) s
  generalize k p.1 = ns at i ⊢
  generalize k q.1 = ms at i' ⊢
  rw [e, e']
  refine PySem.W.kat_lt ho hd ho' hd' ?_
  have l1 : xs.size = ns.length := by rw [← i.length, Array.length_toList]
  have l2 : ys.size = ms.length := by rw [← i'.length, Array.length_toList]
  rw [l1, l2]
  exact kat_lex 0 i i' ⟨rfl, rfl⟩
theorem tups_sortable {a : Addr} {vs : List Value} {k : Value → List Int} (h0 : 0 < vs.length) (hp : ∀ v ∈ vs, NeT s.heap v (k v)) (ha : ∀ o, s.heap.get? a = some o → o.cls ≠ .type "tuple") : SortableO prog w A s a vs fun v u => lexI (k v) (k u) := by
  intro h' keep
  have hp' : ∀ v ∈ vs, NeT h' v (k v) := fun v hm => (hp v hm).keeps fun b o e c => keep b o (fun z => by subst z; exact ha o e c) e
  obtain ⟨fs, h1, h2, h3⟩ := firstsT vs fun v hm => ⟨_, hp' v hm⟩
  refine ⟨tuples' true, fun Q E hq => ?_, tups_cmp hp'⟩
  refine PySem.W.kat_kind (T := .type "int") h1 (by omega) (fun f hm => ?_) (by rfl) ?_
  · obtain ⟨x, t, rfl⟩ := h3 f hm
    exact PySem.W.Looks.now
  · have e : (Value.type "int" != Value.type "tuple") = true := by first | decide +kernel | rfl | decide
    rw [e]
    exact hq
theorem sorted_tupsA {l : Addr} {vs : List Value} {k : Value → List Int} {Q : Value → Shared → Prop} (hl : s.heap.IsList l vs.toArray ∨ s.heap.IsTuple l vs.toArray) (hz : vs.length ≤ sizeLine) (hp : ∀ v ∈ vs, NeT s.heap v (k v))
    (h : ∀ (h' : Heap) (d : Addr) (out : List Value), Srtd (fun v u => lexI (k v) (k u)) out → Stb (fun v u => lexI (k v) (k u)) out vs → (∀ b o, s.heap.get? b = some o → h'.get? b = some o) → s.heap.objs.size ≤ d → (∃ n, h'.get? d = some (seqObj "list" out.toArray n)) → Q (.ref d) { s with heap := h' }) :
    wpAny (model prog w) A (call (.builtin "sorted") [.ref l]) Q E s := by
  have hS : 2 ≤ vs.length → ∀ (h₁ : Heap) (a : Addr), h₁.get? a = some (seqObj "list" vs.toArray 0) → (∀ b o, s.heap.get? b = some o → b ≠ a ∧ h₁.get? b = some o) → SortableO prog w A.in1.in1 { s with heap := h₁ } a vs fun v u => lexI (k v) (k u) := fun h2 h₁ a ha kk => by
    refine tups_sortable (s := { s with heap := h₁ }) (by omega) (fun v hm => (hp v hm).keeps fun b o e _ => (kk b o e).2) fun o e => ?_
    have e' : some o = some (seqObj "list" vs.toArray 0) := e.symm.trans ha
    cases e'
    intro c
    exact absurd (Value.type.inj c) (by decide)
  have fin : ∀ out : List Value, Srtd (fun v u => lexI (k v) (k u)) out → Stb (fun v u => lexI (k v) (k u)) out vs → Q (.ref (s.heap.objs.size + 1)) { s with heap := sortedAll s.heap vs out.toArray } := fun out hs hb => h _ _ out hs hb (fun b o e => sortedAll_old e) (Nat.le_succ _) (sortedAll_at s.heap vs out.toArray)
  rcases hl with hl | hl
  · exact sorted_ord (swo_lexI k) hl hz hS fin
  · exact sorted_ordT (swo_lexI k) hl hz hS fin
end
end PySem
namespace Fx
open PySem PySem.Spec PyProof.Rows L2
abbrev ltL (k : V → List Int) (x y : V) : Bool := lexI (k x) (k y)
section
variable {X : Cx}
/-- sorted(xs), xs a list or a tuple of tuples of ints, none empty: a new list; what a tuple holds is one -/
def rSortedL (K : PySem.W.Frag) : List V → Hp → VK → Prop := fun vs H Q => ∃ (a : Addr) (xs : List V) (k : V → List Int), vs = [V.ref a] ∧ (SqL K H a xs ∨ SqT K H a xs) ∧ (∀ x ∈ xs, k x ≠ [] ∧ ∃ t, x = V.ref t ∧ SqT K H t ((k x).map V.int)) ∧
  ∀ ys p, SrtO.Srtd (ltL k) ys → ys.Perm xs → (∀ t us us', SqT K H t us → SqT K H t us' → us = us') → H p = none → Q (.ref p) (upd H p (.lst ys))
theorem cr_sortedL : CallR X (.builtin "sorted") (rSortedL X.K) := by
  intro pins s σ H vs us Q I r h
  obtain ⟨a, xs, k, rfl, hs, hx, q⟩ := h
  have inj : ∀ t us us', SqT X.K H t us → SqT X.K H t us' → us = us' := fun t us us' h1 h2 => I.tuple_inj h1 h2
  obtain ⟨u, rfl, ru⟩ := vals1 r
  obtain rfl : u = Value.ref a := ru
  obtain ⟨its, rv, hl, hz⟩ : ∃ its : List Value, Vals xs its ∧ (s.heap.IsList a its.toArray ∨ s.heap.IsTuple a its.toArray) ∧ xs.length ≤ sizeLine := by
    rcases hs with hs | hs
    · obtain ⟨its, rv, hl, hz⟩ := I.list hs
      exact ⟨its, rv, .inl hl.isList, hz⟩
    · obtain ⟨its, rv, hl, hz⟩ := I.tuple hs
      exact ⟨its, rv, .inr hl, hz⟩
  obtain ⟨e1, e2⟩ := refs_back rv fun x m => by
    obtain ⟨_, t, e, _⟩ := hx x m
    exact ⟨t, e⟩
  refine PySem.sorted_tupsA (k := fun u => k (backV u)) hl (by rw [← rv.length]; exact hz) (fun v hv => ?_) fun h' d out h1 h2 kp hd hn => ?_
  · obtain ⟨t, rfl⟩ := e2 v hv
    have hm : V.ref t ∈ xs := by rw [e1]; exact List.mem_map.mpr ⟨_, hv, rfl⟩
    obtain ⟨hne, t', e, ht⟩ := hx _ hm
    cases e
    obtain ⟨its2, r2, hT, _⟩ := I.tuple ht
    exact ⟨⟨t, its2.toArray, rfl, hT, ints_of_vals r2⟩, hne⟩
  · have h3 : ∀ u ∈ out, ∃ a, u = Value.ref a := fun u hu => e2 u (h2.perm.mem_iff.mp hu)
    obtain ⟨n, hn⟩ := hn
    have hb : (out.map backV).Perm xs := by
      rw [e1]
      exact h2.perm.map backV
    refine ⟨.ref d, upd H d (.lst (out.map backV)), I.laid (t' := s.toks) kp hd ⟨?_, out, n, vals_back h3, hn⟩, rfl, q _ d (SrtO.srtd_map h1) hb inj (I.hok.fresh hd)⟩
    rw [hb.length_eq]
    exact hz
end
/-! ### on data -/
def tpD (ns : List Int) : D := .tup (ns.map D.int)
def tpOf : D → Option (List Int)
  | .tup ds => match intsD ds with
    | some [] => none
    | some (n :: ns) => some (n :: ns)
    | none => none
  | _ => none
def tpsOf : List D → Option (List (List Int))
  | [] => some []
  | d :: ds => match tpOf d, tpsOf ds with
    | some p, some ps => some (p :: ps)
    | _, _ => none
theorem intsD_back : ∀ {ds : List D} {ns : List Int}, intsD ds = some ns → ds = ns.map D.int := by
  intro ds
  induction ds with
  | nil =>
    intro ns h
    cases h
    rfl
  | cons d ds ih =>
    intro ns h
    cases d <;> first | (simp [intsD] at h; done) | skip
    rename_i i
    cases e : intsD ds with
    | none => simp [intsD, e] at h
    | some ms =>
      simp [intsD, e] at h
      subst h
      rw [ih e]
      rfl
theorem tpOf_eq {d : D} {p : List Int} (h : tpOf d = some p) : d = tpD p ∧ p ≠ [] := by
  unfold tpOf at h
  split at h
  · split at h
    · cases h
    · rename_i ds n ns e
      cases h
      exact ⟨by rw [intsD_back e]; rfl, by simp⟩
    · cases h
  · cases h
theorem tpsOf_eq : ∀ {ds : List D} {ps : List (List Int)}, tpsOf ds = some ps → ds = ps.map tpD ∧ ∀ p ∈ ps, p ≠ []
  | [], ps, h => by
    cases h
    exact ⟨rfl, fun p hp => by simp at hp⟩
  | d :: ds, ps, h => by
    unfold tpsOf at h
    split at h
    · rename_i p qs e1 e2
      cases h
      obtain ⟨a1, a2⟩ := tpOf_eq e1
      obtain ⟨b1, b2⟩ := tpsOf_eq e2
      refine ⟨by rw [a1, b1]; rfl, fun x hx => ?_⟩
      rcases List.mem_cons.mp hx with rfl | hx
      · exact a2
      · exact b2 x hx
    · cases h
theorem tpsOf_map : ∀ {ps : List (List Int)}, (∀ p ∈ ps, p ≠ []) → tpsOf (ps.map tpD) = some ps
  | [], _ => rfl
  | p :: ps, h => by
    have e : tpOf (tpD p) = some p := by
      cases p with
      | nil => exact absurd rfl (h [] List.mem_cons_self)
      | cons n ns =>
        show (match intsD ((n :: ns).map D.int) with
          | some [] => none
          | some (n :: ns) => some (n :: ns)
          | none => none) = _
        rw [intsD_map]
    show (match tpOf (tpD p), tpsOf (ps.map tpD) with
      | some p, some ps => some (p :: ps)
      | _, _ => none) = _
    rw [e, tpsOf_map fun q hq => h q (List.mem_cons_of_mem _ hq)]
/-- not behind -/
def leL (p q : List Int) : Prop := lexI q p = false
instance (p q : List Int) : Decidable (leL p q) := by unfold leL; infer_instance
def insL (p : List Int) : List (List Int) → List (List Int)
  | [] => [p]
  | q :: qs => if leL p q then p :: q :: qs else q :: insL p qs
def isortL : List (List Int) → List (List Int)
  | [] => []
  | p :: ps => insL p (isortL ps)
theorem insL_perm (p : List Int) : ∀ qs : List (List Int), (insL p qs).Perm (p :: qs)
  | [] => .refl _
  | q :: qs => by
    unfold insL
    split
    · exact .refl _
    · exact ((insL_perm p qs).cons q).trans (.swap p q qs)
theorem isortL_perm : ∀ ps : List (List Int), (isortL ps).Perm ps
  | [] => .refl _
  | p :: ps => (insL_perm p _).trans ((isortL_perm ps).cons p)
theorem insL_pw (p : List Int) : ∀ {qs : List (List Int)}, qs.Pairwise leL → (insL p qs).Pairwise leL
  | [], _ => by simp [insL]
  | q :: qs, h => by
    unfold insL
    split
    · rename_i hpq
      refine List.pairwise_cons.mpr ⟨fun r hr => ?_, h⟩
      rcases List.mem_cons.mp hr with rfl | hr
      · exact hpq
      · exact lexI_tr hpq ((List.pairwise_cons.mp h).1 r hr)
    · rename_i hpq
      refine List.pairwise_cons.mpr ⟨fun r hr => ?_, insL_pw p (List.pairwise_cons.mp h).2⟩
      rcases List.mem_cons.mp ((insL_perm p qs).mem_iff.mp hr) with rfl | hr
      · have : lexI q r = true := by
          unfold leL at hpq
          simpa using hpq
        exact lexI_asym this
      · exact (List.pairwise_cons.mp h).1 r hr
theorem isortL_pw : ∀ ps : List (List Int), (isortL ps).Pairwise leL
  | [] => .nil
  | p :: ps => insL_pw p (isortL_pw ps)
theorem isortL_eq {ps qs : List (List Int)} (h : qs.Perm ps) (k : qs.Pairwise leL) : qs = isortL ps :=
  List.Perm.eq_of_pairwise (fun a b _ _ h1 h2 => lexI_anti h2 h1) k (isortL_pw ps) (h.trans (isortL_perm ps).symm)
def gSortA : List D → Option S
  | [.lst ds] => match intsD ds with
    | some ns => some (.o none (.lst ((isort ns).map D.int)))
    | none => (tpsOf ds).map fun ps => .o none (.lst ((isortL ps).map tpD))
  | [.tup ds] => (tpsOf ds).map fun ps => .o none (.lst ((isortL ps).map tpD))
  | _ => none
section
variable {c : Cfg} {G H : Hp}
noncomputable def lOf (K : PySem.W.Frag) (H : Hp) (x : V) : List Int := open Classical in if h : ∃ p : List Int, p ≠ [] ∧ ∃ t, x = V.ref t ∧ SqT K H t (p.map V.int) then h.choose else []
theorem tup_at {x : V} {p : List Int} (s : ∀ a o, G a = some o → H a = some o) (h : Rp c G x (tpD p)) : ∃ t, x = V.ref t ∧ SqT c.K H t (p.map V.int) := by
  obtain ⟨t, us, rfl, ht, k⟩ := h.tupE
  refine ⟨t, rfl, ?_⟩
  have := RpAll.ints (intsD_map p) k
  rw [this] at ht
  exact SqT.up s ht
theorem lOf_at {x : V} (h : ∃ p : List Int, p ≠ [] ∧ ∃ t, x = V.ref t ∧ SqT c.K H t (p.map V.int)) : lOf c.K H x ≠ [] ∧ ∃ t, x = V.ref t ∧ SqT c.K H t ((lOf c.K H x).map V.int) := by
  unfold lOf
  rw [dif_pos h]
  exact h.choose_spec
theorem ints_inj : ∀ {p q : List Int}, p.map V.int = q.map V.int → p = q
  | [], [], _ => rfl
  | [], _ :: _, h => by simp at h
  | _ :: _, [], h => by simp at h
  | a :: p, b :: q, h => by
    simp only [List.map_cons, List.cons.injEq, V.int.injEq] at h
    rw [h.1, ints_inj h.2]
theorem lOf_eq {x : V} {p : List Int} (inj : ∀ t us us', SqT c.K H t us → SqT c.K H t us' → us = us') (hp : p ≠ []) (h : ∃ t, x = V.ref t ∧ SqT c.K H t (p.map V.int)) : lOf c.K H x = p := by
  obtain ⟨_, t, e, ht⟩ := lOf_at (c := c) ⟨p, hp, h⟩
  obtain ⟨t', e', ht'⟩ := h
  rw [e] at e'
  cases e'
  exact ints_inj (inj _ _ _ ht ht')
theorem lkeys_of (inj : ∀ t us us', SqT c.K H t us → SqT c.K H t us' → us = us') (s : ∀ a o, G a = some o → H a = some o) : ∀ {xs : List V} {ps : List (List Int)}, (∀ p ∈ ps, p ≠ []) → RpAll c G xs (ps.map tpD) → xs.map (lOf c.K H) = ps
  | [], [], _, _ => rfl
  | x :: xs, p :: ps, hn, h => by
    cases h with
    | cons h k => rw [List.map_cons, lOf_eq inj (hn p List.mem_cons_self) (tup_at s h), lkeys_of inj s (fun q hq => hn q (List.mem_cons_of_mem _ hq)) k]
  | [], p :: ps, _, h => by cases h
  | x :: xs, [], _, h => by cases h
theorem sortedL_run {Q : VK} {B : Base} {ts : En} {vs : List (Option V)} {ρ : En} {σ : L2.St} {xs : List V} {ps : List (List Int)} (hne : ∀ p ∈ ps, p ≠ []) (O : Opn c B ts vs ρ σ H G) (ka : RpAll c G xs (ps.map tpD))
    (q : ∀ v H', Rep c B (some (.o none (.lst ((isortL ps).map tpD))) :: ts) (some v :: vs) ρ σ H' → Q v H') : (∀ x ∈ xs, lOf c.K H x ≠ [] ∧ ∃ t, x = V.ref t ∧ SqT c.K H t ((lOf c.K H x).map V.int)) ∧
    ∀ ys p, SrtO.Srtd (ltL (lOf c.K H)) ys → ys.Perm xs → (∀ t us us', SqT c.K H t us → SqT c.K H t us' → us = us') → H p = none → Q (.ref p) (upd H p (.lst ys)) := by
  have each : ∀ x ∈ xs, ∃ p ∈ ps, Rp c G x (tpD p) := fun x hx => by
    obtain ⟨i, hi⟩ := List.getElem?_of_mem hx
    obtain ⟨d, e1, e2⟩ := ka.getV hi
    rw [List.getElem?_map] at e1
    obtain ⟨p, hp, rfl⟩ := Option.map_eq_some_iff.mp e1
    exact ⟨p, List.mem_of_getElem? hp, e2⟩
  refine ⟨fun x hx => ?_, fun ys p hs hp inj hn => ?_⟩
  · obtain ⟨p, hp, h⟩ := each x hx
    exact lOf_at ⟨p, hne p hp, tup_at O.sub h⟩
  · have e := lkeys_of inj O.sub hne ka
    have ey : ys.map (lOf c.K H) = isortL ps := by
      refine isortL_eq (by rw [← e]; exact hp.map _) ?_
      rw [List.pairwise_map]
      exact List.Pairwise.imp (fun {x y} h => h) hs
    refine q _ _ (O.newO hn fun H' e' => ⟨_, e', ?_⟩)
    rw [← ey]
    have go : ∀ zs : List V, (∀ z ∈ zs, z ∈ xs) → RpAll c G zs ((zs.map (lOf c.K H)).map tpD) := by
      intro zs
      induction zs with
      | nil => exact fun _ => .nil
      | cons z zs ih =>
        intro hz
        obtain ⟨p, hp, h⟩ := each z (hz z List.mem_cons_self)
        refine .cons ?_ (ih fun w hw => hz w (List.mem_cons_of_mem _ hw))
        rw [lOf_eq inj (hne p hp) (tup_at O.sub h)]
        exact h
    exact go ys fun z hz => hp.mem_iff.mp hz
theorem cd_sortA : CbDen c (fun vs H Q => rSortedI c.K vs H Q ∨ rSortedL c.K vs H Q) gSortA := by
  intro B ts vs ρ σ H Q ds us s hl r e q
  match ds, hl, r, e with
  | [.lst ds], hl, r, e =>
    obtain ⟨v, rfl, G, O, h⟩ := r.one' hl
    obtain ⟨a, xs, rfl, ha, ka⟩ := h.lstE
    have e : (match intsD ds with
      | some ns => some (S.o none (.lst ((isort ns).map D.int)))
      | none => (tpsOf ds).map fun ps => S.o none (.lst ((isortL ps).map tpD))) = some s := e
    cases e2 : intsD ds with
    | some ns =>
      rw [e2] at e
      cases e
      rw [RpAll.ints e2 ka] at ha
      refine .inl ⟨a, ns, rfl, SqL.of (O.sub _ _ ha), fun ns' p pm pw hp => ?_⟩
      rw [isort_eq pm pw]
      exact q _ _ (O.newO hp fun H' e => ⟨_, e, RpAll.ofInts _⟩)
    | none =>
      rw [e2] at e
      have e : (tpsOf ds).map (fun ps => S.o none (.lst ((isortL ps).map tpD))) = some s := e
      cases e3 : tpsOf ds with
      | none => rw [e3] at e; cases e
      | some ps =>
        rw [e3] at e
        cases e
        obtain ⟨e4, hne⟩ := tpsOf_eq e3
        rw [e4] at ka
        obtain ⟨k1, k2⟩ := sortedL_run hne O ka q
        exact .inr ⟨a, xs, _, rfl, .inl (SqL.of (O.sub _ _ ha)), k1, k2⟩
  | [.tup ds], hl, r, e =>
    obtain ⟨v, rfl, G, O, h⟩ := r.one' hl
    obtain ⟨a, xs, rfl, ha, ka⟩ := h.tupE
    have e : (tpsOf ds).map (fun ps => S.o none (.lst ((isortL ps).map tpD))) = some s := e
    cases e3 : tpsOf ds with
    | none => rw [e3] at e; cases e
    | some ps =>
      rw [e3] at e
      cases e
      obtain ⟨e4, hne⟩ := tpsOf_eq e3
      rw [e4] at ka
      obtain ⟨k1, k2⟩ := sortedL_run hne O ka q
      exact .inr ⟨a, xs, _, rfl, .inr (SqT.up O.sub ha), k1, k2⟩
end
section
variable {X : Cx} {c : Cfg}
theorem b_sortA (hK : X.K = c.K := by rfl) : QB X c "sorted" (fun vs H Q => rSortedI c.K vs H Q ∨ rSortedL c.K vs H Q) gSortA := by
  refine ⟨.inl ⟨"sorted", ?_, by decide +kernel⟩, cd_sortA⟩
  intro pins s σ H vs us Q I r h
  rcases h with h | h
  · exact cr_sortedI pins s σ H vs us Q I r (hK ▸ h)
  · exact cr_sortedL pins s σ H vs us Q I r (hK ▸ h)
end
end Fx
/-! a dict whose values are lists that change: d = {k: [..] for ..}, d[k].append(x), d[k].pop(), frozen when it is read -/
namespace Fx
open PySem PySem.Spec PyProof.Rows L2
open C8 (Cal Mak pe_c pe_mk)
theorem valV_ix : ∀ {kvs : List (Key × V)} {k : Key} {i : Nat} {p : Key × V}, keyAt (kvs.map fun p => keyD p.1) (keyD k) = some i → kvs[i]? = some p → valV kvs k = some p.2
  | [], _, _, _, e, _ => by simp [keyAt] at e
  | q :: r, k, i, p, e, ep => by
    unfold keyAt at e
    rw [List.map_cons, List.findIdx?_cons] at e
    by_cases hk : keyEq (keyD k) (keyD q.1) = true
    · rw [hk] at e
      simp at e
      subst e
      rw [keyEq_keyD, decide_eq_true_eq] at hk
      simp at ep
      subst ep
      unfold valV
      rw [List.find?_cons]
      simp [hk]
    · have hk' : keyEq (keyD k) (keyD q.1) = false := by simpa using hk
      rw [hk'] at e
      simp at e
      obtain ⟨j, ej, rfl⟩ := e
      have hne : q.1 ≠ k := fun z => by
        rw [z, keyEq_keyD] at hk
        simp at hk
      have := valV_ix (k := k) (i := j) (kvs := r) (p := p) (by unfold keyAt; rw [List.findIdx?_map]; exact ej) (by simpa using ep)
      unfold valV at this ⊢
      rw [List.find?_cons]
      simp only [hne, decide_false]
      exact this
section
variable {c : Cfg} {B : Base} {G G' H H' : Hp} {own own' : Owns} {ts : En} {vs : List (Option V)} {ρ : En} {σ : L2.St}
theorem LsAll.get : ∀ {bs : List Addr} {dss : List (List D)} {n : Nat} {ds : List D}, LsAll c G H bs dss → dss[n]? = some ds → ∃ b us, bs[n]? = some b ∧ H b = some (.lst us) ∧ RpAll c G us ds
  | _, _, _, _, .nil, e => by simp at e
  | _, _, 0, _, .cons h k _, e => by simp at e; subst e; exact ⟨_, _, rfl, h, k⟩
  | _, _, n + 1, _, .cons _ _ l, e => by
    obtain ⟨b, us, e1, e2⟩ := LsAll.get (n := n) l (by simpa using e)
    exact ⟨b, us, by simpa using e1, e2⟩
theorem LsAll.put {b : Addr} {us : List V} {es : List D} (hb : H' b = some (.lst us)) (k : RpAll c G us es) (hh : ∀ q, q ≠ b → H' q = H q) : ∀ {bs : List Addr} {dss : List (List D)} {n : Nat}, LsAll c G H bs dss → bs[n]? = some b → bs.Nodup → LsAll c G H' bs (dss.set n es)
  | _, _, _, .nil, e, _ => by simp at e
  | b0 :: bs, ds0 :: dss, 0, .cons _ _ l, e, nd => by
    simp at e
    subst e
    rw [List.nodup_cons] at nd
    exact .cons hb k (l.mono (fun _ _ e => e) fun p hp => hh p fun z => nd.1 (z ▸ hp))
  | b0 :: bs, ds0 :: dss, n + 1, .cons h0 k0 l, e, nd => by
    rw [List.nodup_cons] at nd
    have e : bs[n]? = some b := by simpa using e
    have ne : b0 ≠ b := fun z => nd.1 (z ▸ List.mem_of_getElem? e)
    exact .cons ((hh _ ne).trans h0) k0 (LsAll.put hb k hh l e nd.2)
theorem LsAll.length : ∀ {bs : List Addr} {dss : List (List D)}, LsAll c G H bs dss → bs.length = dss.length
  | _, _, .nil => rfl
  | _, _, .cons _ _ l => by rw [List.length_cons, List.length_cons, LsAll.length l]
theorem LsAll.snoc {b : Addr} {us : List V} {ds : List D} (hb : H b = some (.lst us)) (k : RpAll c G us ds) : ∀ {bs : List Addr} {dss : List (List D)}, LsAll c G H bs dss → LsAll c G H (bs ++ [b]) (dss ++ [ds])
  | _, _, .nil => .cons hb k .nil
  | _, _, .cons h0 k0 l => .cons h0 k0 (LsAll.snoc hb k l)
theorem map_ref_inj : ∀ {xs ys : List Addr}, xs.map V.ref = ys.map V.ref → xs = ys
  | [], [], _ => rfl
  | [], _ :: _, e => by simp at e
  | _ :: _, [], e => by simp at e
  | x :: xs, y :: ys, e => by
    rw [List.map_cons, List.map_cons, List.cons.injEq] at e
    obtain ⟨e1, e2⟩ := e
    cases e1
    rw [map_ref_inj e2]
def insK : List D → Bool
  | .ins _ _ :: _ => true
  | _ => false
theorem insK_key : ∀ {kvs : List (Key × V)}, insK (kvs.map fun p => keyD p.1) = false
  | [] => rfl
  | (.inl _, _) :: _ => rfl
  | (.inr _, _) :: _ => rfl
theorem insK_snoc {ks : List D} {k0 : Key} (h : insK ks = false) : insK (ks ++ [keyD k0]) = false := by
  match ks, k0, h with
  | [], .inl _, _ => rfl
  | [], .inr _, _ => rfl
  | d :: ds, k0, h =>
    cases d <;> first | rfl | cases h
theorem QCell.dct {a : Addr} {ks : List D} {dss : List (List D)} {os : Owns} (hk : insK ks = false) (h : QCell c B G H a ks dss os) : QDct c G H a ks dss os := by
  rcases h with h | ⟨n, ds, p, dk, dv, dx, fs, b, o, kv, us, vs, rfl, _⟩
  · exact h
  · cases hk
theorem QCell.same {a : Addr} {ks ks' : List D} {dss dss' : List (List D)} {os os' : Owns} (h : QCell c B G H a ks dss os) (h' : QCell c B G' H a ks' dss' os') : os = os' := by
  rcases h with ⟨kvs, bs, rfl, h1, _, h3, _⟩ | ⟨n, ds, p, dk, dv, dx, fs, b, o, kv, us, vs, rfl, rfl, rfl, h1, h2, h3, _⟩
  · rcases h' with ⟨kvs', bs', rfl, h1', _, h3', _⟩ | ⟨n', ds', p', dk', dv', dx', fs', b', o', kv', us', vs', rfl, rfl, rfl, g1, g2, g3, _⟩
    · rw [h1] at h1'
      cases h1'
      rw [h3] at h3'
      rw [map_ref_inj h3']
    · rw [h1] at g1
      cases g1
  · rcases h' with ⟨kvs', bs', rfl, h1', _, h3', _⟩ | ⟨n', ds', p', dk', dv', dx', fs', b', o', kv', us', vs', rfl, rfl, rfl, g1, g2, g3, _⟩
    · rw [h1] at h1'
      cases h1'
    · rw [h1] at g1
      have e := (HO.ins.inj (Option.some.inj g1)).2.2
      rw [← e, h3] at g3
      have := List.append_inj_right' g3 rfl
      cases this
      rfl
theorem Sl.ndQ {ks : List D} {dss : List (List D)} {a : Addr} {os : Owns} : ∀ {es : En} {vs : List (Option V)} {own : Owns} {i : Nat}, Sl c B G H es vs own → own.Nodup → es[i]? = some (some (S.q ks dss)) → vs[i]? = some (some (V.ref a)) → QCell c B G H a ks dss os → os.Nodup := by
  intro es
  induction es with
  | nil => intro vs own i _ _ e; simp at e
  | cons s es ih =>
    intro vs own i h nd e ev hq
    cases h with
    | skip k =>
      cases i with
      | zero => simp at e
      | succ i => exact ih k nd (by simpa using e) (by simpa using ev) hq
    | d _ k =>
      cases i with
      | zero => simp at e
      | succ i => exact ih k nd (by simpa using e) (by simpa using ev) hq
    | o _ _ k =>
      cases i with
      | zero => simp at e
      | succ i => exact ih k (List.nodup_cons.mp nd).2 (by simpa using e) (by simpa using ev) hq
    | q hq' k =>
      cases i with
      | zero =>
        simp at e ev
        obtain ⟨rfl, rfl⟩ := e
        subst ev
        have := hq'.same hq
        subst this
        exact (List.nodup_append.mp nd).1
      | succ i => exact ih k (List.nodup_append.mp nd).2.1 (by simpa using e) (by simpa using ev) hq
/-- a list within is written -/
theorem Sl.writeQ : ∀ {es : En} {vs : List (Option V)} {own : Owns} {i : Nat} {ks : List D} {dss dss' : List (List D)} {b : Addr}, own.Nodup → Sl c B G H es vs own → es[i]? = some (some (.q ks dss)) → (∀ a os, vs[i]? = some (some (.ref a)) → QCell c B G H a ks dss os → os.Nodup → b ∈ os ∧ QCell c B G H' a ks dss' os) → (∀ q, q ≠ b → H' q = H q) →
    Sl c B G H' (es.set i (some (.q ks dss'))) vs own := by
  intro es
  induction es with
  | nil => intro vs own i ks dss dss' b _ _ e; simp at e
  | cons s es ih =>
    intro vs own i ks dss dss' b nd h e f hh
    have rest : ∀ {i : Nat} {vs : List (Option V)} {own : Owns}, own.Nodup → Sl c B G H es vs own → es[i]? = some (some (S.q ks dss)) → (∀ a os, vs[i]? = some (some (V.ref a)) → QCell c B G H a ks dss os → os.Nodup → b ∈ os ∧ QCell c B G H' a ks dss' os) → b ∈ own := fun nd k e f => by
      obtain ⟨a, os, h1, h2, h3⟩ := k.getQ e
      exact h3 _ (f a os h1 h2 (k.ndQ nd e h1 h2)).1
    cases h with
    | skip k =>
      cases i with
      | zero => simp at e
      | succ i => exact .skip (ih nd k (by simpa using e) (by simpa using f) hh)
    | d hr k =>
      cases i with
      | zero => simp at e
      | succ i => exact .d hr (ih nd k (by simpa using e) (by simpa using f) hh)
    | @o a' b' x' _ _ own ho hb k =>
      rw [List.nodup_cons] at nd
      cases i with
      | zero => simp at e
      | succ i =>
        have hbm := rest (i := i) nd.2 k (by simpa using e) (by simpa using f)
        exact .o (ho.mono (fun _ _ e => e) (hh _ fun z : a' = b => nd.1 (by rw [z]; exact hbm))) hb (ih nd.2 k (by simpa using e) (by simpa using f) hh)
    | @q a' ks' dss2 _ _ qs own ho k =>
      have n0 := List.nodup_append.mp nd
      cases i with
      | zero =>
        simp at e
        obtain ⟨rfl, rfl⟩ := e
        obtain ⟨hbm, hq⟩ := f a' qs rfl ho n0.1
        exact .q hq (k.mono (fun _ _ e => e) fun p hp => hh _ fun z => n0.2.2 b hbm p hp z.symm)
      | succ i =>
        have hbm := rest (i := i) n0.2.1 k (by simpa using e) (by simpa using f)
        exact .q (ho.mono (fun _ _ e => e) fun p hp => hh _ fun z => n0.2.2 p hp b hbm z) (ih n0.2.1 k (by simpa using e) (by simpa using f) hh)
theorem LsAll.all : ∀ {bs : List Addr} {dss : List (List D)}, LsAll c G H bs dss → ∀ {G' : Hp}, (∀ a o, G a = some o → G' a = some o) → (∀ b ∈ bs, G' b = H b) → RpAll c G' (bs.map V.ref) (dss.map D.lst)
  | _, _, .nil, _, _, _ => .nil
  | _, _, .cons h k l, G', s, e => .cons (.lst ((e _ List.mem_cons_self).trans h) (k.mono s)) (LsAll.all l s fun b hb => e b (List.mem_cons_of_mem _ hb))
end
def isQ (ρ : En) (i : Nat) : Bool := match ρ[i]? with
  | some (some (.q _ _)) => true
  | _ => false
/-- d[k].pop() -/
def mMethQ0 (i : Nat) (fk : M S) (g : List D → Option (D × List D)) : M S := fun ρ => if isQ ρ i then (dv fk ρ).then fun k ρ1 => match ρ1[i]? with
    | some (some (.q ks dss)) => if isKey k then match keyAt ks k with
        | some n => match dss[n]? with
          | some ds => match g ds with
            | some (z, es) => .ok (.d z) (ρ1.set i (some (.q ks (dss.set n es))))
            | none => .stuck
          | none => .stuck
        | none => .stuck
      else .stuck
    | _ => .stuck
  else .stuck
section
variable {c : Cfg} {W : WX} {B : Base} {ts : En} {vs : List (Option V)} {ρ : En} {σ : L2.St} {H : Hp} {tk : TE} {fk : M S}
theorem isQ_at {i : Nat} (h : isQ ρ i = true) (r : Rep c B ts vs ρ σ H) : ∃ a, σ[i]? = some (some (.ref a)) := by
  unfold isQ at h
  split at h
  · rename_i ks dss e
    obtain ⟨a, ev, _⟩ := r.varQ e
    exact ⟨a, ev⟩
  · cases h
theorem insK_at {G : Hp} {os : Owns} {ks : List D} {dss : List (List D)} {a : Addr} {k0 : Key} {n : Nat} (hq : QCell c B G H a ks dss os) (e1 : keyAt ks (keyD k0) = some n) : insK ks = false := by
  rcases hq with ⟨kvs, bs, rfl, q1, rfl, q3, q4⟩ | ⟨n', ds, p, dk, dv, dx, fs, b, o, kv, us, vs, rfl, _⟩
  · exact insK_key
  · exfalso
    match k0, p, e1 with
    | .inl i, none, e1 => cases e1
    | .inl i, some j, e1 => cases e1
    | .inr i, none, e1 => cases e1
    | .inr i, some j, e1 => cases e1
/-- the list at a key, now -/
theorem atQ {G : Hp} {os : Owns} {ks : List D} {dss : List (List D)} {a : Addr} {k0 : Key} {n : Nat} {ds : List D} (hq0 : QCell c B G H a ks dss os) (e1 : keyAt ks (keyD k0) = some n) (e2 : dss[n]? = some ds) :
    insK ks = false ∧ ∃ kvs b us bs, H a = some (.dK kvs) ∧ valV kvs k0 = some (.ref b) ∧ H b = some (.lst us) ∧ RpAll c G us ds ∧ os = a :: bs ∧ bs[n]? = some b := by
  have hk := insK_at hq0 e1
  have hq := hq0.dct hk
  refine ⟨hk, ?_⟩
  obtain ⟨kvs, bs, rfl, q1, rfl, q3, q4⟩ := hq
  obtain ⟨b, us, f1, f2, f3⟩ := q4.get e2
  have : (kvs.map (·.2))[n]? = some (V.ref b) := by
    rw [q3, List.getElem?_map, f1]
    rfl
  rw [List.getElem?_map] at this
  obtain ⟨p, ep, e3⟩ := Option.map_eq_some_iff.mp this
  refine ⟨kvs, b, us, bs, q1, ?_, f2, f3, rfl, f1⟩
  rw [valV_ix e1 ep, e3]
theorem den_methQ0 {i : Nat} {r : V → List V → Hp → VK → Prop} {g : List D → Option (D × List D)} (hm : Mth0Den c r g) (h : Den c W tk fk) : Den c W (tBM0 c.K "list" r (tDGet (tVar i) tk)) (mMethQ0 i fk g) := fun B ts vs ρ σ H Q rp q => by
  unfold mMethQ0 at q
  split at q
  · rename_i ho
    obtain ⟨a, ev⟩ := isQ_at ho rp
    rw [post_then] at q
    refine ⟨.ref a, ev, h.dv rp (q.imp1 fun k ρ1 q1 v H1 r1 => ?_)⟩
    split at q1
    · rename_i ks dss e1
      split at q1
      · rename_i hk
        split at q1
        · rename_i n en
          split at q1
          · rename_i ds ed
            split at q1
            · rename_i z es eg
              obtain ⟨G, o1, o2, kk, h1, h2⟩ := id r1
              cases h1 with
              | d hv h1 =>
                obtain ⟨k0, rfl, rfl⟩ := key_of hv hk
                obtain ⟨a', os, ev', hq, hos⟩ := h2.getQ e1
                rw [ev] at ev'
                cases ev'
                obtain ⟨hki, kvs, b, us, bs, f1, f2, f3, f4, f5, f6⟩ := atQ hq en ed
                have hbm : b ∈ os := by
                  rw [f5]
                  exact List.mem_cons_of_mem _ (List.mem_of_getElem? f6)
                have nd := List.nodup_append.mp kk.nd
                refine ⟨a, .ref b, rfl, .inl ⟨kvs, k0, .inl f1, rfl, f2.symm⟩, .inl ⟨rfl, us, SqL.of f3⟩, hm G H1 Q b us ds z es f3 f4 eg fun w us2 hw hk2 => q1 w _ ?_⟩
                refine ⟨G, o1, o2, kk.write (List.mem_append_right _ (hos b hbm)) f3 (.lst _), .d hw (h1.mono (fun _ _ e => e) fun q hq' => upd_ne fun z => nd.2.2 q hq' b (hos b hbm) z), ?_⟩
                refine h2.writeQ (b := b) nd.2.1 e1 (fun a2 os2 ev2 hq2 nd2 => ?_) fun q hq' => upd_ne hq'
                rw [ev] at ev2
                cases ev2
                have eo := hq2.same hq
                subst eo
                refine ⟨hbm, ?_⟩
                obtain ⟨kvs', bs', e0, g1, g2, g3, g4⟩ := hq2.dct hki
                rw [f5, List.cons.injEq] at e0
                obtain ⟨_, rfl⟩ := e0
                rw [f5, List.nodup_cons] at nd2
                refine .inl ⟨kvs', bs, f5, ?_, g2, g3, ?_⟩
                · rw [upd_ne fun z : a = b => nd2.1 (by rw [z]; exact List.mem_of_getElem? f6)]
                  exact g1
                · exact g4.put upd_same hk2 (fun q hq' => upd_ne hq') f6 nd2.2
            · exact q1.elim
          · exact q1.elim
        · exact q1.elim
      · exact q1.elim
    · exact q1.elim
  · exact q.elim
theorem Rep.insQ {st : List D} {sv : List V} {p : Addr} (hl : sv.length = st.length) (r : Rep c B (tmp st ++ ts) (tmv sv ++ vs) ρ σ H) (hp : H p = none) :
    Rep c B (tmp st ++ (some (.q [] []) :: ts)) (tmv sv ++ (some (.ref p) :: vs)) ρ σ (upd H p (.dK [])) := by
  obtain ⟨G, o1, o2, k, h1, h2⟩ := r
  obtain ⟨a1, a2⟩ := h1.tmp hl
  have ow := own_new (o := .dK []) k hp
  exact ⟨G, [p] ++ o1, o2, k.allocO hp, a1.tmpS (.q (.inl ⟨[], [], rfl, upd_same, rfl, rfl, .nil⟩) (a2.mono (fun _ _ e => e) fun q hq => ow q (List.mem_append_left _ hq))), h2.mono (fun _ _ e => e) fun q hq => ow q (List.mem_append_right _ hq)⟩
theorem Rep.putQ {st ks ds : List D} {dss : List (List D)} {sv : List V} {p : Addr} {v : V} {k0 : Key} (hki : insK ks = false) (hl : sv.length = st.length) (hk : ks.any (keyEq (keyD k0)) = false) (r : Rep c B (some (.o none (.lst ds)) :: (tmp st ++ (some (.q ks dss) :: ts))) (some v :: (tmv sv ++ (some (.ref p) :: vs))) ρ σ H) :
    ∃ kvs, H p = some (.dK kvs) ∧ kvs.length = ks.length ∧ Rep c B (tmp st ++ (some (.q (ks ++ [keyD k0]) (dss ++ [ds])) :: ts)) (tmv sv ++ (some (.ref p) :: vs)) ρ σ (upd H p (.dK (putK kvs k0 v))) := by
  obtain ⟨G, o1, o2, k, h1, h2⟩ := r
  cases h1 with
  | @o b _ _ _ _ own1 hc hb h1 =>
    obtain ⟨us, eb, kb⟩ := hc
    obtain ⟨a1, a2⟩ := h1.tmp hl
    cases a2 with
    | @q _ _ _ _ _ os own2 hq a2 =>
      obtain ⟨kvs, bs, rfl, e, rfl, e3, l⟩ := hq.dct hki
      have nd := k.nd
      rw [List.cons_append, List.nodup_cons] at nd
      obtain ⟨nb, nd⟩ := nd
      rw [List.append_assoc, List.cons_append, List.nodup_cons] at nd
      obtain ⟨np, nd⟩ := nd
      rw [← List.append_assoc] at np nd
      have nbp : b ≠ p := fun z => nb (by rw [z]; simp)
      have ne : ∀ q, q ≠ p → upd H p (.dK (putK kvs k0 (V.ref b))) q = H q := fun q hq => upd_ne hq
      refine ⟨kvs, e, by rw [List.length_map], G, (p :: (bs ++ [b])) ++ own2, o2, ?_, a1.tmpS (.q (.inl ⟨putK kvs k0 (.ref b), bs ++ [b], rfl, upd_same, ?_, ?_, ?_⟩) (a2.mono (fun _ _ e => e) fun q hq => ne q fun z => np (z ▸ (by simp [hq])))), h2.mono (fun _ _ e => e) fun q hq => ne q fun z => np (z ▸ (by simp [hq]))⟩
      · refine (k.write (p := p) (by simp) e (.dK _)).subO (fun q hq => ?_) ?_
        · simp only [List.mem_append, List.mem_cons, List.not_mem_nil, or_false] at hq ⊢
          rcases hq with ((rfl | hq | rfl) | hq) | hq
          · simp
          · simp [hq]
          · simp
          · simp [hq]
          · simp [hq]
        · have hperm : ((p :: (bs ++ [b])) ++ own2 ++ o2).Perm (b :: (p :: bs ++ own2) ++ o2) := by
            simp only [List.cons_append, List.append_assoc, List.nil_append]
            refine (List.Perm.cons p List.perm_middle).trans (List.Perm.swap _ _ _)
          rw [hperm.nodup_iff]
          exact k.nd
      · rw [putK_new _ (valV_no hk), List.map_append]
        rfl
      · rw [putK_new _ (valV_no hk), List.map_append, e3, List.map_append]
        rfl
      · refine LsAll.snoc ((ne _ nbp).trans eb) kb (l.mono (fun _ _ e => e) fun q hq => ne q fun z => np (z ▸ (by simp [hq])))
end
def mDCompQ (gm : D → M Unit) (ft : M Bool) (fk fv : M S) (own : List Nat) : List D → List D → List (List D) → En → Out (List D × List (List D))
  | [], ks, dss, ρ => .ok (ks, dss) ρ
  | x :: xs, ks, dss, ρ => (gm x ρ).calm.then fun _ ρ1 => (ft ρ1).calm.then fun b ρ2 => if b = true then (dv fk ρ2).calm.then fun k ρ3 => (fv ρ3).calm.then fun s ρ4 => match s with
      | .o none (.lst ds) => if isKey k && !ks.any (keyEq k) && small (ks.length + 1) then mDCompQ gm ft fk fv own xs (ks ++ [k]) (dss ++ [ds]) (wipeE ρ4 own) else .stuck
      | _ => .stuck
    else mDCompQ gm ft fk fv own xs ks dss (wipeE ρ2 own)
def mSetDcQ (i : Nat) (fI : M (List D)) (gm : D → M Unit) (ft : M Bool) (fk fv : M S) (own : List Nat) : M Fl := fun ρ => (fI ρ).then fun items ρ1 => (mDCompQ gm ft fk fv own items [] [] (wipeE ρ1 own)).then fun p ρ2 => .ok .nx (ρ2.set i (some (.q p.1 p.2)))
section
variable {c : Cfg} {W : WX} {wi : TI} {fI : M (List D)} {tk tv : TE} {fk fv : M S} {tt : TT} {ft : M Bool} {g : TG} {gm : D → M Unit} {js own : List Nat}
theorem ds_dcQ {i : Nat} (h : DenI c W wi fI) (k : DenG c W0 g gm js) (kt : DenT c W0 tt ft) (kk : Den c W0 tk fk) (kv : Den c W0 tv fv) (hj : ∀ j ∈ js, j ∈ own) : DenS c W (tAsg (tDc wi g tt tk tv own) (gName i)) (mSetDcQ i fI gm ft fk fv own) := fun B ts vs ρ σ H D r q => by
  unfold mSetDcQ at q
  rw [post_then] at q
  refine h B ts vs ρ σ H _ r (q.imp (fun items ρ1 q J st sv H1 hl r1 w Da hD => ?_) fun _ _ h => h.toP)
  obtain ⟨n, Gw, Y, wk, rfl, hG, hY⟩ := w
  rw [post_then] at q
  refine dc_it wk (fun i' H => ∃ ρ ks dss, Rep c B (tmp st ++ (some (.q ks dss) :: ts)) (tmv sv ++ (some (.ref Da) :: vs)) ρ σ H ∧ insK ks = false ∧ (∀ v ∈ own, ρ.set v none = ρ) ∧
    Post (fun (p : List Fx.D × List (List Fx.D)) ρ2 => Post (EndP c B ts vs D) (ErrS c W B ts vs) (Out.ok Fl.nx (List.set ρ2 i (some (S.q p.1 p.2))))) (ErrS c W B ts vs) (mDCompQ gm ft fk fv own (items.drop i') ks dss ρ)) ⟨wipeE ρ1 own, [], [], ?_, rfl, fun v hv => wipeE_at ρ1 own v hv, q⟩ (fun i' H _ ⟨ρ, ks, dss, r, _⟩ => hG _ _ _ _ _ _ r) ?_ ?_
  · exact (Rep.insQ hl r1 hD).back rfl
  · rintro i' x H1 H2 hi ⟨ρ, ks, dss, r, hki, hw, q⟩ y
    obtain ⟨d, ed, r2⟩ := hY _ _ _ _ _ _ _ _ _ hi r y
    have hd : items.drop i' = d :: items.drop (i' + 1) := by
      rw [List.drop_eq_getElem_cons hi]
      rw [List.getElem?_eq_getElem hi] at ed
      cases ed
      rfl
    rw [hd] at q
    have q : Post _ _ ((gm d ρ).calm.then fun _ ρ1 => (ft ρ1).calm.then fun b ρ2 => _) := q
    rw [post_then] at q
    have r3 : Rep c B (some (.d d) :: (tmp st ++ (some (.q ks dss) :: ts))) (some x :: (tmv sv ++ (some (.ref Da) :: vs))) ρ (L2.wipe σ own) H2 := by
      have := r2.wipe own
      have e := wipeE_id hw
      rw [e] at this
      exact this
    refine k B _ _ ρ _ H2 d x _ r3 (post_calm (q.imp1 fun _ ρ2 q σ2 H3 o r4 => ?_))
    have eo := Off.wipe hj o
    refine ⟨eo, ?_⟩
    rw [post_then] at q
    refine kt B _ _ ρ2 σ2 H3 _ r4 (post_calm (q.imp1 fun b ρ3 q H4 r5 => ?_))
    cases b with
    | false => exact ⟨wipeE ρ3 own, ks, dss, r5.back eo, hki, fun v hv => wipeE_at ρ3 own v hv, q⟩
    | true =>
      have q : Post _ _ ((dv fk ρ3).calm.then fun k ρ3 => (fv ρ3).calm.then fun y ρ4 => _) := q
      rw [post_then] at q
      refine kk.dv r5 (post_calm (q.imp1 fun y ρ4 q v H5 r6 => ?_))
      rw [post_then] at q
      refine kv B _ _ ρ4 _ H5 _ r6.drop (post_calm (q.imp1 fun s ρ5 q u H6 r7 => ?_))
      split at q
      · rename_i ds
        split at q
        · rename_i hz
          rw [Bool.and_eq_true, Bool.and_eq_true, Bool.not_eq_true'] at hz
          obtain ⟨⟨z1, z2⟩, z3⟩ := hz
          obtain ⟨G, O, hv⟩ := r6.top
          obtain ⟨k0, rfl, rfl⟩ := key_of hv z1
          obtain ⟨kvs, e1, e2, r8⟩ := Rep.putQ hki hl z2 r7
          refine ⟨kvs, k0, rfl, e1, ?_, wipeE ρ5 own, _, _, r8.back eo, insK_snoc hki, fun v hv => wipeE_at ρ5 own v hv, q⟩
          have := small_line z3
          omega
        · exact q.elim
      · exact q.elim
  · rintro H1 ⟨ρ, ks, dss, r, _, _, q⟩
    rw [List.drop_length] at q
    exact q _ H1 (r.dropN hl).set
end
section
variable {X : Cx} {c : Cfg} {W : WX} {tg it kx vx a b : Expr} {ifs : List Expr} {fI : M (List D)} {g : D → M Unit} {js : List Nat} {ft : M Bool} {fk fv fa fb : M S} {scope : Scope} {own : List (Str × Nat)} {pos : Pos} {wi : TI} {tgt : TG} {tt : TT} {tk tv ta tb : TE} {kk : Nat}
theorem s_setDcQ (i : Nat) {y : Str} {py spos : Pos} (hN : X.N.Nodup) (hI : QI X c W tg it wi fI) (hB : BlkOk X.N X.env.scope scope own) (hG : ∀ s H C cl fp, QG (Blk X scope s H C cl fp) c W0 tg tgt g js) (hT : ∀ s H C cl fp, QTs (Blk X scope s H C cl fp) c W0 ifs tt ft)
    (hk : ∀ s H C cl fp, QE (Blk X scope s H C cl fp) c W0 kx tk fk) (hE : ∀ s H C cl fp, QE (Blk X scope s H C cl fp) c W0 vx tv fv) (hj : ∀ j ∈ js, j ∈ own.map (·.2) := by decide) (hc : X.calm = true := by rfl) (hi : X.N[i]? = some y := by rfl) (hy : X.env.scope.names.lookup y = some .local := by rfl)
    (hw : swapsWith (.DictComp kx vx [{ target := tg, iter := it, ifs := ifs, is_async := 0 }] scope pos) (some (.Name y py)) spos.line X.env = pure true := by rfl) (hs : ∀ x, foldedSetIterable it X.env x = pure x := by intro _; rfl) :
    QS X c W (.Assign [.Name y py] (.DictComp kx vx [{ target := tg, iter := it, ifs := ifs, is_async := 0 }] scope pos) spos) (tAsg (tDc wi tgt tt tk tv (own.map (·.2))) (gName i)) (mSetDcQ i fI g ft fk fv (own.map (·.2))) := by
  obtain ⟨h1, h2⟩ := hI
  obtain ⟨s, H, C, cl, fp, g2, t2, k2, e2⟩ := anyPlace c _ fun s H C cl fp => And.intro (hG s H C cl fp).dn (And.intro (hT s H C cl fp).dn (And.intro (hk s H C cl fp).dn (hE s H C cl fp).dn))
  exact ⟨psD hc hN hi hy hw h1 hB (fun s H C cl fp => (hG s H C cl fp).pe) (fun s H C cl fp => (hT s H C cl fp).pe) (fun s H C cl fp => (hk s H C cl fp).pe) (fun s H C cl fp => (hE s H C cl fp).pe) hs, ds_dcQ h2 g2 t2 k2 e2 hj⟩
end
section
variable {X : Cx} {c : Cfg} {W : WX} {x y : Str} {p p2 pos apos cpos : Pos} {e : Expr} {tk : TE} {fk : M S} {kk : Nat}
theorem q_popQ (i : Nat) (hr : Room kk X.A) (hk : QE X c W e tk fk) (hN : X.N[i]? = some x := by rfl) (hv : Vis X.env.scope x := by first | exact Or.inl rfl | exact Or.inr (Or.inl rfl) | exact Or.inr (Or.inr rfl)) (hd : (x == ("__debug__" : Str)) = false := by decide)
    (hcd : (x == ("__classdict__" : Str)) = false := by decide) (hsl : NoSl e := by exact fun _ _ => rfl) (hbase : attributeBase (.Subscript (.Name x p) e pos) "pop" X.env (eval (.Subscript (.Name x p) e pos) X.env) = eval (.Subscript (.Name x p) e pos) X.env := by rfl) (hline : (apos.endLine == cpos.line) = true := by rfl) (hK : X.K = c.K := by rfl) :
    QE X c W (.Call (.Attribute (.Subscript (.Name x p) e pos) "pop" apos) [] [] cpos) (tBM0 c.K "list" rPop (tDGet (tVar i) tk)) (mMethQ0 i fk gPop) := by
  obtain ⟨h1, h2⟩ := hk
  exact ⟨hK ▸ pe_bm0 PySem.F.plainAttrs_list PySem.F.slot_list_pop PySem.F.type_list_pop mt_pop (pe_dget (by have := un66 hr; omega) (pe_var hN hv hd hcd) h1 hsl) hbase hline, den_methQ0 md_pop h2⟩
end
end Fx
/-! while d[k]: .., d a dict of lists that go on to change -/
namespace Fx
open PySem PySem.Spec PyProof.Rows L2
def mTruthQ (i : Nat) (fk : M S) : M Bool := fun ρ => if isQ ρ i then (dv fk ρ).then fun k ρ1 => match ρ1[i]? with
    | some (some (.q ks dss)) => if isKey k then match keyAt ks k with
        | some n => match dss[n]? with
          | some ds => .ok (!ds.isEmpty) ρ1
          | none => .stuck
        | none => .stuck
      else .stuck
    | _ => .stuck
  else .stuck
section
variable {c : Cfg} {W : WX} {tk : TE} {fk : M S} {i : Nat}
theorem dt_truthQ (h : Den c W tk fk) : DenT c W (tTru c.K (tDGet (tVar i) tk)) (mTruthQ i fk) := fun B ts vs ρ σ H Q rp q => by
  unfold mTruthQ at q
  split at q
  · rename_i ho
    obtain ⟨a, ev⟩ := isQ_at ho rp
    rw [post_then] at q
    refine ⟨.ref a, ev, h.dv rp (q.imp1 fun k ρ1 q1 v H1 r1 => ?_)⟩
    split at q1
    · rename_i ks dss e1
      split at q1
      · rename_i hk
        split at q1
        · rename_i n en
          split at q1
          · rename_i ds ed
            obtain ⟨G, o1, o2, kk, h1, h2⟩ := id r1
            cases h1 with
            | d hv h1 =>
              obtain ⟨k0, rfl, rfl⟩ := key_of hv hk
              obtain ⟨a', os, ev', hq, hos⟩ := h2.getQ e1
              rw [ev] at ev'
              cases ev'
              obtain ⟨hki, kvs, b, us, bs, f1, f2, f3, f4, f5, f6⟩ := atQ hq en ed
              refine ⟨a, .ref b, rfl, .inl ⟨kvs, k0, .inl f1, rfl, f2.symm⟩, _, .inl ⟨us, SqL.of f3, rfl⟩, ?_⟩
              rw [isEmpty_len f4.length]
              exact q1 H1 r1.drop
          · exact q1.elim
        · exact q1.elim
      · exact q1.elim
    · exact q1.elim
  · exact q.elim
variable {X : Cx} {e : Expr} {x : Str} {p pos : Pos} {kk : Nat}
theorem t_truQ (i : Nat) (hr : Room kk X.A) (hk : QE X c W e tk fk) (hN : X.N[i]? = some x := by rfl) (hv : Vis X.env.scope x := by first | exact Or.inl rfl | exact Or.inr (Or.inl rfl) | exact Or.inr (Or.inr rfl)) (hd : (x == ("__debug__" : Str)) = false := by decide)
    (hcd : (x == ("__classdict__" : Str)) = false := by decide) (hsl : NoSl e := by exact fun _ _ => rfl) (h : ∀ whole, isTrue (.Subscript (.Name x p) e pos) X.env whole = (do let v ← whole; standAt (Expr.Subscript (.Name x p) e pos).pos; holding [v] (truthy v)) := by intro _; rfl) (hK : X.K = c.K := by rfl) :
    QT X c W (.Subscript (.Name x p) e pos) (tTru c.K (tDGet (tVar i) tk)) (mTruthQ i fk) := by
  obtain ⟨h1, h2⟩ := hk
  have h3 : PT X (.Subscript (.Name x p) e pos) (tTru X.K (tDGet (tVar i) tk)) := pt_truth (pe_dget (by have := un66 hr; omega) (pe_var hN hv hd hcd) h1 hsl) h
  exact ⟨hK ▸ h3, dt_truthQ h2⟩
end
end Fx
/-! a tuple, once or more often -/
namespace Rw
open PySem PySem.Spec PyProof.Rows L2
theorem tupOnce (l : Addr) (items : Array Value) (n : Nat) (dd : Option Addr) (sl : Array (Option Value)) (u : Tok) :
    Meets (Builtin.«tuple.__mul__» ⟨[.ref l, .int 1 u], []⟩) (fun _ R s =>
      s.heap.get? l = some ⟨.type "tuple", dd, .seq items n, sl⟩ ∧ R (.ok (.ret (Value.ref l))) s) :=
  .of_wp fun prog w A R s both => by
    obtain ⟨hp, g, d, tk, os⟩ := s
    obtain ⟨at1, both⟩ := both
    have i1 := AutoSeq1.idx_int
    have c1 : (items.isEmpty || (1 : Int) == 1) = true := by simp
    wp_walk using wpAny_loadPart' at1
    repeat (first
      | (refine wpAny_ite_true (decide_eq_true c1) ?_; wp_walk using wpAny_loadPart' at1)
      | (refine wpAny_ite_false (decide_eq_false (by decide)) ?_; wp_walk using wpAny_loadPart' at1))
    exact ⟨_, rfl, both⟩
end Rw
/-! t * k -/
namespace Fx
open PySem PySem.Spec PyProof.Rows L2
theorem tupNone (l : Addr) (items : Array Value) (n : Nat) (dd : Option Addr) (sl : Array (Option Value)) (x : Int) (u : Tok) (c0 : (decide (x < -(2 ^ 63)) || decide (x ≥ 2 ^ 63)) = false) (c1 : (items.isEmpty || x == 1) = false) (c2 : (decide (x ≤ 0) || items.isEmpty) = true) :
    Meets (Builtin.«tuple.__mul__» ⟨[.ref l, .int x u], []⟩) (fun _ R s => s.heap.get? l = some { cls := .type "tuple", dict := dd, data := .seq items n, slots := sl } ∧
      R (.ok (.ret (Value.ref s.heap.objs.size))) { s with heap := s.heap.push { cls := Value.type "tuple", data := Data.seq #[] }, toks := s.toks }) :=
  .of_wp fun prog w A R s h => by
    obtain ⟨hp, g, d, tk, os⟩ := s
    obtain ⟨hl, h⟩ := h
    have f1 := AutoSeq1.idx_int
    wp_walk using wpAny_loadPart' hl
    repeat (first
      | (refine wpAny_ite_false (decide_eq_false (by rw [c0]; exact Bool.false_ne_true)) ?_; wp_walk using wpAny_loadPart' hl)
      | (refine wpAny_ite_false (decide_eq_false (by rw [c1]; exact Bool.false_ne_true)) ?_; wp_walk using wpAny_loadPart' hl)
      | (refine wpAny_ite_true (decide_eq_true (by rw [c2])) ?_; wp_walk using wpAny_loadPart' hl))
    exact ⟨_, rfl, h⟩
/-- t * k -/
def rRepN (K : PySem.W.Frag) : R2 := fun x y H Q => ∃ l k xs, x = .ref l ∧ y = .int k ∧ SqT K H l xs ∧ xs ≠ [] ∧ -1000 ≤ k ∧ k ≤ 1000 ∧ xs.length ≤ 1000 ∧ (k = 1 → Q (.ref l) H) ∧ (k ≠ 1 → NewT H (List.replicate k.toNat xs).flatten Q)
section
variable {X : Cx}
theorem op_repN : OpR X (binaryOp .Mult) (rRepN X.K) := by
  rintro pins s σ H x y v u Q I rx ry ⟨l, k, xs, rfl, rfl, hT, hne, h0, h2, hz, q1, q2⟩
  cases rx
  obtain ⟨t, rfl⟩ := ry
  obtain ⟨its, r, ⟨⟨cls, dd, data, sl⟩, ho, hc, n, hd⟩, hs⟩ := I.tuple hT
  simp only at hc hd
  subst hc hd
  have hle : its.length = xs.length := r.length.symm
  have hn : its ≠ [] := fun e => hne (by
    rw [e] at hle
    exact List.eq_nil_of_length_eq_zero hle.symm)
  have hi : its.toArray.isEmpty = false := by
    cases its with
    | nil => exact absurd rfl hn
    | cons a b => rfl
  have hsz0 : its.toArray.size = xs.length := by rw [List.size_toArray, hle]
  have c0 : (decide (k < -(2 ^ 63)) || decide (k ≥ 2 ^ 63)) = false := by
    rw [decide_eq_false (by omega), decide_eq_false (by omega)] <;> rfl
  have flen : (List.replicate k.toNat its).flatten.length ≤ sizeLine := by
    rw [PyProof.Rows.lm_len_rep_flat, hle, sizeLine_eq]
    have a1 : k.toNat * xs.length ≤ 1000 * 1000 := Nat.mul_le_mul (by omega) hz
    omega
  have flen2 : (List.replicate k.toNat xs).flatten.length ≤ sizeLine := by
    rw [PyProof.Rows.lm_len_rep_flat, sizeLine_eq]
    have a1 : k.toNat * xs.length ≤ 1000 * 1000 := Nat.mul_le_mul (by omega) hz
    omega
  by_cases hk : k = 1
  · subst hk
    refine wpAny_binaryOp_repeat_ref (T := "tuple") (U := "int") (by decide) ⟨_, ho, rfl⟩ (fun s' => typeIs_int s' 1 t) noFill_tuple_mul F.fills_int_mul F.slot_int_rmul repeat_tuple F.slot_int_index.lookup
      (call_meets F.slot_int_rmul (typeIs_int s 1 t) F.entry_int_rmul (F.args_int_rmul_2 _ _) (int_rmul_tuple 1 t l its.toArray n dd sl)
        ⟨ho, rfl, ⟨_, ho, rfl⟩, call_meets F.slot_tuple_mul ⟨_, ho, rfl⟩ F.entry_tuple_mul (F.args_tuple_mul_2 _ _) (Rw.tupOnce l its.toArray n dd sl t) ⟨ho, ?_⟩⟩)
    exact ⟨.ref l, H, I, rfl, q1 rfl⟩
  have c1 : (its.toArray.isEmpty || k == 1) = false := by
    rw [hi, Bool.false_or]
    exact beq_eq_false_iff_ne.mpr hk
  by_cases h1 : k ≤ 0
  · have c2 : (decide (k ≤ 0) || its.toArray.isEmpty) = true := by
      rw [decide_eq_true h1] <;> rfl
    refine wpAny_binaryOp_repeat_ref (T := "tuple") (U := "int") (by decide) ⟨_, ho, rfl⟩ (fun s' => typeIs_int s' k t) noFill_tuple_mul F.fills_int_mul F.slot_int_rmul repeat_tuple F.slot_int_index.lookup
      (call_meets F.slot_int_rmul (typeIs_int s k t) F.entry_int_rmul (F.args_int_rmul_2 _ _) (int_rmul_tuple k t l its.toArray n dd sl)
        ⟨ho, rfl, ⟨_, ho, rfl⟩, call_meets F.slot_tuple_mul ⟨_, ho, rfl⟩ F.entry_tuple_mul (F.args_tuple_mul_2 _ _) (tupNone l its.toArray n dd sl k t c0 c1 c2) ⟨ho, ?_⟩⟩)
    have e : (List.replicate k.toNat xs).flatten = [] := by
      rw [show k.toNat = 0 by omega] <;> rfl
    have := q2 hk
    rw [e] at this
    exact newT_laid (us := []) I (Nat.zero_le _) .nil this
  have hm : ((its.toArray.size : Nat) : Int) * k ≤ 1000000 := by
    rw [hsz0]
    have a1 : ((xs.length : Nat) : Int) * k ≤ 1000 * k := Int.mul_le_mul_of_nonneg_right (by omega) (by omega)
    omega
  have c2 : (decide (k ≤ 0) || its.toArray.isEmpty) = false := by
    rw [hi, Bool.or_false]
    exact decide_eq_false (by omega)
  have c4 : Builtin.Tuple.tupleTooMany (((its.toArray.size : Nat) : Int) * k) = false := by
    unfold Builtin.Tuple.tupleTooMany
    rw [sizeLine_eq]
    exact decide_eq_false (by omega)
  refine wpAny_binaryOp_repeat_ref (T := "tuple") (U := "int") (by decide) ⟨_, ho, rfl⟩ (fun s' => typeIs_int s' k t) noFill_tuple_mul F.fills_int_mul F.slot_int_rmul repeat_tuple F.slot_int_index.lookup
    (call_meets F.slot_int_rmul (typeIs_int s k t) F.entry_int_rmul (F.args_int_rmul_2 _ _) (int_rmul_tuple k t l its.toArray n dd sl)
      ⟨ho, rfl, ⟨_, ho, rfl⟩, call_meets F.slot_tuple_mul ⟨_, ho, rfl⟩ F.entry_tuple_mul (F.args_tuple_mul_2 _ _) (tuple_mulW l its.toArray n dd sl k t c0 c1 c2 (by omega) c4 (by rw [size_rep, List.size_toArray]; exact flen)) ⟨ho, ?_⟩⟩)
  rw [size_rep]
  exact newT_laid I flen2 (r.rep k.toNat) (q2 hk)
end
def gRepT : D → D → Option S
  | .tup xs, .int k => if !xs.isEmpty && decide (-1000 ≤ k) && decide (k ≤ 1000) && decide (xs.length ≤ 1000) then ok1 (.tup (List.replicate k.toNat xs).flatten) else none
  | _, _ => none
theorem od_repT {c : Cfg} : OpDen c (rRepN c.K) gRepT := by
  intro B ts vs ρ σ H Q x y v u s r e q
  obtain ⟨G, O, h1, h2⟩ := r.two
  cases x <;> cases y <;> first | cases e | skip
  rename_i xs k
  have e : (if !xs.isEmpty && decide (-1000 ≤ k) && decide (k ≤ 1000) && decide (xs.length ≤ 1000) then ok1 (.tup (List.replicate k.toNat xs).flatten) else none) = some s := e
  split at e
  · rename_i hz
    simp only [Bool.and_eq_true, decide_eq_true_eq, Bool.not_eq_true'] at hz
    obtain ⟨⟨⟨z0, z1⟩, z2⟩, z3⟩ := hz
    cases e
    cases h2
    obtain ⟨a, us, rfl, ha, ka, na⟩ := h1.tupN
    refine ⟨a, k, us, rfl, rfl, SqT.up O.sub ha, fun e => ?_, z1, z2, by rw [ka.length]; exact z3, fun e => ?_, fun _ p o hp ho => ?_⟩
    · subst e
      cases ka
      exact absurd z0 (by decide)
    · subst e
      have e2 : (List.replicate (1 : Int).toNat xs).flatten = xs := by simp
      rw [e2] at q
      exact q _ _ (O.val (.tup ha ka na))
    · exact q _ _ (O.new hp rfl fun G' m e => .tup (.inl (.inr ⟨o, e⟩)) ((ka.rep _).mono m) fun _ => ⟨o, e, ho⟩)
  · cases e
def rMulT (K : PySem.W.Frag) : R2 := fun x y H Q => rI CMul (fun i j => .int (i * j)) x y H Q ∨ rRepN K x y H Q ∨ rRep x y H Q
theorem op_mulT {X : Cx} : OpR X (binaryOp .Mult) (rMulT X.K) := OpR.or op_mul (OpR.or op_repN op_rep)
def gMulT : D → D → Option S
  | .int i, .int j => gMul (.int i) (.int j)
  | .lst xs, .int k => gMul (.lst xs) (.int k)
  | .tup xs, .int k => gRepT (.tup xs) (.int k)
  | _, _ => none
theorem od_mulT {c : Cfg} : OpDen c (rMulT c.K) gMulT := by
  intro B ts vs ρ σ H Q x y v u s r e q
  cases x <;> cases y <;> first | cases e | skip
  · exact .inl (od_mulI B ts vs ρ σ H Q _ _ v u _ r e q)
  · exact .inr (.inl (od_repT B ts vs ρ σ H Q _ _ v u s r e q))
  · exact .inr (.inr (od_repL B ts vs ρ σ H Q _ _ v u s r e q))
section
variable {X : Cx} {c : Cfg} {W : WX} {a b : Expr} {fa fb : M S} {pos : Pos} {ta tb : TE}
theorem q_mulT (ha : QE X c W a ta fa) (hb : QE X c W b tb fb) (hK : X.K = c.K := by rfl) : QE X c W (.BinOp a .Mult b pos) (tOp (rMulT c.K) ta tb) (mOp gMulT fa fb) := by
  obtain ⟨h1, h2⟩ := ha; obtain ⟨k1, k2⟩ := hb
  exact ⟨hK ▸ pe_op op_mulT h1 k1, den_op od_mulT h2 k2⟩
end
end Fx
/-! dict(d), keys numbers or texts -/
/-! own errors with fields: the promise of an __init__ that says super().__init__(f'..'), then self.f = f -/
/-! own errors with fields: one field, two fields; raise X(..) -/
/-! {**d, k: v}, keys numbers or texts -/
/-! {k: v} -/
namespace Fx
open PySem PySem.Spec PyProof.Rows L2
section
variable {X : Cx} {c : Cfg}
def tDis1X (c : Cfg) (tk tv : TE) : TE := fun σ H Q => ∀ d o0, H d = none → DcO c.w d o0 [] [] [] → tk σ (upd H d (xdO d o0)) fun y H1 => tv σ H1 fun z H2 => ∃ (o2 : Obj) (key : D) (G : Hp), H2 d = some (xdO d o2) ∧ DcO c.w d o2 [] [] [] ∧ (∀ b u, G b = some u → H2 b = some u) ∧ Rp c G y key ∧ homog [] key = true ∧
  ∀ o1, DcO c.w d o1 [key] [y] [z] → Q (.ref d) (upd H2 d (xdO d o1))
theorem pe_dis1X (hK : X.K = c.K) (hw : X.w = c.w) (hu : X.A.units + 10 < cLine) {k v : Expr} {pos : Pos} {tk tv : TE} (hk : PE X k tk) (hv : PE X v tv) : PE X (.Dict [some k] [v] pos) (tDis1X c tk tv) := ⟨fun pins s σ H Q I h => by
  have free : H s.heap.objs.size = none := I.hok.fresh (Nat.le_refl _)
  rw [arm_eval_Dict]
  refine wpAny_bind (wpAny_standAt ?_)
  have e1 := dictDisplay_pairs [(eval k X.env, (do let x ← eval v X.env; standAt pos; pure x : Sem Value))] (by simp) (by show 1 < 17; decide)
  show wpAny _ _ (dictDisplay [(some (eval k X.env), (do let x ← eval v X.env; standAt pos; pure x))]) _ _ _
  have e2 : dictDisplay [(some (eval k X.env), (do let x ← eval v X.env; standAt pos; pure x))] = (do let d ← subDict [(eval k X.env, (do let x ← eval v X.env; standAt pos; pure x : Sem Value))]; pure (.ref d)) := e1
  rw [e2]
  refine wpAny_bind ?_
  unfold subDict
  refine wpAny_bind (wpAny_alloc ?_)
  refine wpAny_bind (wpAny_holding ?_)
  rw [if_pos (by show 1 ≤ 15; decide)]
  have I0 := I.laid (a := s.heap.objs.size) (o := xdO s.heap.objs.size { cls := .type "dict", data := .dict #[] }) (t' := s.toks) (fun _ _ e => Heap.get?_push_of_some _ e) (Nat.le_refl _) (xd_ok (Heap.get?_push_size _ rfl))
  have d0 : DcO c.w s.heap.objs.size { cls := .type "dict", data := .dict #[] } [] [] [] := DcO.new I.big
  refine wpAny_bind (evalPairs_cons (thn (hk.run pins _ σ _ _ I0 (h _ _ free d0)) fun yv s2 ⟨y, H2, I2, ry, more⟩ => wpAny_bind (thn (hv.run pins _ σ _ _ I2 more) fun zv s3 ⟨z, H3, I3, rz, o2, key, G, hD, d2, sub, hky, hm, fin⟩ => wpAny_bind (wpAny_standAt (wpAny_pure (evalPairs_nil ?_))))))
  refine wpAny_holding (wpAny_bind ?_)
  rw [List.forIn_cons]
  refine wpAny_bind (wpAny_bind ?_)
  refine x_dictSet hu I3 hK hw sub hD d2 .nil hky hm (by rw [sizeLine_eq]; show 0 < _; decide) ry rz fun s4 o4 I4 d4 => ?_
  refine wpAny_pure ?_
  dsimp only
  rw [List.forIn_nil]
  refine wpAny_pure (wpAny_pure (wpAny_pure (wpAny_pure ?_)))
  exact ⟨.ref s.heap.objs.size, _, I4, rfl, fin o4 d4⟩⟩
def mDis1 (fk fv : M S) : M S := fun ρ => (dv fk ρ).then fun k ρ1 => (dv fv ρ1).then fun y ρ2 => if homog [] k then .ok (.o none (.dct [k] [y])) ρ2 else .stuck
theorem den_dis1 {W : WX} {tk tv : TE} {fk fv : M S} (hk : Den c W tk fk) (hv : Den c W tv fv) : Den c W (tDis1X c tk tv) (mDis1 fk fv) := fun B ts vs ρ σ H Q r q d o0 hd d0 => by
  unfold mDis1 at q
  rw [post_then] at q
  have r0 : Rep c B (some (.o none (.dct [] [])) :: ts) (some (.ref d) :: vs) ρ σ (upd H d (xdO d o0)) := Rep.newO (ds := []) (us := []) r rfl hd fun G H' e _ => ⟨o0, [], [], e, d0, .nil, .nil⟩
  refine hk.dv r0 (q.imp (fun k ρ1 q y H1 r1 => ?_) fun _ _ h => h.drop)
  rw [post_then] at q
  refine hv.dv r1 (q.imp (fun x ρ2 q z H2 r2 => ?_) fun _ _ h => h.drop.drop)
  have q2 : Post (OkP c B ts vs σ Q) (ErrP c W B ts vs σ) (if homog [] k then .ok (.o none (.dct [k] [x])) ρ2 else .stuck) := q
  split at q2
  · rename_i hm
    obtain ⟨G, o1, o2, kk, h1, h2⟩ := r2
    cases h1 with
    | d hz h1 =>
      cases h1 with
      | d hy h1 =>
        cases h1 with
        | o hc hb h1 =>
          obtain ⟨ob, kv, us, ha, hd2, k1, k2⟩ := hc
          cases k1
          cases k2
          have nd := kk.nd
          rw [List.cons_append, List.nodup_cons] at nd
          refine ⟨ob, k, G, ha, hd2, kk.sub, hy, hm, fun o3 d3 => q2 _ _ ?_⟩
          exact ⟨G, d :: _, o2, kk.write List.mem_cons_self ha (dct_cell hd2), .o ⟨o3, _, _, upd_same, d3, .cons hy .nil, .cons hz .nil⟩ hb (h1.mono (fun _ _ e => e) fun p hp => upd_ne fun z => nd.1 (z ▸ List.mem_append_left _ hp)), h2.mono (fun _ _ e => e) fun p hp => upd_ne fun z => nd.1 (z ▸ List.mem_append_right _ hp)⟩
  · exact q2.elim
theorem q_dis1 {W : WX} {k v : Expr} {pos : Pos} {kk : Nat} {tk tv : TE} {fk fv : M S} (hr : Room kk X.A) (hw : X.w = c.w) (hk : QE X c W k tk fk) (hv : QE X c W v tv fv) (hK : X.K = c.K := by rfl) : QE X c W (.Dict [some k] [v] pos) (tDis1X c tk tv) (mDis1 fk fv) :=
  ⟨pe_dis1X hK hw (by have := un66 hr; omega) hk.1 hv.1, den_dis1 hk.2 hv.2⟩
end
end Fx
/-! the denotations of routeweb_k95_whole_disjoint_paths -/
namespace Fx.K95
open PySem PySem.Spec PyProof.Rows L2
open C8 (Cal Mak pe_c pe_mk)
open LamX (Tabs TabS TabB ExtN CodeO codeO_ne)
def topS (i : Nat) : Stmt := PySem.Challenge.pw_routeweb_k95_whole_disjoint_paths.main.body.getD i (.Pass ⟨0, 0, 0, 0⟩)
abbrev s_is_number : Stmt := topS 6
abbrev n_is_number : List Str := ["value", "low", "high"]
def b_is_number : M Fl := (mRet (mAndV (mCB gIsi (aCons (mVar 0) (aCons (mC (.ty "int")) aNil))) (mAndV (mNotV (mCB gIsi (aCons (mVar 0) (aCons (mC (.ty "bool")) aNil)))) (mChain gLe gLe (mVar 1) (mVar 0) (mVar 2)))))
def f_is_number : Fn := runF 3 3 b_is_number
abbrev s_is_tuple : Stmt := topS 7
abbrev n_is_tuple : List Str := ["value", "least", "most"]
def b_is_tuple : M Fl := (mRet (mAndV (mCB gIsi (aCons (mVar 0) (aCons (mC (.ty "tuple")) aNil))) (mChain gLe gLe (mVar 1) (mCB gLen (aCons (mVar 0) aNil)) (mVar 2))))
def f_is_tuple : Fn := runF 3 3 b_is_tuple
abbrev s_are_numbers : Stmt := topS 8
abbrev n_are_numbers : List Str := ["value", "low", "high", "item"]
def b_are_numbers : M Fl := (mRet (mAndV (mCB gIsi (aCons (mVar 0) (aCons (mC (.ty "tuple")) aNil))) (mCB gAll (aCons (mLc (iSeq (mVar 0)) (gmName 3) mYes (mCall f_is_number (aCons (mVar 3) (aCons (mVar 1) (aCons (mVar 2) aNil)))) [3]) aNil))))
def f_are_numbers : Fn := runF 3 4 b_are_numbers
abbrev s_is_arc : Stmt := topS 13
abbrev n_is_arc : List Str := ["size", "value"]
def b_is_arc : M Fl := (mRet (mAndV (mCall f_are_numbers (aCons (mVar 1) (aCons (mC (.int 0)) (aCons (mOp gMinus (mVar 0) (mC (.int 1))) aNil)))) (mAndV (mOp gEq (mCB gLen (aCons (mVar 1) aNil)) (mC (.int 2))) (mOp gNe (mOp gIx (mVar 1) (mC (.int 0))) (mOp gIx (mVar 1) (mC (.int 1)))))))
def f_is_arc : Fn := runF 2 2 b_is_arc
abbrev s_check_graph : Stmt := topS 14
abbrev n_check_graph : List Str := ["graph"]
def b_check_graph : M Fl := (mIfS (mNot (mTest (mIsC "Graph" (mVar 0)))) mSt mNx)
def f_check_graph : Fn := runF 1 1 b_check_graph
abbrev s_check_node : Stmt := topS 15
abbrev n_check_node : List Str := ["graph", "node"]
def b_check_node : M Fl := (mIfS (mNot (mTest (mCall f_is_number (aCons (mVar 1) (aCons (mC (.int 0)) (aCons (mOp gMinus (mCB gLen (aCons (mFldE "Graph" 0 (mVar 0)) aNil)) (mC (.int 1))) aNil)))))) mSt mNx)
def f_check_node : Fn := runF 2 2 b_check_node
abbrev s_check_unlike : Stmt := topS 17
abbrev n_check_unlike : List Str := ["node", "goal"]
def b_check_unlike : M Fl := (mIfS (mTest (mOp gEq (mVar 0) (mVar 1))) mSt mNx)
def f_check_unlike : Fn := runF 2 2 b_check_unlike
abbrev s_moves : Stmt := topS 18
abbrev n_moves : List Str := ["graph", "weights", "used", "moves", "tail", "head", "weight"]
def b_moves : M Fl := (mSeq (mAsgO 3 (mLst aNil))
    (mSeq (mFor (iZip' (aCons (mFldE "Graph" 1 (mVar 0)) (aCons (mVar 1) aNil))) (gmTup 2 (gmCons (gmTup 2 (gmCons (gmName 4) (gmCons (gmName 5) gmNil))) (gmCons (gmName 6) gmNil))) (mIfS (mTest (mOp gIn (mTup (aCons (mVar 4) (aCons (mVar 5) aNil))) (mVar 2))) (mDrop (mMeth1 3 gApp (mTup (aCons (mVar 5) (aCons (mVar 4) (aCons (mUn gNeg (mVar 6)) (aCons (mTup (aCons (mVar 4) (aCons (mVar 5) aNil))) aNil))))))) (mDrop (mMeth1 3 gApp (mTup (aCons (mVar 4) (aCons (mVar 5) (aCons (mVar 6) (aCons (mTup (aCons (mVar 4) (aCons (mVar 5) aNil))) aNil)))))))))
    (mRetO 3)))
def f_moves : Fn := runF 3 7 b_moves
abbrev s_ways : Stmt := topS 19
abbrev n_ways : List Str := ["graph", "weights", "used", "node", "moves", "ways", "is_changed", "place", "after", "cost", "arc"]
def b_ways : M Fl := (mSeq (mAsg (mCall f_moves (aCons (mVar 0) (aCons (mVar 1) (aCons (mVar 2) aNil)))) (gmName 4))
    (mSeq (mAsgO 5 (mDis1 (mVar 3) (mTup (aCons (mC (.int 0)) (aCons (mTup aNil) aNil)))))
    (mSeq (mAsg (mC (.bl true)) (gmName 6))
    (mSeq (mWhile (mTruth (mVar 6)) (mSeq (mAsg (mC (.bl false)) (gmName 6))
    (mFor (iSeq (mVar 4)) (gmTup 4 (gmCons (gmName 7) (gmCons (gmName 8) (gmCons (gmName 9) (gmCons (gmName 10) gmNil))))) (mIfS (mAnd (mTest (mInN false (mVar 7) 5)) (mOr (mTest (mInN true (mVar 8) 5)) (mTest (mOp gLt (mOp gAdd (mOp gIx (mDgetN 5 (mVar 7)) (mC (.int 0))) (mVar 9)) (mOp gIx (mDgetN 5 (mVar 8)) (mC (.int 0))))))) (mSeq (mAsg (mTup (aCons (mOp gAdd (mOp gIx (mDgetN 5 (mVar 7)) (mC (.int 0))) (mVar 9)) (aCons (mTup (aStar (mOp gIx (mDgetN 5 (mVar 7)) (mC (.int 1))) (aCons (mVar 10) aNil))) aNil))) (gmItemD 5 (mVar 8)))
    (mAsg (mC (.bl true)) (gmName 6))) mNx))) 1000)
    (mRetO 5)))))
def f_ways : Fn := runF 4 11 b_ways
abbrev s_least_used : Stmt := topS 20
abbrev n_least_used : List Str := ["graph", "weights", "node", "goal", "most", "used", "_", "ways", "arc"]
def b_least_used : M Fl := (mSeq (mAsg (mTup aNil) (gmName 5))
    (mSeq (mFor (iRange1 (aCons (mVar 4) aNil)) (gmName 6) (mSeq (mAsg (mCall f_ways (aCons (mVar 0) (aCons (mVar 1) (aCons (mVar 5) (aCons (mVar 2) aNil))))) (gmName 7))
    (mSeq (mIfS (mTest (mInN true (mVar 3) 7)) (mRet (mVar 5)) mNx)
    (mAsg (mCB gTuple (aCons (mLc (iSeq (mFldE "Graph" 1 (mVar 0))) (gmName 8) (mTest (mOp gNe (mOp gIn (mVar 8) (mVar 5)) (mOp gIn (mVar 8) (mOp gIx (mOp gDget (mVar 7) (mVar 3)) (mC (.int 1)))))) (mVar 8) [8]) aNil)) (gmName 5)))))
    (mRet (mVar 5))))
def f_least_used : Fn := runF 5 9 b_least_used
abbrev s_paths_of : Stmt := topS 21
abbrev n_paths_of : List Str := ["graph", "used", "node", "goal", "heads", "tail", "head", "place", "paths", "path"]
def b_paths_of : M Fl := (mSeq (mSetDcQ 4 (iSeq (mFldE "Graph" 0 (mVar 0))) (gmName 7) mYes (mVar 7) (mLc (iSeq (mVar 1)) (gmTup 2 (gmCons (gmName 5) (gmCons (gmName 6) gmNil))) (mTest (mOp gEq (mVar 5) (mVar 7))) (mVar 6) [5, 6]) [7])
    (mSeq (mAsgO 8 (mLst aNil))
    (mSeq (mWhile (mTruthQ 4 (mVar 2)) (mSeq (mAsgO 9 (mLst (aCons (mVar 2) aNil)))
    (mSeq (mWhile (mTest (mOp gNe (mIxO 9 (mUn gNeg (mC (.int 1)))) (mVar 3))) (mDrop (mMeth1 9 gApp (mMethQ0 4 (mIxO 9 (mUn gNeg (mC (.int 1)))) gPop))) 1000)
    (mDrop (mMeth1 8 gApp (mCB gTuple (aCons (mVar 9) aNil)))))) 1000)
    (mRet (mCB gTuple (aCons (mCB gSortA (aCons (mVar 8) aNil)) aNil))))))
def f_paths_of : Fn := runF 4 10 b_paths_of
abbrev s_disjoint_paths : Stmt := topS 22
abbrev n_disjoint_paths : List Str := ["graph", "node", "goal", "weights", "used", "reached", "cut", "tail", "head"]
def b_disjoint_paths : M Fl := (mSeq (mDrop (mCall f_check_graph (aCons (mVar 0) aNil)))
    (mSeq (mDrop (mCall f_check_node (aCons (mVar 0) (aCons (mVar 1) aNil))))
    (mSeq (mDrop (mCall f_check_node (aCons (mVar 0) (aCons (mVar 2) aNil))))
    (mSeq (mDrop (mCall f_check_unlike (aCons (mVar 1) (aCons (mVar 2) aNil))))
    (mSeq (mAsg (mOp gMulT (mTup (aCons (mC (.int 1)) aNil)) (mCB gLen (aCons (mFldE "Graph" 1 (mVar 0)) aNil))) (gmName 3))
    (mSeq (mAsg (mCall f_least_used (aCons (mVar 0) (aCons (mVar 3) (aCons (mVar 1) (aCons (mVar 2) (aCons (mCB gLen (aCons (mFldE "Graph" 0 (mVar 0)) aNil)) aNil)))))) (gmName 4))
    (mSeq (mAsg (mCall f_ways (aCons (mVar 0) (aCons (mVar 3) (aCons (mVar 4) (aCons (mVar 1) aNil))))) (gmName 5))
    (mSeq (mAsg (mLc (iSeq (mFldE "Graph" 1 (mVar 0))) (gmTup 2 (gmCons (gmName 7) (gmCons (gmName 8) gmNil))) (mAnd (mTest (mInN false (mVar 7) 5)) (mTest (mInN true (mVar 8) 5))) (mTup (aCons (mVar 7) (aCons (mVar 8) aNil))) [7, 8]) (gmName 6))
    (mRet (mTup (aCons (mCall f_paths_of (aCons (mVar 0) (aCons (mVar 4) (aCons (mVar 1) (aCons (mVar 2) aNil))))) (aCons (mCB gTuple (aCons (mVar 6) aNil)) aNil))))))))))))
def f_disjoint_paths : Fn := runF 3 9 b_disjoint_paths
abbrev s_law_taken : Stmt := topS 24
abbrev n_law_taken : List Str := ["row", "many", "found", "cell"]
def b_law_taken : M Fl := (mSeq (mIfS (mTest (mOp gGt (mIxO 0 (mC (.int 3))) (mC (.int 0)))) (mSeq (mAsg (mOp gMod (mCB gInt1 (aCons (mIxO 0 (mC (.int 3))) aNil)) (mVar 1)) (gmName 2))
    (mSeq (mAsg (mOp gDiv (mIxO 0 (mC (.int 3))) (mVar 1)) (gmItem 0 (mC (.int 3))))
    (mRet (mVar 2)))) mNx)
    (mSeq (mAsg (mOp gAdd (mIxO 0 (mC (.int 1))) (mC (.int 1))) (gmItem 0 (mC (.int 1))))
    (mSeq (mIfS (mTest (mOp gGt (mIxO 0 (mC (.int 1))) (mCB gLen (aCons (mIxO 0 (mC (.int 0))) aNil)))) (mSeq (mAsg (mOp gMod (mCB gInt1 (aCons (mOp gAdd (mOp gMul (mIxO 0 (mC (.int 2))) (mC (.int 48271))) (mC (.int 11))) aNil)) (mC (.int 2147483647))) (gmItem 0 (mC (.int 2))))
    (mRet (mOp gMod (mCB gInt1 (aCons (mOp gDiv (mIxO 0 (mC (.int 2))) (mC (.int 7))) aNil)) (mVar 1)))) mNx)
    (mSeq (mAsg (mOp gIx (mIxO 0 (mC (.int 0))) (mOp gMinus (mIxO 0 (mC (.int 1))) (mC (.int 1)))) (gmName 3))
    (mSeq (mAsg (mOp gMod (mCB gInt1 (aCons (mOp gAdd (mOp gAdd (mOp gMul (mIxO 0 (mC (.int 2))) (mC (.int 48271))) (mVar 3)) (mC (.int 11))) aNil)) (mC (.int 2147483647))) (gmItem 0 (mC (.int 2))))
    (mSeq (mIfS (mTest (mOp gGe (mVar 3) (mOp gPow (mC (.int 10)) (mC (.int 18))))) (mAsg (mOp gDiv (mVar 3) (mVar 1)) (gmItem 0 (mC (.int 3)))) mNx)
    (mRet (mOp gMod (mCB gInt1 (aCons (mVar 3) aNil)) (mVar 1)))))))))
def f_law_taken : Fn := runF 2 4 b_law_taken
abbrev s_law_pick : Stmt := topS 25
abbrev n_law_pick : List Str := ["row", "things"]
def b_law_pick : M Fl := (mRet (mOp gIx (mVar 1) (mCallO f_law_taken 0 0 (aOwn 0 (aCons (mCB gLen (aCons (mVar 1) aNil)) aNil)))))
def f_law_pick : Fn := runF 2 2 b_law_pick
abbrev s_law_arcs : Stmt := topS 26
abbrev n_law_arcs : List Str := ["row", "size", "dense", "found", "tail", "head"]
def b_law_arcs : M Fl := (mSeq (mAsgO 3 (mLst aNil))
    (mSeq (mFor (iRange1 (aCons (mVar 1) aNil)) (gmName 4) (mFor (iRange1 (aCons (mVar 1) aNil)) (gmName 5) (mIfS (mAnd (mTest (mOp gNe (mVar 4) (mVar 5))) (mTest (mOp gEq (mCallO f_law_taken 0 0 (aOwn 0 (aCons (mVar 2) aNil))) (mC (.int 0))))) (mDrop (mMeth1 3 gApp (mTup (aCons (mVar 4) (aCons (mVar 5) aNil))))) mNx)))
    (mRet (mCB gTuple (aCons (mVar 3) aNil)))))
def f_law_arcs : Fn := runF 3 6 b_law_arcs
abbrev s_law_graph : Stmt := topS 27
abbrev n_law_graph : List Str := ["row", "most", "size", "arcs", "top", "arc"]
def b_law_graph : M Fl := (mSeq (mAsg (mOp gAdd (mC (.int 2)) (mCallO f_law_taken 0 0 (aOwn 0 (aCons (mOp gMinus (mVar 1) (mC (.int 1))) aNil)))) (gmName 2))
    (mSeq (mPar2 3 false 4 false (psCons (mCallO f_law_arcs 0 0 (aOwn 0 (aCons (mVar 2) (aCons (mCallO f_law_pick 0 0 (aOwn 0 (aCons (mLst (aCons (mC (.int 1)) (aCons (mC (.int 2)) (aCons (mC (.int 2)) (aCons (mC (.int 3)) aNil))))) aNil))) aNil)))) (psCons (mCallO f_law_pick 0 0 (aOwn 0 (aCons (mLst (aCons (mC (.int 2)) (aCons (mC (.int 4)) (aCons (mC (.int 100)) aNil)))) aNil))) psNil)))
    (mRet (mTup (aCons (mVar 2) (aCons (mVar 3) (aCons (mCB gTuple (aCons (mLc (iSeq (mVar 3)) (gmName 5) mYes (mOp gAdd (mC (.int 1)) (mCallO f_law_taken 0 0 (aOwn 0 (aCons (mVar 4) aNil)))) [5]) aNil)) aNil)))))))
def f_law_graph : Fn := runF 2 6 b_law_graph
abbrev s_Graph_init : Stmt := inClass (topS 12) 0
abbrev n_Graph_init : List Str := ["self", "size", "arcs", "index", "arc"]
def b_Graph_init : M Fl := (mSeq (mIfS (mOr (mNot (mTest (mCall f_is_number (aCons (mVar 1) (aCons (mC (.int 1)) (aCons (mC (.int 8)) aNil)))))) (mNot (mTest (mCall f_is_tuple (aCons (mVar 2) (aCons (mC (.int 0)) (aCons (mC (.int 64)) aNil))))))) mSt mNx)
    (mSeq (mFor (iEnu (aCons (mVar 2) aNil)) (gmTup 2 (gmCons (gmName 3) (gmCons (gmName 4) gmNil))) (mIfS (mOr (mNot (mTest (mCall f_is_arc (aCons (mVar 1) (aCons (mVar 4) aNil))))) (mTest (mOp gIn (mVar 4) (mSl (mVar 2) oNone (oSome (mVar 3)))))) mSt mNx))
    (mSeq (mSetF "Graph" 0 0 (mTupRg (mVar 1)))
    (mSetF "Graph" 1 0 (mCB gTuple (aCons (mCB gSortA (aCons (mVar 2) aNil)) aNil))))))
def f_Graph_init : Fn := runF 3 5 b_Graph_init
abbrev s_law : Stmt := topS 28
abbrev n_law : List Str := ["script", "row", "turn", "size", "arcs", "weights", "node", "goal", "paths", "cut", "arc", "used", "path", "steps", "at", "left", "met", "spot", "here", "tail", "head"]
def b_law : M Fl := (mSeq (mAsgO 1 (mLst (aCons (mVar 0) (aCons (mC (.int 0)) (aCons (mC (.int 3595)) (aCons (mC (.int 0)) aNil))))))
    (mSeq (mFor (iRange1 (aCons (mC (.int 3)) aNil)) (gmName 2) (mSeq (mAsg (mCallO f_law_graph 1 0 (aOwn 1 (aCons (mC (.int 7)) aNil))) (gmTup 3 (gmCons (gmName 3) (gmCons (gmName 4) (gmCons (gmName 5) gmNil)))))
    (mSeq (mPar2 6 false 7 false (psCons (mCallO f_law_taken 1 0 (aOwn 1 (aCons (mVar 3) aNil))) (psCons (mCallO f_law_taken 1 0 (aOwn 1 (aCons (mVar 3) aNil))) psNil)))
    (mIfS (mTest (mOp gNe (mVar 6) (mVar 7))) (mSeq (mAsg (mCall f_disjoint_paths (aCons (mMake "Graph" 2 f_Graph_init (aCons (mVar 3) (aCons (mVar 4) aNil))) (aCons (mVar 6) (aCons (mVar 7) aNil)))) (gmTup 2 (gmCons (gmName 8) (gmCons (gmName 9) gmNil))))
    (mSeq (mIfS (mOr (mNot (mTest (mCB gIsi (aCons (mVar 8) (aCons (mC (.ty "tuple")) aNil))))) (mOr (mTest (mOp gNe (mCB gList (aCons (mVar 8) aNil)) (mCB gSortA (aCons (mVar 8) aNil)))) (mOr (mTest (mOp gNe (mCB gLen (aCons (mVar 8) aNil)) (mCB gLen (aCons (mVar 9) aNil)))) (mTest (mOp gNe (mLc (iSeq (mVar 9)) (gmName 10) (mTest (mOp gNotIn (mVar 10) (mVar 4))) (mVar 10) [10]) (mLst aNil)))))) (mRet (mC (.bl false))) mNx)
    (mSeq (mAsg (mLst aNil) (gmName 11))
    (mSeq (mFor (iSeq (mVar 8)) (gmName 12) (mSeq (mAsg (mLc (iRange1 (aCons (mOp gMinus (mCB gLen (aCons (mVar 12) aNil)) (mC (.int 1))) aNil)) (gmName 14) mYes (mSl (mVar 12) (oSome (mVar 14)) (oSome (mOp gAdd (mVar 14) (mC (.int 2))))) [14]) (gmName 13))
    (mSeq (mIfS (mOr (mTest (mOp gNe (mOp gIx (mVar 12) (mC (.int 0))) (mVar 6))) (mOr (mTest (mOp gNe (mOp gIx (mVar 12) (mUn gNeg (mC (.int 1)))) (mVar 7))) (mOr (mTest (mOp gNe (mUn gSetL (mVar 12)) (mCB gLen (aCons (mVar 12) aNil)))) (mTest (mOp gNe (mLc (iSeq (mVar 13)) (gmName 10) (mOr (mTest (mOp gNotIn (mVar 10) (mVar 4))) (mTest (mOp gIn (mVar 10) (mVar 11)))) (mVar 10) [10]) (mLst aNil)))))) (mRet (mC (.bl false))) mNx)
    (mAsg (mOp gAdd (mVar 11) (mVar 13)) (gmName 11)))))
    (mSeq (mPar2 15 false 16 true (psCons (mLc (iSeq (mVar 4)) (gmName 10) (mTest (mOp gNotIn (mVar 10) (mVar 9))) (mVar 10) [10]) (psCons (mLst (aCons (mVar 6) aNil)) psNil)))
    (mSeq (mAsg (mC (.int 0)) (gmName 17))
    (mSeq (mWhile (mTest (mOp gLt (mVar 17) (mLenO 16))) (mSeq (mPar2 18 false 17 false (psCons (mIxO 16 (mVar 17)) (psCons (mOp gAdd (mVar 17) (mC (.int 1))) psNil)))
    (mFor (iSeq (mVar 15)) (gmTup 2 (gmCons (gmName 19) (gmCons (gmName 20) gmNil))) (mIfS (mAnd (mTest (mOp gEq (mVar 19) (mVar 18))) (mTest (mOpR gNotIn (mVar 20) 16))) (mDrop (mMeth1 16 gApp (mVar 20))) mNx))) 1000)
    (mIfS (mTest (mOpR gIn (mVar 7) 16)) (mRet (mC (.bl false))) mNx)))))))) mNx))))
    (mRet (mC (.bl true)))))
def f_law : Fn := runF 1 21 b_law
end Fx.K95
/-! the defs of routeweb_k95_whole_disjoint_paths keep their denotations -/
namespace Fx.K95
open PySem PySem.Spec PyProof.Rows L2
open C8 (Cal Mak pe_c pe_mk)
open LamX (Tabs TabS TabB ExtN CodeO codeO_ne)
theorem sc_is_number : FnScope n_is_number ["value", "low", "high"] (defScope s_is_number) := ⟨rfl, rfl, rfl, by decide +kernel, rfl, by decide +kernel, by decide +kernel⟩
theorem sc_is_tuple : FnScope n_is_tuple ["value", "least", "most"] (defScope s_is_tuple) := ⟨rfl, rfl, rfl, by decide +kernel, rfl, by decide +kernel, by decide +kernel⟩
theorem sc_are_numbers : FnScope n_are_numbers ["value", "low", "high"] (defScope s_are_numbers) := ⟨rfl, rfl, rfl, by decide +kernel, rfl, by decide +kernel, by decide +kernel⟩
theorem sc_is_arc : FnScope n_is_arc ["size", "value"] (defScope s_is_arc) := ⟨rfl, rfl, rfl, by decide +kernel, rfl, by decide +kernel, by decide +kernel⟩
theorem sc_check_graph : FnScope n_check_graph ["graph"] (defScope s_check_graph) := ⟨rfl, rfl, rfl, by decide +kernel, rfl, by decide +kernel, by decide +kernel⟩
theorem sc_check_node : FnScope n_check_node ["graph", "node"] (defScope s_check_node) := ⟨rfl, rfl, rfl, by decide +kernel, rfl, by decide +kernel, by decide +kernel⟩
theorem sc_check_unlike : FnScope n_check_unlike ["node", "goal"] (defScope s_check_unlike) := ⟨rfl, rfl, rfl, by decide +kernel, rfl, by decide +kernel, by decide +kernel⟩
theorem sc_moves : FnScope n_moves ["graph", "weights", "used"] (defScope s_moves) := ⟨rfl, rfl, rfl, by decide +kernel, rfl, by decide +kernel, by decide +kernel⟩
theorem sc_ways : FnScope n_ways ["graph", "weights", "used", "node"] (defScope s_ways) := ⟨rfl, rfl, rfl, by decide +kernel, rfl, by decide +kernel, by decide +kernel⟩
theorem sc_least_used : FnScope n_least_used ["graph", "weights", "node", "goal", "most"] (defScope s_least_used) := ⟨rfl, rfl, rfl, by decide +kernel, rfl, by decide +kernel, by decide +kernel⟩
theorem sc_paths_of : FnScope n_paths_of ["graph", "used", "node", "goal"] (defScope s_paths_of) := ⟨rfl, rfl, rfl, by decide +kernel, rfl, by decide +kernel, by decide +kernel⟩
theorem sc_disjoint_paths : FnScope n_disjoint_paths ["graph", "node", "goal"] (defScope s_disjoint_paths) := ⟨rfl, rfl, rfl, by decide +kernel, rfl, by decide +kernel, by decide +kernel⟩
theorem sc_law_taken : FnScope n_law_taken ["row", "many"] (defScope s_law_taken) := ⟨rfl, rfl, rfl, by decide +kernel, rfl, by decide +kernel, by decide +kernel⟩
theorem sc_law_pick : FnScope n_law_pick ["row", "things"] (defScope s_law_pick) := ⟨rfl, rfl, rfl, by decide +kernel, rfl, by decide +kernel, by decide +kernel⟩
theorem sc_law_arcs : FnScope n_law_arcs ["row", "size", "dense"] (defScope s_law_arcs) := ⟨rfl, rfl, rfl, by decide +kernel, rfl, by decide +kernel, by decide +kernel⟩
theorem sc_law_graph : FnScope n_law_graph ["row", "most"] (defScope s_law_graph) := ⟨rfl, rfl, rfl, by decide +kernel, rfl, by decide +kernel, by decide +kernel⟩
theorem sc_Graph_init : FnScope n_Graph_init ["self", "size", "arcs"] (defScope s_Graph_init) := ⟨rfl, rfl, rfl, by decide +kernel, rfl, by decide +kernel, by decide +kernel⟩
theorem sc_law : FnScope n_law ["script"] (defScope s_law) := ⟨rfl, rfl, rfl, by decide +kernel, rfl, by decide +kernel, by decide +kernel⟩
/-- what the text tells -/
structure Tx (P : Program) (w : World) (c : Cfg) (mg : Str → Option Value) (base : Heap) : Prop where
  b_all : mg "all" = none
  b_bool : mg "bool" = none
  b_enumerate : mg "enumerate" = none
  b_int : mg "int" = none
  b_isinstance : mg "isinstance" = none
  b_len : mg "len" = none
  b_list : mg "list" = none
  b_range : mg "range" = none
  b_set : mg "set" = none
  b_sorted : mg "sorted" = none
  b_tuple : mg "tuple" = none
  b_zip : mg "zip" = none
  w_ : w = c.w
  c_MOST_ARCS : ∃ t, mg "MOST_ARCS" = some (Value.int 64 t)
  c_MOST_NODES : ∃ t, mg "MOST_NODES" = some (Value.int 8 t)
  f_Graph_nodes : FldOk c "Graph" "_nodes" 0
  f_Graph_arcs : FldOk c "Graph" "_arcs" 1
  l_Graph : (c.flds "Graph").length ≤ 100
  n_Graph : (c.flds "Graph").length = 2
  i_Graph : ClsOk c "Graph"
  g_Graph : mg "Graph" = some (.ref (c.cls "Graph"))
  p_Graph_nodes : Prp P w c mg base 1 "Graph" "nodes" "_nodes" 0
  p_Graph_arcs : Prp P w c mg base 1 "Graph" "arcs" "_arcs" 1
section
variable {P : Program} {w : World} {c : Cfg} {mg : Str → Option Value} {base : Heap}
theorem ok_is_number {f : Addr} {fd : FuncData} (T : Tx P w c mg base) (F : Fun c.K "is_number" "is_number" s_is_number f fd)  : FnOk P w c.K mg base L2.CX0 1 f fd ["value", "low", "high"] (spF c f_is_number) := by
  exact fn_den (k := 0) (N := n_is_number) (ps := ["value", "low", "high"]) (body := b_is_number) F sc_is_number fun cdv A outer s H E hr => QSs.out (by exact (ss_one (s_ret (q_and (q_blt b_isi T.b_isinstance (a_cons (qv 0) (a_cons (qty T.b_int) a_nil))) (q_and (q_not (q_blt b_isi T.b_isinstance (a_cons (qv 0) (a_cons (qty T.b_bool) a_nil)))) (q_one (q_chain (r_le) (r_le) (qv 1) (qv 0) (qv 2))))))))
theorem ok_is_tuple {f : Addr} {fd : FuncData} (T : Tx P w c mg base) (F : Fun c.K "is_tuple" "is_tuple" s_is_tuple f fd)  : FnOk P w c.K mg base L2.CX0 1 f fd ["value", "least", "most"] (spF c f_is_tuple) := by
  exact fn_den (k := 0) (N := n_is_tuple) (ps := ["value", "least", "most"]) (body := b_is_tuple) F sc_is_tuple fun cdv A outer s H E hr => QSs.out (by exact (ss_one (s_ret (q_and (q_blt b_isi T.b_isinstance (a_cons (qv 0) (a_cons (qty T.b_tuple) a_nil))) (q_one (q_chain (r_le) (r_le) (qv 1) (q_blt b_len T.b_len (a_cons (qv 0) a_nil)) (qv 2)))))))
theorem ok_are_numbers {f : Addr} {fd : FuncData} (T : Tx P w c mg base) (F : Fun c.K "are_numbers" "are_numbers" s_are_numbers f fd) (C_is_number : Cal P w c.K mg base 1 "is_number" (spF c f_is_number) []) : FnOk P w c.K mg base L2.CX0 2 f fd ["value", "low", "high"] (spF c f_are_numbers) := by
  exact fn_den (k := 1) (N := n_are_numbers) (ps := ["value", "low", "high"]) (body := b_are_numbers) F sc_are_numbers fun cdv A outer s H E hr => QSs.out (by exact (ss_one (s_ret (q_and (q_blt b_isi T.b_isinstance (a_cons (qv 0) (a_cons (qty T.b_tuple) a_nil))) (q_one (q_blt b_all T.b_all (a_cons (q_lc (own := [("item", 3)]) sc_are_numbers.nd (i_seq (qv 0)) (blkOk_by (own := [("item", 3)]) (N := n_are_numbers) (sc := defScope s_are_numbers) (by decide +kernel)) (fun _ _ _ _ _ => (by exact (g_name 3 sc_are_numbers.nd))) (fun _ _ _ _ _ => (by exact ts_nil)) (fun _ _ _ _ _ => (by exact (q_call C_is_number hr (by omega) (a_cons (qv 3) (a_cons (qv 1) (a_cons (qv 2) a_nil))))))) a_nil)))))))
theorem ok_is_arc {f : Addr} {fd : FuncData} (T : Tx P w c mg base) (F : Fun c.K "_is_arc" "_is_arc" s_is_arc f fd) (C_are_numbers : Cal P w c.K mg base 2 "are_numbers" (spF c f_are_numbers) []) : FnOk P w c.K mg base L2.CX0 3 f fd ["size", "value"] (spF c f_is_arc) := by
  exact fn_den (k := 2) (N := n_is_arc) (ps := ["size", "value"]) (body := b_is_arc) F sc_is_arc fun cdv A outer s H E hr => QSs.out (by exact (ss_one (s_ret (q_and (q_call C_are_numbers hr (by omega) (a_cons (qv 1) (a_cons (qint) (a_cons (q_sub (qv 0) (qint)) a_nil)))) (q_and (q_cmp (r_eq hr) (q_blt b_len T.b_len (a_cons (qv 1) a_nil)) (qint)) (q_one (q_cmp (r_ne hr) (q_ix (qv 1) (qint)) (q_ix (qv 1) (qint)))))))))
theorem ok_check_graph {f : Addr} {fd : FuncData} (T : Tx P w c mg base) (F : Fun c.K "check_graph" "check_graph" s_check_graph f fd)  : FnOk P w c.K mg base L2.CX0 1 f fd ["graph"] (spF c f_check_graph) := by
  exact fn_den (k := 0) (N := n_check_graph) (ps := ["graph"]) (body := b_check_graph) F sc_check_graph fun cdv A outer s H E hr => QSs.out (by exact (ss_one (s_if (t_not (t_val (q_isC "Graph" T.i_Graph T.g_Graph T.b_isinstance (qv 0)))) ss_never ss_nil)))
theorem ok_check_node {f : Addr} {fd : FuncData} (T : Tx P w c mg base) (F : Fun c.K "check_node" "check_node" s_check_node f fd) (C_is_number : Cal P w c.K mg base 1 "is_number" (spF c f_is_number) []) : FnOk P w c.K mg base L2.CX0 3 f fd ["graph", "node"] (spF c f_check_node) := by
  exact fn_den (k := 2) (N := n_check_node) (ps := ["graph", "node"]) (body := b_check_node) F sc_check_node fun cdv A outer s H E hr => QSs.out (by exact (ss_one (s_if (t_not (t_val (q_call C_is_number hr (by omega) (a_cons (qv 1) (a_cons (qint) (a_cons (q_sub (q_blt b_len T.b_len (a_cons (q_pr T.p_Graph_nodes hr (by omega) (qv 0)) a_nil)) (qint)) a_nil)))))) ss_never ss_nil)))
theorem ok_check_unlike {f : Addr} {fd : FuncData} (T : Tx P w c mg base) (F : Fun c.K "_check_unlike" "_check_unlike" s_check_unlike f fd)  : FnOk P w c.K mg base L2.CX0 1 f fd ["node", "goal"] (spF c f_check_unlike) := by
  exact fn_den (k := 0) (N := n_check_unlike) (ps := ["node", "goal"]) (body := b_check_unlike) F sc_check_unlike fun cdv A outer s H E hr => QSs.out (by exact (ss_one (s_if (t_cmp (r_eq hr) (qv 0) (qv 1)) ss_never ss_nil)))
theorem ok_moves {f : Addr} {fd : FuncData} (T : Tx P w c mg base) (F : Fun c.K "_moves" "_moves" s_moves f fd)  : FnOk P w c.K mg base L2.CX0 3 f fd ["graph", "weights", "used"] (spF c f_moves) := by
  exact fn_den (k := 2) (N := n_moves) (ps := ["graph", "weights", "used"]) (body := b_moves) F sc_moves fun cdv A outer s H E hr => QSs.out (by exact (ss_cons (s_setO 3 sc_moves.nd (q_lst a_nil))
      (ss_cons (s_for PassesOwn.never (i_zip T.b_zip (a_cons (q_pr T.p_Graph_arcs hr (by omega) (qv 0)) (a_cons (qv 1) a_nil))) (g_tup 2 (gs_cons (g_tup 2 (gs_cons (g_name 4 sc_moves.nd) (gs_cons (g_name 5 sc_moves.nd) gs_nil))) (gs_cons (g_name 6 sc_moves.nd) gs_nil))) (ss_one (s_if (t_cmp (r_in hr) (q_tup (a_cons (qv 4) (a_cons (qv 5) a_nil))) (qv 2) (by with_unfolding_all rfl)) (ss_one (s_expr (q_append 3 (q_tup (a_cons (qv 5) (a_cons (qv 4) (a_cons (q_neg (qv 6)) (a_cons (q_tup (a_cons (qv 4) (a_cons (qv 5) a_nil))) a_nil)))))))) (ss_one (s_expr (q_append 3 (q_tup (a_cons (qv 4) (a_cons (qv 5) (a_cons (qv 6) (a_cons (q_tup (a_cons (qv 4) (a_cons (qv 5) a_nil))) a_nil)))))))))))
      (ss_one (s_retO 3)))))
theorem ok_ways {f : Addr} {fd : FuncData} (T : Tx P w c mg base) (F : Fun c.K "_ways" "_ways" s_ways f fd) (C_moves : Cal P w c.K mg base 3 "_moves" (spF c f_moves) []) : FnOk P w c.K mg base L2.CX0 4 f fd ["graph", "weights", "used", "node"] (spF c f_ways) := by
  exact fn_den (k := 3) (N := n_ways) (ps := ["graph", "weights", "used", "node"]) (body := b_ways) F sc_ways fun cdv A outer s H E hr => QSs.out (by exact (ss_cons (s_set 4 sc_ways.nd (q_call C_moves hr (by omega) (a_cons (qv 0) (a_cons (qv 1) (a_cons (qv 2) a_nil)))))
      (ss_cons (s_setO 5 sc_ways.nd (q_dis1 hr T.w_ (qv 3) (q_tup (a_cons (qint) (a_cons (q_tup a_nil) a_nil)))))
      (ss_cons (s_set 6 sc_ways.nd (qbl))
      (ss_cons (s_while 1000 PassesOwn.never (t_tru (qv 6)) (ss_cons (s_set 6 sc_ways.nd (qbl))
      (ss_one (s_for PassesOwn.never (i_seq (qv 4)) (g_tup 4 (gs_cons (g_name 7 sc_ways.nd) (gs_cons (g_name 8 sc_ways.nd) (gs_cons (g_name 9 sc_ways.nd) (gs_cons (g_name 10 sc_ways.nd) gs_nil))))) (ss_one (s_if (QW.t (w_and (t_inN 5 hr T.w_ (qv 7)) (w_and1 (QW.t (w_or (t_ninN 5 hr T.w_ (qv 8)) (w_or1 (t_cmp (r_lt) (q_add (q_ix (q_dgetN 5 hr T.w_ (qv 7)) (qint)) (qv 9)) (q_ix (q_dgetN 5 hr T.w_ (qv 8)) (qint))))))))) (ss_cons (s_asg (q_tup (a_cons (q_add (q_ix (q_dgetN 5 hr T.w_ (qv 7)) (qint)) (qv 9)) (a_cons (q_tup (a_star (q_ix (q_dgetN 5 hr T.w_ (qv 7)) (qint)) (a_cons (qv 10) a_nil))) a_nil))) (g_itemD 5 hr T.w_ (qv 8)))
      (ss_one (s_set 6 sc_ways.nd (qbl)))) ss_nil))))))
      (ss_one (s_retO 5)))))))
theorem ok_least_used {f : Addr} {fd : FuncData} (T : Tx P w c mg base) (F : Fun c.K "_least_used" "_least_used" s_least_used f fd) (C_ways : Cal P w c.K mg base 4 "_ways" (spF c f_ways) []) : FnOk P w c.K mg base L2.CX0 5 f fd ["graph", "weights", "node", "goal", "most"] (spF c f_least_used) := by
  exact fn_den (k := 4) (N := n_least_used) (ps := ["graph", "weights", "node", "goal", "most"]) (body := b_least_used) F sc_least_used fun cdv A outer s H E hr => QSs.out (by exact (ss_cons (s_set 5 sc_least_used.nd (q_tup a_nil))
      (ss_cons (s_for PassesOwn.never (i_range1 T.b_range (a_cons (qv 4) a_nil)) (g_name 6 sc_least_used.nd) (ss_cons (s_set 7 sc_least_used.nd (q_call C_ways hr (by omega) (a_cons (qv 0) (a_cons (qv 1) (a_cons (qv 5) (a_cons (qv 2) a_nil))))))
      (ss_cons (s_if (t_ninN 7 hr T.w_ (qv 3)) (ss_one (s_ret (qv 5))) ss_nil)
      (ss_one (s_set 5 sc_least_used.nd (q_blt b_tuple T.b_tuple (a_cons (q_lc (own := [("arc", 8)]) sc_least_used.nd (i_seq (q_pr T.p_Graph_arcs hr (by omega) (qv 0))) (blkOk_by (own := [("arc", 8)]) (N := n_least_used) (sc := defScope s_least_used) (by decide +kernel)) (fun _ _ _ _ _ => (by exact (g_name 8 sc_least_used.nd))) (fun _ _ _ _ _ => (by exact (ts_one (t_cmp (r_ne hr) (q_cmp (r_in hr) (qv 8) (qv 5) (by with_unfolding_all rfl)) (q_cmp (r_in hr) (qv 8) (q_ix (q_dget hr T.w_ (qv 7) (qv 3)) (qint)) (by with_unfolding_all rfl)))))) (fun _ _ _ _ _ => (by exact (qv 8)))) a_nil)))))))
      (ss_one (s_ret (qv 5))))))
theorem ok_paths_of {f : Addr} {fd : FuncData} (T : Tx P w c mg base) (F : Fun c.K "_paths_of" "_paths_of" s_paths_of f fd)  : FnOk P w c.K mg base L2.CX0 3 f fd ["graph", "used", "node", "goal"] (spF c f_paths_of) := by
  exact fn_den (k := 2) (N := n_paths_of) (ps := ["graph", "used", "node", "goal"]) (body := b_paths_of) F sc_paths_of fun cdv A outer s H E hr => QSs.out (by exact (ss_cons (s_setDcQ (own := [("place", 7)]) 4 sc_paths_of.nd (i_seq (q_pr T.p_Graph_nodes hr (by omega) (qv 0))) (blkOk_by (own := [("place", 7)]) (N := n_paths_of) (sc := defScope s_paths_of) (by decide +kernel)) (fun _ _ _ _ _ => (by exact (g_name 7 sc_paths_of.nd))) (fun _ _ _ _ _ => (by exact ts_nil)) (fun _ _ _ _ _ => (by exact (qv 7))) (fun _ _ _ _ _ => (by exact (q_lc (own := [("tail", 5), ("head", 6)]) sc_paths_of.nd (i_seq (qv 1)) (blkOk_by (own := [("tail", 5), ("head", 6)]) (N := n_paths_of) (by first | kernel_rfl | rfl | with_unfolding_all rfl)) (fun _ _ _ _ _ => (by exact (g_tup 2 (gs_cons (g_name 5 sc_paths_of.nd) (gs_cons (g_name 6 sc_paths_of.nd) gs_nil))))) (fun _ _ _ _ _ => (by exact (ts_one (t_cmp (r_eq hr) (qv 5) (qv 7))))) (fun _ _ _ _ _ => (by exact (qv 6)))))) (hw := swD rfl rfl rfl (by decide +kernel)))
      (ss_cons (s_setO 8 sc_paths_of.nd (q_lst a_nil))
      (ss_cons (s_while 1000 PassesOwn.never (t_truQ 4 hr (qv 2)) (ss_cons (s_setO 9 sc_paths_of.nd (q_lst (a_cons (qv 2) a_nil)))
      (ss_cons (s_while 1000 PassesOwn.never (t_cmp (r_ne hr) (q_ixO 9 (q_neg (qint))) (qv 3)) (ss_one (s_expr (q_append 9 (q_popQ 4 hr (q_ixO 9 (q_neg (qint))))))))
      (ss_one (s_expr (q_append 8 (q_blt b_tuple T.b_tuple (a_cons (qv 9) a_nil))))))))
      (ss_one (s_ret (q_blt b_tuple T.b_tuple (a_cons (q_blt b_sortA T.b_sorted (a_cons (qv 8) a_nil)) a_nil))))))))
theorem ok_disjoint_paths {f : Addr} {fd : FuncData} (T : Tx P w c mg base) (F : Fun c.K "disjoint_paths" "disjoint_paths" s_disjoint_paths f fd) (C_check_graph : Cal P w c.K mg base 1 "check_graph" (spF c f_check_graph) []) (C_check_node : Cal P w c.K mg base 3 "check_node" (spF c f_check_node) []) (C_check_unlike : Cal P w c.K mg base 1 "_check_unlike" (spF c f_check_unlike) []) (C_ways : Cal P w c.K mg base 4 "_ways" (spF c f_ways) []) (C_least_used : Cal P w c.K mg base 5 "_least_used" (spF c f_least_used) []) (C_paths_of : Cal P w c.K mg base 3 "_paths_of" (spF c f_paths_of) []) : FnOk P w c.K mg base L2.CX0 6 f fd ["graph", "node", "goal"] (spF c f_disjoint_paths) := by
  exact fn_den (k := 5) (N := n_disjoint_paths) (ps := ["graph", "node", "goal"]) (body := b_disjoint_paths) F sc_disjoint_paths fun cdv A outer s H E hr => QSs.out (by exact (ss_cons (s_expr (q_call C_check_graph hr (by omega) (a_cons (qv 0) a_nil)))
      (ss_cons (s_expr (q_call C_check_node hr (by omega) (a_cons (qv 0) (a_cons (qv 1) a_nil))))
      (ss_cons (s_expr (q_call C_check_node hr (by omega) (a_cons (qv 0) (a_cons (qv 2) a_nil))))
      (ss_cons (s_expr (q_call C_check_unlike hr (by omega) (a_cons (qv 1) (a_cons (qv 2) a_nil))))
      (ss_cons (s_set 3 sc_disjoint_paths.nd (q_mulT (q_tup (a_cons (qint) a_nil)) (q_blt b_len T.b_len (a_cons (q_pr T.p_Graph_arcs hr (by omega) (qv 0)) a_nil))))
      (ss_cons (s_set 4 sc_disjoint_paths.nd (q_call C_least_used hr (by omega) (a_cons (qv 0) (a_cons (qv 3) (a_cons (qv 1) (a_cons (qv 2) (a_cons (q_blt b_len T.b_len (a_cons (q_pr T.p_Graph_nodes hr (by omega) (qv 0)) a_nil)) a_nil)))))))
      (ss_cons (s_set 5 sc_disjoint_paths.nd (q_call C_ways hr (by omega) (a_cons (qv 0) (a_cons (qv 3) (a_cons (qv 4) (a_cons (qv 1) a_nil))))))
      (ss_cons (s_setLc (own := [("tail", 7), ("head", 8)]) 6 sc_disjoint_paths.nd (i_seq (q_pr T.p_Graph_arcs hr (by omega) (qv 0))) (blkOk_by (own := [("tail", 7), ("head", 8)]) (N := n_disjoint_paths) (sc := defScope s_disjoint_paths) (by decide +kernel)) (fun _ _ _ _ _ => (by exact (g_tup 2 (gs_cons (g_name 7 sc_disjoint_paths.nd) (gs_cons (g_name 8 sc_disjoint_paths.nd) gs_nil))))) (fun _ _ _ _ _ => (by exact (ts_one (QW.t (w_and (t_inN 5 hr T.w_ (qv 7)) (w_and1 (t_ninN 5 hr T.w_ (qv 8)))))))) (fun _ _ _ _ _ => (by exact (q_tup (a_cons (qv 7) (a_cons (qv 8) a_nil))))) (hw := sw_true rfl rfl rfl (by decide +kernel)))
      (ss_one (s_ret (q_tup (a_cons (q_call C_paths_of hr (by omega) (a_cons (qv 0) (a_cons (qv 4) (a_cons (qv 1) (a_cons (qv 2) a_nil))))) (a_cons (q_blt b_tuple T.b_tuple (a_cons (qv 6) a_nil)) a_nil))))))))))))))
theorem ok_law_taken {f : Addr} {fd : FuncData} (T : Tx P w c mg base) (F : Fun c.K "_law_taken" "_law_taken" s_law_taken f fd)  : FnOk P w c.K mg base L2.CX0 1 f fd ["row", "many"] (spF c f_law_taken) := by
  exact fn_den (k := 0) (N := n_law_taken) (ps := ["row", "many"]) (body := b_law_taken) F sc_law_taken fun cdv A outer s H E hr => QSs.out (by exact (ss_cons (s_if (t_cmp (r_gt) (q_ixO 0 (qint)) (qint)) (ss_cons (s_set 2 sc_law_taken.nd (q_mod (q_blt b_int T.b_int (a_cons (q_ixO 0 (qint)) a_nil)) (qv 1)))
      (ss_cons (s_asg (q_fdiv (q_ixO 0 (qint)) (qv 1)) (g_item 0 (qint)))
      (ss_one (s_ret (qv 2))))) ss_nil)
      (ss_cons (s_asg (q_add (q_ixO 0 (qint)) (qint)) (g_item 0 (qint)))
      (ss_cons (s_if (t_cmp (r_gt) (q_ixO 0 (qint)) (q_blt b_len T.b_len (a_cons (q_ixO 0 (qint)) a_nil))) (ss_cons (s_asg (q_mod (q_blt b_int T.b_int (a_cons (q_add (q_mul (q_ixO 0 (qint)) (qint)) (qint)) a_nil)) (qint)) (g_item 0 (qint)))
      (ss_one (s_ret (q_mod (q_blt b_int T.b_int (a_cons (q_fdiv (q_ixO 0 (qint)) (qint)) a_nil)) (qv 1))))) ss_nil)
      (ss_cons (s_set 3 sc_law_taken.nd (q_ix (q_ixO 0 (qint)) (q_sub (q_ixO 0 (qint)) (qint))))
      (ss_cons (s_asg (q_mod (q_blt b_int T.b_int (a_cons (q_add (q_add (q_mul (q_ixO 0 (qint)) (qint)) (qv 3)) (qint)) a_nil)) (qint)) (g_item 0 (qint)))
      (ss_cons (s_if (t_cmp (r_ge) (qv 3) (q_pow (qint) (qint))) (ss_one (s_asg (q_fdiv (qv 3) (qv 1)) (g_item 0 (qint)))) ss_nil)
      (ss_one (s_ret (q_mod (q_blt b_int T.b_int (a_cons (qv 3) a_nil)) (qv 1)))))))))))
theorem ok_law_pick {f : Addr} {fd : FuncData} (T : Tx P w c mg base) (F : Fun c.K "_law_pick" "_law_pick" s_law_pick f fd) (C_law_taken : Cal P w c.K mg base 1 "_law_taken" (spF c f_law_taken) []) : FnOk P w c.K mg base L2.CX0 2 f fd ["row", "things"] (spF c f_law_pick) := by
  exact fn_den (k := 1) (N := n_law_pick) (ps := ["row", "things"]) (body := b_law_pick) F sc_law_pick fun cdv A outer s H E hr => QSs.out (by exact (ss_one (s_ret (q_ix (qv 1) (q_callO C_law_taken hr (by omega) (c_own 0 (a_cons (q_blt b_len T.b_len (a_cons (qv 1) a_nil)) a_nil)))))))
theorem ok_law_arcs {f : Addr} {fd : FuncData} (T : Tx P w c mg base) (F : Fun c.K "_law_arcs" "_law_arcs" s_law_arcs f fd) (C_law_taken : Cal P w c.K mg base 1 "_law_taken" (spF c f_law_taken) []) : FnOk P w c.K mg base L2.CX0 2 f fd ["row", "size", "dense"] (spF c f_law_arcs) := by
  exact fn_den (k := 1) (N := n_law_arcs) (ps := ["row", "size", "dense"]) (body := b_law_arcs) F sc_law_arcs fun cdv A outer s H E hr => QSs.out (by exact (ss_cons (s_setO 3 sc_law_arcs.nd (q_lst a_nil))
      (ss_cons (s_for PassesOwn.never (i_range1 T.b_range (a_cons (qv 1) a_nil)) (g_name 4 sc_law_arcs.nd) (ss_one (s_for PassesOwn.never (i_range1 T.b_range (a_cons (qv 1) a_nil)) (g_name 5 sc_law_arcs.nd) (ss_one (s_if (QW.t (w_and (t_cmp (r_ne hr) (qv 4) (qv 5)) (w_and1 (t_cmp (r_eq hr) (q_callO C_law_taken hr (by omega) (c_own 0 (a_cons (qv 2) a_nil))) (qint))))) (ss_one (s_expr (q_append 3 (q_tup (a_cons (qv 4) (a_cons (qv 5) a_nil)))))) ss_nil)))))
      (ss_one (s_ret (q_blt b_tuple T.b_tuple (a_cons (qv 3) a_nil)))))))
theorem ok_law_graph {f : Addr} {fd : FuncData} (T : Tx P w c mg base) (F : Fun c.K "_law_graph" "_law_graph" s_law_graph f fd) (C_law_taken : Cal P w c.K mg base 1 "_law_taken" (spF c f_law_taken) []) (C_law_pick : Cal P w c.K mg base 2 "_law_pick" (spF c f_law_pick) []) (C_law_arcs : Cal P w c.K mg base 2 "_law_arcs" (spF c f_law_arcs) []) : FnOk P w c.K mg base L2.CX0 3 f fd ["row", "most"] (spF c f_law_graph) := by
  exact fn_den (k := 2) (N := n_law_graph) (ps := ["row", "most"]) (body := b_law_graph) F sc_law_graph fun cdv A outer s H E hr => QSs.out (by exact (ss_cons (s_set 2 sc_law_graph.nd (q_add (qint) (q_callO C_law_taken hr (by omega) (c_own 0 (a_cons (q_sub (qv 1) (qint)) a_nil)))))
      (ss_cons (s_parT2 3 false 4 false sc_law_graph.nd (ps_cons (q_callO C_law_arcs hr (by omega) (c_own 0 (a_cons (qv 2) (a_cons (q_callO C_law_pick hr (by omega) (c_own 0 (a_cons (q_lst (a_cons (qint) (a_cons (qint) (a_cons (qint) (a_cons (qint) a_nil))))) a_nil))) a_nil)))) (ps_cons (q_callO C_law_pick hr (by omega) (c_own 0 (a_cons (q_lst (a_cons (qint) (a_cons (qint) (a_cons (qint) a_nil)))) a_nil))) ps_nil)))
      (ss_one (s_ret (q_tup (a_cons (qv 2) (a_cons (qv 3) (a_cons (q_blt b_tuple T.b_tuple (a_cons (q_lc (own := [("arc", 5)]) sc_law_graph.nd (i_seq (qv 3)) (blkOk_by (own := [("arc", 5)]) (N := n_law_graph) (sc := defScope s_law_graph) (by decide +kernel)) (fun _ _ _ _ _ => (by exact (g_name 5 sc_law_graph.nd))) (fun _ _ _ _ _ => (by exact ts_nil)) (fun _ _ _ _ _ => (by exact (q_add (qint) (q_callO C_law_taken hr (by omega) (c_own 0 (a_cons (qv 4) a_nil))))))) a_nil)) a_nil)))))))))
theorem ok_Graph_init {f : Addr} {fd : FuncData} (T : Tx P w c mg base) (F : Fun c.K "__init__" "Graph.__init__" s_Graph_init f fd) (C_is_number : Cal P w c.K mg base 1 "is_number" (spF c f_is_number) []) (C_is_tuple : Cal P w c.K mg base 1 "is_tuple" (spF c f_is_tuple) []) (C_is_arc : Cal P w c.K mg base 3 "_is_arc" (spF c f_is_arc) []) : FnOk P w c.K mg base L2.CX0 4 f fd ["self", "size", "arcs"] (spF c f_Graph_init) := by
  exact fn_den (k := 3) (N := n_Graph_init) (ps := ["self", "size", "arcs"]) (body := b_Graph_init) F sc_Graph_init fun cdv A outer s H E hr => QSs.out (by exact (ss_cons (s_if (QW.t (w_or (t_not (t_val (q_call C_is_number hr (by omega) (a_cons (qv 1) (a_cons (qint) (a_cons (qk T.c_MOST_NODES) a_nil)))))) (w_or1 (t_not (t_val (q_call C_is_tuple hr (by omega) (a_cons (qv 2) (a_cons (qint) (a_cons (qk T.c_MOST_ARCS) a_nil))))))))) ss_never ss_nil)
      (ss_cons (s_for PassesOwn.never (i_enum T.b_enumerate (a_cons (qv 2) a_nil)) (g_tup 2 (gs_cons (g_name 3 sc_Graph_init.nd) (gs_cons (g_name 4 sc_Graph_init.nd) gs_nil))) (ss_one (s_if (QW.t (w_or (t_not (t_val (q_call C_is_arc hr (by omega) (a_cons (qv 1) (a_cons (qv 4) a_nil))))) (w_or1 (t_cmp (r_in hr) (qv 4) (q_sl (qv 2) o_none (o_some (qv 3))) (by with_unfolding_all rfl))))) ss_never ss_nil)))
      (ss_cons (s_fld "Graph" 0 0 T.f_Graph_nodes T.l_Graph (q_tupRg T.b_tuple T.b_range (qv 1)))
      (ss_one (s_fld "Graph" 1 0 T.f_Graph_arcs T.l_Graph (q_blt b_tuple T.b_tuple (a_cons (q_blt b_sortA T.b_sorted (a_cons (qv 2) a_nil)) a_nil))))))))
theorem ok_law {f : Addr} {fd : FuncData} (T : Tx P w c mg base) (F : Fun c.K "law" "law" s_law f fd) (C_disjoint_paths : Cal P w c.K mg base 6 "disjoint_paths" (spF c f_disjoint_paths) []) (C_law_taken : Cal P w c.K mg base 1 "_law_taken" (spF c f_law_taken) []) (C_law_graph : Cal P w c.K mg base 3 "_law_graph" (spF c f_law_graph) []) (M_Graph : Mak P w c.K mg base 4 "Graph" (c.cls "Graph") (spF c f_Graph_init) []) : FnOk P w c.K mg base L2.CX0 7 f fd ["script"] (spF c f_law) := by
  exact fn_den (k := 6) (N := n_law) (ps := ["script"]) (body := b_law) F sc_law fun cdv A outer s H E hr => QSs.out (by exact (ss_cons (s_setO 1 sc_law.nd (q_lst (a_cons (qv 0) (a_cons (qint) (a_cons (qint) (a_cons (qint) a_nil))))))
      (ss_cons (s_for PassesOwn.never (i_range1 T.b_range (a_cons (qint) a_nil)) (g_name 2 sc_law.nd) (ss_cons (s_asg (q_callO C_law_graph hr (by omega) (c_own 1 (a_cons (qint) a_nil))) (g_tup 3 (gs_cons (g_name 3 sc_law.nd) (gs_cons (g_name 4 sc_law.nd) (gs_cons (g_name 5 sc_law.nd) gs_nil)))))
      (ss_cons (s_par2 6 false 7 false sc_law.nd (ps_cons (q_callO C_law_taken hr (by omega) (c_own 1 (a_cons (qv 3) a_nil))) (ps_cons (q_callO C_law_taken hr (by omega) (c_own 1 (a_cons (qv 3) a_nil))) ps_nil)))
      (ss_one (s_if (t_cmp (r_ne hr) (qv 6) (qv 7)) (ss_cons (s_asg (q_call C_disjoint_paths hr (by omega) (a_cons (q_make "Graph" M_Graph T.n_Graph hr (by omega) (a_cons (qv 3) (a_cons (qv 4) a_nil))) (a_cons (qv 6) (a_cons (qv 7) a_nil)))) (g_tup 2 (gs_cons (g_name 8 sc_law.nd) (gs_cons (g_name 9 sc_law.nd) gs_nil))))
      (ss_cons (s_if (QW.t (w_or (t_not (t_val (q_blt b_isi T.b_isinstance (a_cons (qv 8) (a_cons (qty T.b_tuple) a_nil))))) (w_or (t_cmp (r_ne hr) (q_blt b_list T.b_list (a_cons (qv 8) a_nil)) (q_blt b_sortA T.b_sorted (a_cons (qv 8) a_nil))) (w_or (t_cmp (r_ne hr) (q_blt b_len T.b_len (a_cons (qv 8) a_nil)) (q_blt b_len T.b_len (a_cons (qv 9) a_nil))) (w_or1 (t_cmp (r_ne hr) (q_lc (own := [("arc", 10)]) sc_law.nd (i_seq (qv 9)) (blkOk_by (own := [("arc", 10)]) (N := n_law) (sc := defScope s_law) (by decide +kernel)) (fun _ _ _ _ _ => (by exact (g_name 10 sc_law.nd))) (fun _ _ _ _ _ => (by exact (ts_one (t_cmp (r_nin hr) (qv 10) (qv 4) (by with_unfolding_all rfl))))) (fun _ _ _ _ _ => (by exact (qv 10)))) (q_lst a_nil))))))) (ss_one (s_ret (qbl))) ss_nil)
      (ss_cons (s_set 11 sc_law.nd (q_lst a_nil))
      (ss_cons (s_for PassesOwn.never (i_seq (qv 8)) (g_name 12 sc_law.nd) (ss_cons (s_setLc (own := [("at", 14)]) 13 sc_law.nd (i_range1 T.b_range (a_cons (q_sub (q_blt b_len T.b_len (a_cons (qv 12) a_nil)) (qint)) a_nil)) (blkOk_by (own := [("at", 14)]) (N := n_law) (sc := defScope s_law) (by decide +kernel)) (fun _ _ _ _ _ => (by exact (g_name 14 sc_law.nd))) (fun _ _ _ _ _ => (by exact ts_nil)) (fun _ _ _ _ _ => (by exact (q_sl (qv 12) (o_some (qv 14)) (o_some (q_add (qv 14) (qint)))))) (hw := sw_true rfl rfl rfl (by decide +kernel)))
      (ss_cons (s_if (QW.t (w_or (t_cmp (r_ne hr) (q_ix (qv 12) (qint)) (qv 6)) (w_or (t_cmp (r_ne hr) (q_ix (qv 12) (q_neg (qint))) (qv 7)) (w_or (t_cmp (r_ne hr) (q_setL T.b_len T.b_set (qv 12)) (q_blt b_len T.b_len (a_cons (qv 12) a_nil))) (w_or1 (t_cmp (r_ne hr) (q_lc (own := [("arc", 10)]) sc_law.nd (i_seq (qv 13)) (blkOk_by (own := [("arc", 10)]) (N := n_law) (sc := defScope s_law) (by decide +kernel)) (fun _ _ _ _ _ => (by exact (g_name 10 sc_law.nd))) (fun _ _ _ _ _ => (by exact (ts_one (QW.t (w_or (t_cmp (r_nin hr) (qv 10) (qv 4) (by with_unfolding_all rfl)) (w_or1 (t_cmp (r_in hr) (qv 10) (qv 11) (by with_unfolding_all rfl)))))))) (fun _ _ _ _ _ => (by exact (qv 10)))) (q_lst a_nil))))))) (ss_one (s_ret (qbl))) ss_nil)
      (ss_one (s_set 11 sc_law.nd (q_add (qv 11) (qv 13)))))))
      (ss_cons (s_par2 15 false 16 true sc_law.nd (ps_cons (q_lc (own := [("arc", 10)]) sc_law.nd (i_seq (qv 4)) (blkOk_by (own := [("arc", 10)]) (N := n_law) (sc := defScope s_law) (by decide +kernel)) (fun _ _ _ _ _ => (by exact (g_name 10 sc_law.nd))) (fun _ _ _ _ _ => (by exact (ts_one (t_cmp (r_nin hr) (qv 10) (qv 9) (by with_unfolding_all rfl))))) (fun _ _ _ _ _ => (by exact (qv 10)))) (ps_cons (q_lst (a_cons (qv 6) a_nil)) ps_nil)))
      (ss_cons (s_set 17 sc_law.nd (qint))
      (ss_cons (s_while 1000 PassesOwn.never (t_cmp (r_lt) (qv 17) (q_lenO 16 T.b_len)) (ss_cons (s_par2 18 false 17 false sc_law.nd (ps_cons (q_ixO 16 (qv 17)) (ps_cons (q_add (qv 17) (qint)) ps_nil)))
      (ss_one (s_for PassesOwn.never (i_seq (qv 15)) (g_tup 2 (gs_cons (g_name 19 sc_law.nd) (gs_cons (g_name 20 sc_law.nd) gs_nil))) (ss_one (s_if (QW.t (w_and (t_cmp (r_eq hr) (qv 19) (qv 18)) (w_and1 (t_cmpR (f_nin hr) (qv 20) 16)))) (ss_one (s_expr (q_append 16 (qv 20)))) ss_nil))))))
      (ss_one (s_if (t_cmpR (f_in hr) (qv 7) 16) (ss_one (s_ret (qbl))) ss_nil))))))))) ss_nil)))))
      (ss_one (s_ret (qbl))))))
end
end Fx.K95
/-! k95: paths without a common arc: moves that are left, potentials, flows (no data) -/
namespace Fx.K95
abbrev Ar := Nat × Nat
/-- where an arc's move leads, by whether it is used: forth at cost 1, back at cost -1 -/
def fr (U : List Ar) (a : Ar) : Nat := if a ∈ U then a.2 else a.1
def to (U : List Ar) (a : Ar) : Nat := if a ∈ U then a.1 else a.2
def co (U : List Ar) (a : Ar) : Int := if a ∈ U then -1 else 1
def Pot (A U : List Ar) (φ : Nat → Int) : Prop := ∀ a ∈ A, φ (to U a) ≤ φ (fr U a) + co U a
section
variable {A U : List Ar} {φ : Nat → Int}
/-- where a walk ends -/
def endOf (U : List Ar) : Nat → List Ar → Option Nat
  | u, [] => some u
  | u, a :: p => if fr U a = u then endOf U (to U a) p else none
def cost (U : List Ar) (p : List Ar) : Int := (p.map (co U)).sum
theorem cost_app (p q : List Ar) : cost U (p ++ q) = cost U p + cost U q := by
  unfold cost
  rw [List.map_append, List.sum_append]
theorem cost_cons (a : Ar) (p : List Ar) : cost U (a :: p) = co U a + cost U p := by
  unfold cost
  rw [List.map_cons, List.sum_cons]
theorem cost_one (a : Ar) : cost U [a] = co U a := by
  rw [cost_cons]
  show co U a + 0 = _
  omega
theorem endOf_app : ∀ {p q : List Ar} {u w : Nat}, endOf U u (p ++ q) = some w ↔ ∃ v, endOf U u p = some v ∧ endOf U v q = some w
  | [], q, u, w => by simp [endOf]
  | a :: p, q, u, w => by
    show (if fr U a = u then endOf U (to U a) (p ++ q) else none) = some w ↔ ∃ v, (if fr U a = u then endOf U (to U a) p else none) = some v ∧ _
    by_cases h : fr U a = u
    · rw [if_pos h, if_pos h]
      exact endOf_app
    · rw [if_neg h, if_neg h]
      simp
theorem endOf_one {a : Ar} {u w : Nat} : endOf U u [a] = some w ↔ fr U a = u ∧ to U a = w := by
  show (if fr U a = u then some (to U a) else none) = some w ↔ _
  by_cases h : fr U a = u
  · rw [if_pos h]
    simp [h]
  · rw [if_neg h]
    simp [h]
theorem pot_walk (h : Pot A U φ) : ∀ {p : List Ar} {u v : Nat}, (∀ a ∈ p, a ∈ A) → endOf U u p = some v → φ v ≤ φ u + cost U p
  | [], u, v, _, e => by
    cases e
    show φ u ≤ φ u + 0
    omega
  | a :: p, u, v, hp, e => by
    have e : (if fr U a = u then endOf U (to U a) p else none) = some v := e
    by_cases hf : fr U a = u
    · rw [if_pos hf] at e
      have k := pot_walk h (fun b hb => hp b (List.mem_cons_of_mem _ hb)) e
      have m := h a (hp a List.mem_cons_self)
      rw [hf] at m
      rw [cost_cons]
      omega
    · rw [if_neg hf] at e
      cases e
/-- the nodes that are passed -/
def nds (U : List Ar) (u : Nat) (p : List Ar) : List Nat := u :: p.map (to U)
theorem nds_app (u : Nat) (p : List Ar) (a : Ar) : nds U u (p ++ [a]) = nds U u p ++ [to U a] := by
  unfold nds
  rw [List.map_append]
  rfl
/-- a node that is passed parts the walk -/
theorem split_at : ∀ {p : List Ar} {u v y : Nat}, endOf U u p = some v → y ∈ nds U u p → ∃ q r, p = q ++ r ∧ endOf U u q = some y ∧ endOf U y r = some v
  | [], u, v, y, e, h => by
    cases e
    rw [show y = u from List.mem_singleton.mp h]
    exact ⟨[], [], rfl, rfl, rfl⟩
  | a :: p, u, v, y, e, h => by
    rcases List.mem_cons.mp h with rfl | h
    · exact ⟨[], a :: p, rfl, rfl, e⟩
    · have e2 : (if fr U a = u then endOf U (to U a) p else none) = some v := e
      by_cases hf : fr U a = u
      · rw [if_pos hf] at e2
        obtain ⟨q, r, rfl, e3, e4⟩ := split_at (y := y) e2 h
        refine ⟨a :: q, r, rfl, ?_, e4⟩
        show (if fr U a = u then endOf U (to U a) q else none) = some y
        rw [if_pos hf]
        exact e3
      · rw [if_neg hf] at e2
        cases e2
end
/-! ### the least ways -/
abbrev Wy := List (Nat × (Int × List Ar))
def getW (W : Wy) (v : Nat) : Option (Int × List Ar) := (W.find? fun e => decide (v = e.1)).map (·.2)
/-- what holds while ways are found -/
structure BF (A U : List Ar) (s : Nat) (g : Nat → Option (Int × List Ar)) : Prop where
  start : ∃ p, g s = some (0, p)
  walk : ∀ v c p, g v = some (c, p) → endOf U s p = some v
  sub : ∀ v c p, g v = some (c, p) → ∀ a ∈ p, a ∈ A
  cost : ∀ v c p, g v = some (c, p) → c = cost U p
  pre : ∀ v c p, g v = some (c, p) → ∀ q r u, p = q ++ r → endOf U s q = some u → ∃ d p', g u = some (d, p') ∧ d ≤ Fx.K95.cost U q
  nd : ∀ v c p, g v = some (c, p) → (nds U s p).Nodup
def upd (g : Nat → Option (Int × List Ar)) (y : Nat) (x : Int × List Ar) : Nat → Option (Int × List Ar) := fun v => if v = y then some x else g v
section
variable {A U : List Ar} {φ : Nat → Int} {s : Nat} {g : Nat → Option (Int × List Ar)}
theorem BF.init (hs : True) : BF A U s (fun v => if v = s then some (0, []) else none) := by
  have key : ∀ v c p, (if v = s then some ((0 : Int), ([] : List Ar)) else none) = some (c, p) → v = s ∧ c = 0 ∧ p = [] := fun v c p h => by
    by_cases e : v = s
    · rw [if_pos e] at h
      cases h
      exact ⟨e, rfl, rfl⟩
    · rw [if_neg e] at h
      cases h
  refine ⟨⟨[], if_pos rfl⟩, ?_, ?_, ?_, ?_, ?_⟩
  · intro v c p h
    obtain ⟨rfl, rfl, rfl⟩ := key v c p h
    rfl
  · intro v c p h a ha
    obtain ⟨rfl, rfl, rfl⟩ := key v c p h
    cases ha
  · intro v c p h
    obtain ⟨rfl, rfl, rfl⟩ := key v c p h
    rfl
  · intro v c p h q r u e hq
    obtain ⟨rfl, rfl, rfl⟩ := key v c p h
    obtain ⟨rfl, rfl⟩ := List.append_eq_nil_iff.mp e.symm
    cases hq
    exact ⟨0, [], if_pos rfl, Int.le_refl _⟩
  · intro v c p h
    obtain ⟨rfl, rfl, rfl⟩ := key v c p h
    simp [nds]
/-- a node on the way to x can't be bettered from x -/
theorem BF.fresh (h : BF A U s g) (hφ : Pot A U φ) {a : Ar} (ha : a ∈ A) {cx : Int} {px : List Ar} (hx : g (fr U a) = some (cx, px)) (hy : ∀ cy py, g (to U a) = some (cy, py) → cx + co U a < cy) : to U a ∉ nds U s px := fun hm => by
  have hw := h.walk _ _ _ hx
  obtain ⟨q, r, e, e1, e2⟩ := split_at hw hm
  obtain ⟨d, p', hd, hle⟩ := h.pre _ _ _ hx q r _ e e1
  have hlt := hy d p' hd
  have hc := h.cost _ _ _ hx
  rw [e, cost_app] at hc
  have hsub := h.sub _ _ _ hx
  have hr : ∀ b ∈ r ++ [a], b ∈ A := fun b hb => by
    rcases List.mem_append.mp hb with hb | hb
    · exact hsub b (by rw [e]; exact List.mem_append_right _ hb)
    · rw [List.mem_singleton.mp hb]
      exact ha
  have hcyc := pot_walk hφ hr (endOf_app.mpr ⟨_, e2, endOf_one.mpr ⟨rfl, rfl⟩⟩)
  rw [cost_app, cost_one] at hcyc
  omega
theorem BF.step (h : BF A U s g) (hφ : Pot A U φ) {a : Ar} (ha : a ∈ A) {cx : Int} {px : List Ar} (hx : g (fr U a) = some (cx, px)) (hy : ∀ cy py, g (to U a) = some (cy, py) → cx + co U a < cy) : BF A U s (upd g (to U a) (cx + co U a, px ++ [a])) := by
  have hf := h.fresh hφ ha hx hy
  have hne : s ≠ to U a := fun z => hf (by rw [← z]; exact List.mem_cons_self)
  have hw := h.walk _ _ _ hx
  have hc := h.cost _ _ _ hx
  have key : ∀ v c p, upd g (to U a) (cx + co U a, px ++ [a]) v = some (c, p) → (v = to U a ∧ c = cx + co U a ∧ p = px ++ [a]) ∨ (v ≠ to U a ∧ g v = some (c, p)) := fun v c p hv => by
    unfold upd at hv
    by_cases e : v = to U a
    · rw [if_pos e] at hv
      cases hv
      exact .inl ⟨e, rfl, rfl⟩
    · rw [if_neg e] at hv
      exact .inr ⟨e, hv⟩
  -- labels only fall
  have low : ∀ u d p', g u = some (d, p') → ∃ d' p'', upd g (to U a) (cx + co U a, px ++ [a]) u = some (d', p'') ∧ d' ≤ d := fun u d p' hu => by
    unfold upd
    by_cases e : u = to U a
    · refine ⟨_, _, if_pos e, ?_⟩
      have := hy d p' (e ▸ hu)
      omega
    · exact ⟨d, p', by rw [if_neg e]; exact hu, Int.le_refl _⟩
  refine ⟨?_, ?_, ?_, ?_, ?_, ?_⟩
  · obtain ⟨p, hp⟩ := h.start
    exact ⟨p, by unfold upd; rw [if_neg hne]; exact hp⟩
  · intro v c p hv
    rcases key v c p hv with ⟨rfl, rfl, rfl⟩ | ⟨_, hv⟩
    · exact endOf_app.mpr ⟨_, hw, endOf_one.mpr ⟨rfl, rfl⟩⟩
    · exact h.walk _ _ _ hv
  · intro v c p hv b hb
    rcases key v c p hv with ⟨rfl, rfl, rfl⟩ | ⟨_, hv⟩
    · rcases List.mem_append.mp hb with hb | hb
      · exact h.sub _ _ _ hx b hb
      · rw [List.mem_singleton.mp hb]
        exact ha
    · exact h.sub _ _ _ hv b hb
  · intro v c p hv
    rcases key v c p hv with ⟨rfl, rfl, rfl⟩ | ⟨_, hv⟩
    · rw [cost_app, cost_one, hc]
    · exact h.cost _ _ _ hv
  · intro v c p hv q r u e hq
    rcases key v c p hv with ⟨rfl, rfl, rfl⟩ | ⟨_, hv⟩
    · rcases List.eq_nil_or_concat r with rfl | ⟨r', b, rfl⟩
      · rw [List.append_nil] at e
        subst e
        have e2 : endOf U s (px ++ [a]) = some (to U a) := endOf_app.mpr ⟨_, hw, endOf_one.mpr ⟨rfl, rfl⟩⟩
        rw [e2] at hq
        cases hq
        exact ⟨_, _, by unfold upd; exact if_pos rfl, by rw [cost_app, cost_one, hc]; omega⟩
      · rw [List.concat_eq_append, ← List.append_assoc] at e
        obtain ⟨e1, _⟩ := List.append_inj' e rfl
        obtain ⟨d, p', hd, hle⟩ := h.pre _ _ _ hx q r' u e1 hq
        obtain ⟨d', p'', h1, h2⟩ := low u d p' hd
        exact ⟨d', p'', h1, by omega⟩
    · obtain ⟨d, p', hd, hle⟩ := h.pre _ _ _ hv q r u e hq
      obtain ⟨d', p'', h1, h2⟩ := low u d p' hd
      exact ⟨d', p'', h1, by omega⟩
  · intro v c p hv
    rcases key v c p hv with ⟨rfl, rfl, rfl⟩ | ⟨_, hv⟩
    · rw [nds_app]
      exact List.nodup_append.mpr ⟨h.nd _ _ _ hx, by simp, fun x hx' y hy' z => hf (by rw [List.mem_singleton.mp hy'] at z; exact z ▸ hx')⟩
    · exact h.nd _ _ _ hv
end
end Fx.K95
/-! k95: one path more: potentials and flows (no data) -/
namespace Fx.K95
section
variable {A U : List Ar} {φ : Nat → Int} {s t : Nat} {g : Nat → Option (Int × List Ar)}
/-- nothing is bettered any more -/
def Done (A U : List Ar) (g : Nat → Option (Int × List Ar)) : Prop := ∀ a ∈ A, ∀ cx px, g (fr U a) = some (cx, px) → ∃ cy py, g (to U a) = some (cy, py) ∧ cy ≤ cx + co U a
theorem done_walk (h : Done A U g) : ∀ {r : List Ar} {u v : Nat} {d : Int} {p : List Ar}, g u = some (d, p) → (∀ a ∈ r, a ∈ A) → endOf U u r = some v → ∃ e q, g v = some (e, q) ∧ e ≤ d + cost U r
  | [], u, v, d, p, hu, _, e => by
    cases e
    refine ⟨d, p, hu, ?_⟩
    show d ≤ d + 0
    omega
  | a :: r, u, v, d, p, hu, hr, e => by
    have e : (if fr U a = u then endOf U (to U a) r else none) = some v := e
    by_cases hf : fr U a = u
    · rw [if_pos hf] at e
      obtain ⟨c1, p1, h1, l1⟩ := h a (hr a List.mem_cons_self) d p (by rw [hf]; exact hu)
      obtain ⟨c2, p2, h2, l2⟩ := done_walk h h1 (fun b hb => hr b (List.mem_cons_of_mem _ hb)) e
      exact ⟨c2, p2, h2, by rw [cost_cons]; omega⟩
    · rw [if_neg hf] at e
      cases e
/-- along a found way the labels are what has been paid -/
theorem tight (h : BF A U s g) (dn : Done A U g) {c : Int} {p : List Ar} (ht : g t = some (c, p)) {q r : List Ar} {u : Nat} (e : p = q ++ r) (hu : endOf U s q = some u) : ∃ p', g u = some (cost U q, p') := by
  obtain ⟨d, p', hd, hle⟩ := h.pre _ _ _ ht q r u e hu
  have hw := h.walk _ _ _ ht
  rw [e] at hw
  obtain ⟨u', hu', hr⟩ := endOf_app.mp hw
  rw [hu] at hu'
  cases hu'
  obtain ⟨e2, p2, h2, l2⟩ := done_walk dn hd (fun a ha => h.sub _ _ _ ht a (by rw [e]; exact List.mem_append_right _ ha)) hr
  rw [ht] at h2
  cases h2
  have hc := h.cost _ _ _ ht
  rw [e, cost_app] at hc
  have : d = cost U q := by omega
  rw [this] at hd
  exact ⟨p', hd⟩
/-- the arcs that are used then -/
def flip (A U p : List Ar) : List Ar := A.filter fun a => decide (¬(a ∈ U ↔ a ∈ p))
theorem mem_flip {p : List Ar} {a : Ar} : a ∈ flip A U p ↔ a ∈ A ∧ ¬(a ∈ U ↔ a ∈ p) := by
  unfold flip
  rw [List.mem_filter, decide_eq_true_iff]
theorem flip_in {p : List Ar} {a : Ar} (ha : a ∈ A) (hp : a ∈ p) : fr (flip A U p) a = to U a ∧ to (flip A U p) a = fr U a ∧ co (flip A U p) a = - co U a := by
  have e : a ∈ flip A U p ↔ a ∉ U := by
    rw [mem_flip]
    constructor
    · exact fun h z => h.2 ⟨fun _ => hp, fun _ => z⟩
    · exact fun h => ⟨ha, fun z => h (z.mpr hp)⟩
  unfold fr to co
  by_cases h : a ∈ U
  · have : a ∉ flip A U p := fun z => (e.mp z) h
    simp [h, this]
  · have : a ∈ flip A U p := e.mpr h
    simp [h, this]
theorem flip_out {p : List Ar} {a : Ar} (ha : a ∈ A) (hp : a ∉ p) : fr (flip A U p) a = fr U a ∧ to (flip A U p) a = to U a ∧ co (flip A U p) a = co U a := by
  have e : a ∈ flip A U p ↔ a ∈ U := by
    rw [mem_flip]
    constructor
    · intro h
      refine Classical.byContradiction fun z => h.2 ⟨fun k => absurd k z, fun k => absurd k hp⟩
    · exact fun h => ⟨ha, fun z => hp (z.mp h)⟩
  unfold fr to co
  by_cases h : a ∈ U
  · have : a ∈ flip A U p := e.mpr h
    simp [h, this]
  · have : a ∉ flip A U p := fun z => h (e.mp z)
    simp [h, this]
theorem bound (f : Ar → Int) : ∀ L : List Ar, ∃ M, ∀ a ∈ L, f a ≤ M
  | [] => ⟨0, fun _ h => (nomatch h)⟩
  | a :: L => by
    obtain ⟨M, hM⟩ := bound f L
    refine ⟨max (f a) M, fun b hb => ?_⟩
    rcases List.mem_cons.mp hb with rfl | hb
    · omega
    · have := hM b hb
      omega
theorem pot_flip (hφ : Pot A U φ) (h : BF A U s g) (dn : Done A U g) {c : Int} {p : List Ar} (ht : g t = some (c, p)) : ∃ ψ, Pot A (flip A U p) ψ := by
  obtain ⟨M, hM⟩ := bound (fun a => ((g (to U a)).map (·.1)).getD 0 - φ (fr U a) - co U a) A
  let ψ : Nat → Int := fun v => match g v with
    | some x => x.1
    | none => φ v + M
  have r1 : ∀ {v d q}, g v = some (d, q) → ψ v = d := fun {v d q} h => by
    show (match g v with | some x => x.1 | none => φ v + M) = d
    rw [h]
  have r0 : ∀ {v}, g v = none → ψ v = φ v + M := fun {v} h => by
    show (match g v with | some x => x.1 | none => φ v + M) = _
    rw [h]
  refine ⟨ψ, fun a ha => ?_⟩
  by_cases hp : a ∈ p
  · obtain ⟨e1, e2, e3⟩ := flip_in (U := U) ha hp
    rw [e1, e2, e3]
    obtain ⟨q, r, e⟩ := List.append_of_mem hp
    have hw := h.walk _ _ _ ht
    rw [e] at hw
    obtain ⟨u, hu, hr⟩ := endOf_app.mp hw
    have hr : (if fr U a = u then endOf U (to U a) r else none) = some t := hr
    by_cases hf : fr U a = u
    · rw [if_pos hf] at hr
      obtain ⟨p1, h1⟩ := tight h dn ht e hu
      have hu2 : endOf U s (q ++ [a]) = some (to U a) := endOf_app.mpr ⟨u, hu, endOf_one.mpr ⟨hf, rfl⟩⟩
      obtain ⟨p2, h2⟩ := tight h dn ht (q := q ++ [a]) (r := r) (by rw [e]; simp) hu2
      rw [← hf] at h1
      rw [r1 h1, r1 h2, cost_app, cost_one]
      omega
    · rw [if_neg hf] at hr
      cases hr
  · obtain ⟨e1, e2, e3⟩ := flip_out (U := U) ha hp
    rw [e1, e2, e3]
    cases hf : g (fr U a) with
    | some x =>
      obtain ⟨cx, px⟩ := x
      obtain ⟨cy, py, hy, hle⟩ := dn a ha cx px hf
      rw [r1 hf, r1 hy]
      exact hle
    | none =>
      cases hy : g (to U a) with
      | none =>
        rw [r0 hf, r0 hy]
        have := hφ a ha
        omega
      | some x =>
        obtain ⟨cy, py⟩ := x
        rw [r0 hf, r1 hy]
        have := hM a ha
        rw [hy] at this
        have : cy - φ (fr U a) - co U a ≤ M := this
        omega
/-! ### flows -/
def dl (v : Nat) (a : Ar) : Int := (if a.1 = v then 1 else 0) - (if a.2 = v then 1 else 0)
/-- what leaves a node, less what comes -/
def val (U : List Ar) (v : Nat) : Int := (U.map (dl v)).sum
def wl (U : List Ar) (v : Nat) (a : Ar) : Int := (if fr U a = v then 1 else 0) - (if to U a = v then 1 else 0)
theorem wl_eq (v : Nat) (a : Ar) : wl U v a = if a ∈ U then - dl v a else dl v a := by
  unfold wl fr to dl
  by_cases h : a ∈ U
  · simp only [if_pos h]
    omega
  · simp only [if_neg h]
theorem wl_walk (v : Nat) : ∀ {p : List Ar} {u w : Nat}, endOf U u p = some w → (p.map (wl U v)).sum = (if u = v then 1 else 0) - (if w = v then 1 else 0)
  | [], u, w, e => by
    cases e
    show (0 : Int) = _
    omega
  | a :: p, u, w, e => by
    have e : (if fr U a = u then endOf U (to U a) p else none) = some w := e
    by_cases hf : fr U a = u
    · rw [if_pos hf] at e
      rw [List.map_cons, List.sum_cons, wl_walk v e]
      unfold wl
      rw [hf]
      omega
    · rw [if_neg hf] at e
      cases e
theorem sum_filter (f : Ar → Int) (P : Ar → Bool) : ∀ L : List Ar, ((L.filter P).map f).sum = (L.map fun a => if P a then f a else 0).sum
  | [] => rfl
  | a :: L => by
    rw [List.map_cons, List.sum_cons, List.filter_cons, ← sum_filter f P L]
    cases P a with
    | true => rw [if_pos rfl, if_pos rfl, List.map_cons, List.sum_cons]
    | false => simp
theorem sum_add (f h : Ar → Int) : ∀ L : List Ar, (L.map fun a => f a + h a).sum = (L.map f).sum + (L.map h).sum
  | [] => rfl
  | a :: L => by
    rw [List.map_cons, List.sum_cons, List.map_cons, List.sum_cons, List.map_cons, List.sum_cons, sum_add f h L]
    omega
theorem perm_sum {L M : List Int} (h : L.Perm M) : L.sum = M.sum := by
  induction h with
  | nil => rfl
  | cons x _ ih => rw [List.sum_cons, List.sum_cons, ih]
  | swap x y l =>
    simp only [List.sum_cons]
    omega
  | trans _ _ a b => exact a.trans b
theorem sum_sub {p : List Ar} (f : Ar → Int) (nA : A.Nodup) (np : p.Nodup) (hp : ∀ a ∈ p, a ∈ A) : (A.map fun a => if a ∈ p then f a else 0).sum = (p.map f).sum := by
  have e := sum_filter f (fun a => decide (a ∈ p)) A
  simp only [decide_eq_true_eq] at e
  rw [← e]
  have pm : (A.filter fun a => decide (a ∈ p)).Perm p := (List.perm_ext_iff_of_nodup (nA.sublist List.filter_sublist) np).mpr fun a => by
    rw [List.mem_filter, decide_eq_true_iff]
    exact ⟨fun h => h.2, fun h => ⟨hp a h, h⟩⟩
  exact perm_sum (pm.map f)
/-- a used list within all arcs, in their order -/
def Part (A U : List Ar) : Prop := U = A.filter fun a => decide (a ∈ U)
theorem flip_part (p : List Ar) : Part A (flip A U p) := by
  unfold Part
  refine List.filter_congr fun a ha => ?_
  rw [Bool.eq_iff_iff, decide_eq_true_iff, decide_eq_true_iff, mem_flip]
  exact ⟨fun h => ⟨ha, h⟩, fun h => h.2⟩
theorem val_flip (nA : A.Nodup) (hU : Part A U) {p : List Ar} (np : p.Nodup) (hp : ∀ a ∈ p, a ∈ A) (hw : endOf U s p = some t) (v : Nat) : val (flip A U p) v = val U v + ((if s = v then 1 else 0) - (if t = v then 1 else 0)) := by
  have e1 : val (flip A U p) v = (A.map fun a => if decide (¬(a ∈ U ↔ a ∈ p)) = true then dl v a else 0).sum := sum_filter (dl v) _ A
  have e2 : val U v = (A.map fun a => if decide (a ∈ U) = true then dl v a else 0).sum := by
    unfold val
    conv => lhs; rw [hU]
    exact sum_filter (dl v) _ A
  rw [e1, e2, ← wl_walk v hw, ← sum_sub (wl U v) nA np hp, ← sum_add]
  congr 1
  refine List.map_congr_left fun a _ => ?_
  rw [wl_eq]
  by_cases h1 : a ∈ U <;> by_cases h2 : a ∈ p <;> simp [h1, h2] <;> omega
end
end Fx.K95
/-! k95: the cut, how many paths there are, and one path taken out (no data) -/
namespace Fx.K95
section
variable {A U : List Ar} {φ : Nat → Int} {s t n : Nat} {g : Nat → Option (Int × List Ar)}
theorem sum_swap {α β : Type} (f : α → β → Int) : ∀ (L : List α) (M : List β), (L.map fun a => (M.map fun b => f a b).sum).sum = (M.map fun b => (L.map fun a => f a b).sum).sum
  | [], M => by
    have : ∀ M : List β, (M.map fun _ : β => (0 : Int)).sum = 0 := fun M => by
      induction M with
      | nil => rfl
      | cons b M ih => rw [List.map_cons, List.sum_cons, ih]; rfl
    exact (this M).symm
  | a :: L, M => by
    rw [List.map_cons, List.sum_cons, sum_swap f L M]
    have : ∀ M : List β, (M.map fun b => f a b).sum + (M.map fun b => (L.map fun a => f a b).sum).sum = (M.map fun b => ((a :: L).map fun a => f a b).sum).sum := fun M => by
      induction M with
      | nil => rfl
      | cons b M ih =>
        rw [List.map_cons, List.sum_cons, List.map_cons, List.sum_cons, List.map_cons, List.sum_cons, ← ih, List.map_cons, List.sum_cons]
        omega
    exact this M
/-- a node counted among some -/
theorem sum_one {L : List Nat} (nd : L.Nodup) (v : Nat) : (L.map fun w => if v = w then (1 : Int) else 0).sum = if v ∈ L then 1 else 0 := by
  induction L with
  | nil => rfl
  | cons w L ih =>
    obtain ⟨n1, n2⟩ := List.nodup_cons.mp nd
    rw [List.map_cons, List.sum_cons, ih n2]
    by_cases e : v = w
    · subst e
      simp [n1]
    · by_cases m : v ∈ L
      · simp [e, m]
      · simp [e, m]
theorem sum_dl {R : List Nat} (nd : R.Nodup) (a : Ar) : (R.map fun v => dl v a).sum = (if a.1 ∈ R then 1 else 0) - (if a.2 ∈ R then 1 else 0) := by
  have e : (R.map fun v => dl v a).sum = (R.map fun v => if a.1 = v then (1 : Int) else 0).sum - (R.map fun v => if a.2 = v then (1 : Int) else 0).sum := by
    induction R with
    | nil => rfl
    | cons w R ih =>
      rw [List.map_cons, List.sum_cons, ih (List.nodup_cons.mp nd).2, List.map_cons, List.sum_cons, List.map_cons, List.sum_cons]
      unfold dl
      omega
  rw [e, sum_one nd, sum_one nd]
/-- how much leaves a set of nodes -/
theorem sum_val {R : List Nat} (nd : R.Nodup) (U : List Ar) : (R.map fun v => val U v).sum = (U.map fun a => (if a.1 ∈ R then (1 : Int) else 0) - (if a.2 ∈ R then 1 else 0)).sum := by
  unfold val
  rw [sum_swap (fun v a => dl v a) R U]
  congr 1
  exact List.map_congr_left fun a _ => sum_dl nd a
theorem sum_flow {R : List Nat} (nd : R.Nodup) {k : Int} (h : ∀ v, val U v = k * ((if s = v then 1 else 0) - (if t = v then 1 else 0))) (hs : s ∈ R) (ht : t ∉ R) : (R.map fun v => val U v).sum = k := by
  have e : (R.map fun v => val U v).sum = k * ((R.map fun v => if s = v then (1 : Int) else 0).sum - (R.map fun v => if t = v then (1 : Int) else 0).sum) := by
    clear hs ht nd
    induction R with
    | nil => simp
    | cons w R ih =>
      rw [List.map_cons, List.sum_cons, ih, List.map_cons, List.sum_cons, List.map_cons, List.sum_cons, h w]
      rw [← Int.mul_add]
      congr 1
      omega
  rw [e, sum_one nd, sum_one nd, if_pos hs, if_neg ht]
  omega
/-- the arcs from what is reached to what is not -/
def cutOf (A : List Ar) (R : List Nat) : List Ar := A.filter fun a => decide (a.1 ∈ R) && decide (a.2 ∉ R)
theorem cut_len (hU : Part A U) {R : List Nat} (nd : R.Nodup) (cl : ∀ a ∈ A, fr U a ∈ R → to U a ∈ R) {k : Int} (h : ∀ v, val U v = k * ((if s = v then 1 else 0) - (if t = v then 1 else 0))) (hs : s ∈ R) (ht : t ∉ R) : ((cutOf A R).length : Int) = k := by
  have e := (sum_val nd U).symm.trans (sum_flow nd h hs ht)
  rw [← e]
  have e2 : cutOf A R = cutOf U R := by
    unfold cutOf
    conv => rhs; rw [hU, List.filter_filter]
    refine List.filter_congr fun a ha => ?_
    rw [Bool.eq_iff_iff]
    simp only [Bool.and_eq_true, decide_eq_true_iff]
    constructor
    · rintro ⟨h1, h2⟩
      refine ⟨⟨h1, h2⟩, Classical.byContradiction fun z => h2 ?_⟩
      have := cl a ha
      unfold fr to at this
      rw [if_neg z, if_neg z] at this
      exact this h1
    · exact fun h => h.1
  rw [e2]
  have hin : ∀ a ∈ U, a.2 ∈ R → a.1 ∈ R := fun a ha h2 => by
    have hA : a ∈ A := by
      rw [hU] at ha
      exact (List.mem_filter.mp ha).1
    have := cl a hA
    unfold fr to at this
    rw [if_pos ha, if_pos ha] at this
    exact this h2
  clear e e2 h hs ht cl hU
  unfold cutOf
  induction U with
  | nil => rfl
  | cons a U ih =>
    rw [List.map_cons, List.sum_cons, ← ih fun b hb => hin b (List.mem_cons_of_mem _ hb), List.filter_cons]
    have h1 := hin a List.mem_cons_self
    by_cases m1 : a.1 ∈ R
    · by_cases m2 : a.2 ∈ R
      · simp [m1, m2]
      · simp [m1, m2]
        omega
    · have m2 : a.2 ∉ R := fun z => m1 (h1 z)
      simp [m1, m2]
/-- along used arcs the potential grows -/
theorem grows (hφ : Pot A U φ) (hU : Part A U) {a : Ar} (ha : a ∈ U) : φ a.1 + 1 ≤ φ a.2 := by
  have hA : a ∈ A := by
    rw [hU] at ha
    exact (List.mem_filter.mp ha).1
  have := hφ a hA
  unfold fr to co at this
  rw [if_pos ha, if_pos ha, if_pos ha] at this
  omega
/-- where more leaves than comes, an arc leaves -/
theorem leaves {v : Nat} (h : 0 < val U v) : ∃ a ∈ U, a.1 = v := by
  refine Classical.byContradiction fun z => ?_
  have hz : ∀ a ∈ U, a.1 ≠ v := fun a ha e => z ⟨a, ha, e⟩
  have : ∀ U : List Ar, (∀ a ∈ U, a.1 ≠ v) → val U v ≤ 0 := fun U => by
    induction U with
    | nil => exact fun _ => Int.le_refl _
    | cons a U ih =>
      intro hz
      have k := ih fun b hb => hz b (List.mem_cons_of_mem _ hb)
      unfold val at k ⊢
      rw [List.map_cons, List.sum_cons]
      have : dl v a ≤ 0 := by
        unfold dl
        rw [if_neg (hz a List.mem_cons_self)]
        split <;> omega
      omega
  have := this U hz
  omega
end
end Fx.K95
/-! running denotations: what a run that goes well gives -/
namespace Fx
open PySem
namespace R
/-- the run goes well and gives what P tells -/
def OKr {α : Type} (m : Out α) (P : α → En → Prop) : Prop := Post P (fun _ _ => False) m
/-- a call goes well -/
def OKFr (o : Out S) (K : S → Prop) : Prop := OKr o fun s _ => K s
section
variable {α β : Type} {P Q : α → En → Prop}
theorem ok_ok {a : α} {ρ : En} : OKr (.ok a ρ) P ↔ P a ρ := Iff.rfl
theorem ok_stuck : OKr (.stuck : Out α) P ↔ False := Iff.rfl
theorem ok_then {m : Out α} {f : α → En → Out β} {P : β → En → Prop} : OKr (m.then f) P ↔ OKr m fun a ρ => OKr (f a ρ) P := post_then
theorem ok_ite {c : Prop} [Decidable c] {a b : Out α} : OKr (if c then a else b) P ↔ (c → OKr a P) ∧ (¬c → OKr b P) := by
  split
  · rename_i h
    exact ⟨fun k => ⟨fun _ => k, fun n => absurd h n⟩, fun k => k.1 h⟩
  · rename_i h
    exact ⟨fun k => ⟨fun n => absurd n h, fun _ => k⟩, fun k => k.2 h⟩
theorem OKr.imp {m : Out α} (h : OKr m P) (k : ∀ a ρ, P a ρ → Q a ρ) : OKr m Q := Post.imp h k fun _ _ h => h
theorem OKr.at {m : Out α} (h : OKr m P) : ∃ a ρ, m = .ok a ρ ∧ P a ρ := by
  cases m with
  | ok a ρ => exact ⟨a, ρ, rfl, h⟩
  | err e ρ => exact h.elim
  | stuck => exact h.elim
theorem ok_calm {m : Out α} : OKr m.calm P ↔ OKr m P := by
  cases m <;> exact Iff.rfl
theorem OKFr.imp {o : Out S} {K K' : S → Prop} (h : OKFr o K) (k : ∀ s, K s → K' s) : OKFr o K' := OKr.imp h fun s _ => k s
end
section
variable {ρ : En} {P : S → En → Prop} {PB : Bool → En → Prop} {PA : List D → En → Prop} {PF : Fl → En → Prop} {PU : Unit → En → Prop} {fa fb fe : M S} {fA : M (List D)} {ft fu : M Bool} {F G : M Fl}
/-- a value that stays -/
theorem ok_dv {f : M S} {K : D → En → Prop} : OKr (dv f ρ) K ↔ OKr (f ρ) fun s ρ' => ∃ x, toD s = some x ∧ K x ρ' := by
  unfold dv
  rw [ok_then]
  refine ⟨fun h => h.imp fun s ρ' k => ?_, fun h => h.imp fun s ρ' k => ?_⟩
  · cases e : toD s with
    | none => rw [e] at k; exact k.elim
    | some x => rw [e] at k; exact ⟨x, rfl, k⟩
  · obtain ⟨x, e, k⟩ := k
    rw [e]
    exact k
theorem ex_toD {x : D} {K : D → Prop} : (∃ y, toD (.d x) = some y ∧ K y) ↔ K x := ⟨fun ⟨y, e, k⟩ => by cases e; exact k, fun k => ⟨x, rfl, k⟩⟩
theorem ex_toL {ds : List D} {K : D → Prop} : (∃ y, toD (.o none (.lst ds)) = some y ∧ K y) ↔ K (.lst ds) := ⟨fun ⟨y, e, k⟩ => by cases e; exact k, fun k => ⟨_, rfl, k⟩⟩
theorem ok_c {x : D} : OKr (mC x ρ) P ↔ P (.d x) ρ := Iff.rfl
theorem ok_var {i : Nat} : OKr (mVar i ρ) P ↔ OKr (mVar i ρ) P := Iff.rfl
theorem ok_varD {i : Nat} {x : D} (e : ρ[i]? = some (some (.d x))) : OKr (mVar i ρ) P ↔ P (.d x) ρ := by
  unfold mVar
  rw [e]
  exact Iff.rfl
theorem ok_op {g : D → D → Option S} : OKr (mOp g fa fb ρ) P ↔ OKr (dv fa ρ) fun x ρ1 => OKr (dv fb ρ1) fun y ρ2 => ∃ s, g x y = some s ∧ P s ρ2 := by
  unfold mOp
  rw [ok_then]
  simp only [ok_then]
  constructor
  · exact fun h => h.imp fun x ρ1 h => h.imp fun y ρ2 h => (by
      cases e : g x y with
      | none => rw [e] at h; exact h.elim
      | some s => rw [e] at h; exact ⟨s, rfl, h⟩)
  · exact fun h => h.imp fun x ρ1 h => h.imp fun y ρ2 h => (by
      obtain ⟨s, e, k⟩ := h
      rw [e]
      exact k)
theorem ok_un {g : D → Option S} : OKr (mUn g fa ρ) P ↔ OKr (dv fa ρ) fun x ρ1 => ∃ s, g x = some s ∧ P s ρ1 := by
  unfold mUn
  rw [ok_then]
  constructor
  · exact fun h => h.imp fun x ρ1 h => (by
      cases e : g x with
      | none => rw [e] at h; exact h.elim
      | some s => rw [e] at h; exact ⟨s, rfl, h⟩)
  · exact fun h => h.imp fun x ρ1 h => (by
      obtain ⟨s, e, k⟩ := h
      rw [e]
      exact k)
theorem ok_nil : OKr (aNil ρ) PA ↔ PA [] ρ := Iff.rfl
theorem ok_cons {fr : M (List D)} : OKr (aCons fa fr ρ) PA ↔ OKr (dv fa ρ) fun x ρ1 => OKr (fr ρ1) fun ds ρ2 => PA (x :: ds) ρ2 := by
  unfold aCons
  simp only [ok_then, ok_ok]
theorem ok_cb {g : List D → Option S} : OKr (mCB g fA ρ) P ↔ OKr (fA ρ) fun ds ρ1 => ∃ s, g ds = some s ∧ P s ρ1 := by
  unfold mCB
  rw [ok_then]
  constructor
  · exact fun h => h.imp fun x ρ1 h => (by
      cases e : g x with
      | none => rw [e] at h; exact h.elim
      | some s => rw [e] at h; exact ⟨s, rfl, h⟩)
  · exact fun h => h.imp fun x ρ1 h => (by
      obtain ⟨s, e, k⟩ := h
      rw [e]
      exact k)
theorem ok_test : OKr (mTest fa ρ) PB ↔ OKr (dv fa ρ) fun x ρ1 => ∃ b, x = .bl b ∧ PB b ρ1 := by
  unfold mTest
  rw [ok_then]
  refine ⟨fun h => h.imp fun x ρ1 h => ?_, fun h => h.imp fun x ρ1 h => ?_⟩
  · cases x <;> first | exact h.elim | exact ⟨_, rfl, h⟩
  · obtain ⟨b, rfl, h⟩ := h
    exact h
theorem ex_bl {b : Bool} {K : Bool → Prop} : (∃ c, D.bl b = D.bl c ∧ K c) ↔ K b := ⟨fun ⟨c, e, k⟩ => by cases e; exact k, fun k => ⟨b, rfl, k⟩⟩
theorem ok_not : OKr (mNot ft ρ) PB ↔ OKr (ft ρ) fun b ρ1 => PB (!b) ρ1 := by
  unfold mNot
  simp only [ok_then, ok_ok]
theorem ok_and : OKr (mAnd ft fu ρ) PB ↔ OKr (ft ρ) fun b ρ1 => (b = true → OKr (fu ρ1) PB) ∧ (¬b = true → PB false ρ1) := by
  unfold mAnd
  simp only [ok_then, ok_ok, ok_ite]
theorem ok_or : OKr (mOr ft fu ρ) PB ↔ OKr (ft ρ) fun b ρ1 => (b = true → PB true ρ1) ∧ (¬b = true → OKr (fu ρ1) PB) := by
  unfold mOr
  simp only [ok_then, ok_ok, ok_ite]
theorem ok_andV : OKr (mAndV fa fb ρ) P ↔ OKr (mTest fa ρ) fun b ρ1 => (b = true → OKr (fb ρ1) P) ∧ (¬b = true → P (.d (.bl false)) ρ1) := by
  unfold mAndV
  simp only [ok_then, ok_ok, ok_ite]
theorem ok_orV : OKr (mOrV fa fb ρ) P ↔ OKr (mTest fa ρ) fun b ρ1 => (b = true → P (.d (.bl true)) ρ1) ∧ (¬b = true → OKr (fb ρ1) P) := by
  unfold mOrV
  simp only [ok_then, ok_ok, ok_ite]
theorem ok_notV : OKr (mNotV fa ρ) P ↔ OKr (mTest fa ρ) fun b ρ1 => P (.d (.bl (!b))) ρ1 := by
  unfold mNotV
  simp only [ok_then, ok_ok]
theorem ok_if : OKr (mIf ft fa fb ρ) P ↔ OKr (ft ρ) fun b ρ1 => (b = true → OKr (fa ρ1) P) ∧ (¬b = true → OKr (fb ρ1) P) := by
  unfold mIf
  simp only [ok_then, ok_ite]
theorem ok_yes : OKr (mYes ρ) PB ↔ PB true ρ := Iff.rfl
/-! statements -/
theorem ok_seq : OKr (mSeq F G ρ) PF ↔ OKr (F ρ) fun f ρ1 => (f = .nx → OKr (G ρ1) PF) ∧ (f ≠ .nx → PF f ρ1) := by
  unfold mSeq
  rw [ok_then]
  refine ⟨fun h => h.imp fun f ρ1 h => ?_, fun h => h.imp fun f ρ1 h => ?_⟩
  · cases f with
    | nx => exact ⟨fun _ => h, fun n => absurd rfl n⟩
    | rt s => exact ⟨fun e => (by cases e), fun _ => h⟩
    | bk => exact ⟨fun e => (by cases e), fun _ => h⟩
    | ct => exact ⟨fun e => (by cases e), fun _ => h⟩
  · cases f with
    | nx => exact h.1 rfl
    | rt s => exact h.2 (fun e => by cases e)
    | bk => exact h.2 (fun e => by cases e)
    | ct => exact h.2 (fun e => by cases e)
theorem fl_nx {A : Prop} {B : Prop} : ((Fl.nx = Fl.nx → A) ∧ (Fl.nx ≠ Fl.nx → B)) ↔ A := ⟨fun h => h.1 rfl, fun h => ⟨fun _ => h, fun n => absurd rfl n⟩⟩
theorem fl_rt {s : S} {A : Prop} {B : Prop} : ((Fl.rt s = Fl.nx → A) ∧ (Fl.rt s ≠ Fl.nx → B)) ↔ B := ⟨fun h => h.2 (fun e => by cases e), fun h => ⟨fun e => (by cases e), fun _ => h⟩⟩
theorem fl_bk {A : Prop} {B : Prop} : ((Fl.bk = Fl.nx → A) ∧ (Fl.bk ≠ Fl.nx → B)) ↔ B := ⟨fun h => h.2 (fun e => by cases e), fun h => ⟨fun e => (by cases e), fun _ => h⟩⟩
theorem fl_ct {A : Prop} {B : Prop} : ((Fl.ct = Fl.nx → A) ∧ (Fl.ct ≠ Fl.nx → B)) ↔ B := ⟨fun h => h.2 (fun e => by cases e), fun h => ⟨fun e => (by cases e), fun _ => h⟩⟩
theorem ok_nx : OKr (mNx ρ) PF ↔ PF .nx ρ := Iff.rfl
theorem ok_bk : OKr (mBk ρ) PF ↔ PF .bk ρ := Iff.rfl
theorem ok_ct : OKr (mCt ρ) PF ↔ PF .ct ρ := Iff.rfl
theorem ok_st : OKr (mSt ρ) PF ↔ False := Iff.rfl
theorem ok_ret : OKr (mRet fa ρ) PF ↔ OKr (fa ρ) fun s ρ1 => PF (.rt s) ρ1 := by
  unfold mRet
  simp only [ok_then, ok_ok]
theorem ok_retN : OKr (mRetN ρ) PF ↔ PF (.rt (.d .non)) ρ := Iff.rfl
theorem ok_ifS : OKr (mIfS ft F G ρ) PF ↔ OKr (ft ρ) fun b ρ1 => (b = true → OKr (F ρ1) PF) ∧ (¬b = true → OKr (G ρ1) PF) := by
  unfold mIfS
  simp only [ok_then, ok_ite]
theorem ok_drop : OKr (mDrop fa ρ) PF ↔ OKr (fa ρ) fun _ ρ1 => PF .nx ρ1 := by
  unfold mDrop
  simp only [ok_then, ok_ok]
theorem ok_asg {g : D → M Unit} : OKr (mAsg fa g ρ) PF ↔ OKr (dv fa ρ) fun x ρ1 => OKr (g x ρ1) fun _ ρ2 => PF .nx ρ2 := by
  unfold mAsg
  simp only [ok_then, ok_ok]
theorem ok_gname {i : Nat} {x : D} : OKr (gmName i x ρ) PU ↔ PU () (ρ.set i (some (.d x))) := Iff.rfl
theorem ok_call {f : Fn} : OKr (mCall f fA ρ) P ↔ OKr (fA ρ) fun ds ρ1 => OKFr (f (ds.map .d)) fun s => bare s = true ∧ P s ρ1 := by
  unfold mCall
  rw [ok_then]
  refine ⟨fun h => h.imp fun ds ρ1 h => ?_, fun h => h.imp fun ds ρ1 h => ?_⟩
  · cases e : f (ds.map .d) with
    | stuck => rw [e] at h; exact h.elim
    | err _ _ => rw [e] at h; exact h.elim
    | ok s ρ' =>
      rw [e] at h
      dsimp only at h
      rw [ok_ite] at h
      by_cases hb : bare s = true
      · exact ⟨hb, h.1 hb⟩
      · exact (h.2 hb).elim
  · obtain ⟨s, ρ', e, hb, k⟩ := h.at
    rw [e]
    dsimp only
    rw [if_pos hb]
    exact k
theorem okF_runF {np nN : Nat} {body : M Fl} {args : List S} {K : S → Prop} : OKFr (runF np nN body args) K ↔ args.length = np ∧ OKr (body (args.map some ++ List.replicate (nN - np) none)) fun f _ => (∃ s, f = .rt s ∧ K s) ∨ (f = .nx ∧ K (.d .non)) := by
  unfold OKFr runF
  by_cases ha : args.length = np
  · rw [if_pos ha]
    cases e : body (args.map some ++ List.replicate (nN - np) none) with
    | stuck => exact ⟨fun h => h.elim, fun h => h.2.elim⟩
    | err _ _ => exact ⟨fun h => h.elim, fun h => h.2.elim⟩
    | ok f ρ' =>
      cases f with
      | rt s => exact ⟨fun h => ⟨ha, .inl ⟨s, rfl, h⟩⟩, fun h => by
          rcases h.2 with ⟨t, e, k⟩ | ⟨e, k⟩
          · cases e; exact k
          · cases e⟩
      | nx => exact ⟨fun h => ⟨ha, .inr ⟨rfl, h⟩⟩, fun h => by
          rcases h.2 with ⟨t, e, k⟩ | ⟨e, k⟩
          · cases e
          · exact k⟩
      | bk => exact ⟨fun h => h.elim, fun h => by
          rcases h.2 with ⟨t, e, k⟩ | ⟨e, k⟩ <;> cases e⟩
      | ct => exact ⟨fun h => h.elim, fun h => by
          rcases h.2 with ⟨t, e, k⟩ | ⟨e, k⟩ <;> cases e⟩
  · rw [if_neg ha]
    exact ⟨fun h => h.elim, fun h => absurd h.1 ha⟩
theorem ok_runF {np nN : Nat} {body : M Fl} {args : List S} {K : S → En → Prop} (ha : args.length = np) (h : OKr (body (args.map some ++ List.replicate (nN - np) none)) fun f ρ => (∃ s, f = .rt s ∧ K s ρ) ∨ (f = .nx ∧ K (.d .non) ρ)) : OKr (runF np nN body args) K := by
  unfold runF
  rw [if_pos ha]
  obtain ⟨f, ρ', e, h⟩ := h.at
  rw [e]
  rcases h with ⟨t, rfl, k⟩ | ⟨rfl, k⟩
  · exact k
  · exact k
theorem rt_or {s : S} {K : S → Prop} : ((∃ t, Fl.rt s = .rt t ∧ K t) ∨ (Fl.rt s = .nx ∧ K (.d .non))) ↔ K s := by
  constructor
  · rintro (⟨t, e, k⟩ | ⟨e, _⟩)
    · cases e; exact k
    · cases e
  · exact fun h => .inl ⟨s, rfl, h⟩
theorem nx_or {K : S → Prop} : ((∃ t, Fl.nx = .rt t ∧ K t) ∨ (Fl.nx = .nx ∧ K (.d .non))) ↔ K (.d .non) := by
  constructor
  · rintro (⟨t, e, k⟩ | ⟨_, k⟩)
    · cases e
    · exact k
  · exact fun h => .inr ⟨rfl, h⟩
theorem okF_runL {np nN : Nat} {fe : M S} {args : List S} {K : S → Prop} : OKFr (runL np nN fe args) K ↔ args.length = np ∧ OKr (fe (args.map some ++ List.replicate (nN - np) none)) fun s _ => K s := by
  unfold OKFr runL
  by_cases ha : args.length = np
  · rw [if_pos ha]
    exact ⟨fun h => ⟨ha, h⟩, fun h => h.2⟩
  · rw [if_neg ha]
    exact ⟨fun h => h.elim, fun h => absurd h.1 ha⟩
/-! loops by what they keep -/
theorem ok_loop {gm : D → M Unit} {F : M Fl} {I : Nat → En → Prop} {PF : Fl → En → Prop} : ∀ {items : List D} {k : Nat} {ρ : En}, I k ρ →
    (∀ i x ρ, items[i]? = some x → I (k + i) ρ → OKr (gm x ρ) fun _ ρ1 => OKr (F ρ1) fun f ρ2 => (f = .nx ∨ f = .ct → I (k + i + 1) ρ2) ∧ (f = .bk → PF .nx ρ2) ∧ ∀ s, f = .rt s → PF (.rt s) ρ2) →
    (∀ ρ, I (k + items.length) ρ → PF .nx ρ) → OKr (mLoop gm F items ρ) PF
  | [], k, ρ, h, _, e => e ρ h
  | x :: xs, k, ρ, h, st, e => by
    show OKr ((gm x ρ).then fun _ ρ1 => (F ρ1).then fun f ρ2 => _) PF
    rw [ok_then]
    refine (st 0 x ρ rfl h).imp fun _ ρ1 h1 => ?_
    rw [ok_then]
    refine h1.imp fun f ρ2 ⟨a, b, d⟩ => ?_
    have st' : ∀ i y ρ, xs[i]? = some y → I (k + 1 + i) ρ → OKr (gm y ρ) fun _ ρ1 => OKr (F ρ1) fun f ρ2 => (f = .nx ∨ f = .ct → I (k + 1 + i + 1) ρ2) ∧ (f = .bk → PF .nx ρ2) ∧ ∀ s, f = .rt s → PF (.rt s) ρ2 := fun i y ρ hy hi => by
      have := st (i + 1) y ρ (by simpa using hy) (by rw [show k + (i + 1) = k + 1 + i by omega]; exact hi)
      rw [show k + (i + 1) + 1 = k + 1 + i + 1 by omega] at this
      exact this
    have e' : ∀ ρ, I (k + 1 + xs.length) ρ → PF .nx ρ := fun ρ h => e ρ (by rw [List.length_cons, show k + (xs.length + 1) = k + 1 + xs.length by omega]; exact h)
    cases f with
    | nx => exact ok_loop (k := k + 1) (a (.inl rfl)) st' e'
    | ct => exact ok_loop (k := k + 1) (a (.inr rfl)) st' e'
    | bk => exact b rfl
    | rt s => exact d s rfl
theorem ok_for {fI : M (List D)} {gm : D → M Unit} {F : M Fl} {PF : Fl → En → Prop} : OKr (mFor fI gm F ρ) PF ↔ OKr (fI ρ) fun items ρ1 => OKr (mLoop gm F items ρ1) PF := by
  unfold mFor
  rw [ok_then]
theorem ok_comp {gm : D → M Unit} {ft : M Bool} {fe : M S} {own : List Nat} {I : Nat → List D → En → Prop} {PL : List D → En → Prop} : ∀ {items : List D} {k : Nat} {acc : List D} {ρ : En}, I k acc ρ →
    (∀ i x acc ρ, items[i]? = some x → I (k + i) acc ρ → OKr (gm x ρ) fun _ ρ1 => OKr (ft ρ1) fun b ρ2 => (b = true → OKr (dv fe ρ2) fun y ρ3 => small (acc.length + 1) = true ∧ I (k + i + 1) (acc ++ [y]) (wipeE ρ3 own)) ∧ (¬b = true → I (k + i + 1) acc (wipeE ρ2 own))) →
    (∀ acc ρ, I (k + items.length) acc ρ → PL acc ρ) → OKr (mComp gm ft fe own items acc ρ) PL
  | [], k, acc, ρ, h, _, e => e acc ρ h
  | x :: xs, k, acc, ρ, h, st, e => by
    show OKr ((gm x ρ).calm.then fun _ ρ1 => (ft ρ1).calm.then fun b ρ2 => _) PL
    rw [ok_then, ok_calm]
    refine (st 0 x acc ρ rfl h).imp fun _ ρ1 h1 => ?_
    rw [ok_then, ok_calm]
    have st' : ∀ i y acc ρ, xs[i]? = some y → I (k + 1 + i) acc ρ → OKr (gm y ρ) fun _ ρ1 => OKr (ft ρ1) fun b ρ2 => (b = true → OKr (dv fe ρ2) fun y ρ3 => small (acc.length + 1) = true ∧ I (k + 1 + i + 1) (acc ++ [y]) (wipeE ρ3 own)) ∧ (¬b = true → I (k + 1 + i + 1) acc (wipeE ρ2 own)) := fun i y acc ρ hy hi => by
      have := st (i + 1) y acc ρ (by simpa using hy) (by rw [show k + (i + 1) = k + 1 + i by omega]; exact hi)
      rw [show k + (i + 1) + 1 = k + 1 + i + 1 by omega] at this
      exact this
    have e' : ∀ acc ρ, I (k + 1 + xs.length) acc ρ → PL acc ρ := fun acc ρ h => e acc ρ (by rw [List.length_cons, show k + (xs.length + 1) = k + 1 + xs.length by omega]; exact h)
    refine h1.imp fun b ρ2 ⟨a, d⟩ => ?_
    by_cases hb : b = true
    · rw [if_pos hb, ok_then, ok_calm]
      refine (a hb).imp fun y ρ3 ⟨hz, h⟩ => ?_
      rw [if_pos hz]
      exact ok_comp (k := k + 1) h st' e'
    · rw [if_neg hb]
      exact ok_comp (k := k + 1) (d hb) st' e'
theorem ok_lc {fI : M (List D)} {gm : D → M Unit} {ft : M Bool} {fe : M S} {own : List Nat} : OKr (mLc fI gm ft fe own ρ) P ↔ OKr (fI ρ) fun items ρ1 => OKr (mComp gm ft fe own items [] (wipeE ρ1 own)) fun ds ρ2 => P (.o none (.lst ds)) ρ2 := by
  unfold mLc
  simp only [ok_then, ok_ok]
theorem ok_tup : OKr (mTup fA ρ) P ↔ OKr (fA ρ) fun ds ρ1 => small ds.length = true ∧ P (.d (.tup ds)) ρ1 := by
  unfold mTup
  rw [ok_then]
  refine ⟨fun h => h.imp fun ds ρ1 h => ?_, fun h => h.imp fun ds ρ1 h => ?_⟩
  · by_cases hz : small ds.length = true
    · rw [if_pos hz] at h
      exact ⟨hz, h⟩
    · rw [if_neg hz] at h
      exact h.elim
  · rw [if_pos h.1]
    exact h.2
end
end R
/-- the run goes well and gives what P tells -/
@[irreducible] def OK {α : Type} (m : Out α) (P : α → En → Prop) : Prop := R.OKr m P
@[irreducible] def OKF (o : Out S) (K : S → Prop) : Prop := R.OKFr o K
theorem ok_eq : @OK = @R.OKr := by
  funext α m P
  unfold OK
  rfl
theorem okF_eq : @OKF = @R.OKFr := by
  funext o K
  unfold OKF
  rfl
theorem ok_of {α : Type} {m : Out α} {P : α → En → Prop} (h : R.OKr m P) : OK m P := by
  rw [ok_eq]
  exact h
theorem ok_out {α : Type} {m : Out α} {P : α → En → Prop} (h : OK m P) : R.OKr m P := by
  rw [ok_eq] at h
  exact h
theorem okF {o : Out S} {K : S → Prop} : OKF o K ↔ OK o fun s _ => K s := by
  rw [ok_eq, okF_eq]
  exact Iff.rfl
section
variable {α β : Type} {P Q : α → En → Prop}
theorem ok_ok {a : α} {ρ : En} : OK (.ok a ρ) P ↔ P a ρ := by
  first | exact R.ok_ok | skip
  all_goals (try simp only [okF_eq, ok_eq] at *)
  all_goals first | exact R.ok_ok | exact R.ok_ok (by assumption) | exact R.ok_ok (by assumption) (by assumption) | exact R.ok_ok (by assumption) (by assumption) (by assumption) | apply R.ok_ok <;> assumption
theorem ok_stuck : OK (.stuck : Out α) P ↔ False := by
  first | exact R.ok_stuck | skip
  all_goals (try simp only [okF_eq, ok_eq] at *)
  all_goals first | exact R.ok_stuck | exact R.ok_stuck (by assumption) | exact R.ok_stuck (by assumption) (by assumption) | exact R.ok_stuck (by assumption) (by assumption) (by assumption) | apply R.ok_stuck <;> assumption
theorem ok_then {m : Out α} {f : α → En → Out β} {P : β → En → Prop} : OK (m.then f) P ↔ OK m fun a ρ => OK (f a ρ) P := by
  first | exact R.ok_then | skip
  all_goals (try simp only [okF_eq, ok_eq] at *)
  all_goals first | exact R.ok_then | exact R.ok_then (by assumption) | exact R.ok_then (by assumption) (by assumption) | exact R.ok_then (by assumption) (by assumption) (by assumption) | apply R.ok_then <;> assumption
theorem ok_ite {c : Prop} [Decidable c] {a b : Out α} : OK (if c then a else b) P ↔ (c → OK a P) ∧ (¬c → OK b P) := by
  first | exact R.ok_ite | skip
  all_goals (try simp only [okF_eq, ok_eq] at *)
  all_goals first | exact R.ok_ite | exact R.ok_ite (by assumption) | exact R.ok_ite (by assumption) (by assumption) | exact R.ok_ite (by assumption) (by assumption) (by assumption) | apply R.ok_ite <;> assumption
theorem OK.imp {m : Out α} (h : OK m P) (k : ∀ a ρ, P a ρ → Q a ρ) : OK m Q := by
  first | exact R.OKr.imp | skip
  all_goals (try simp only [okF_eq, ok_eq] at *)
  all_goals first | exact R.OKr.imp | exact R.OKr.imp (by assumption) | exact R.OKr.imp (by assumption) (by assumption) | exact R.OKr.imp (by assumption) (by assumption) (by assumption) | apply R.OKr.imp <;> assumption
theorem OK.at {m : Out α} (h : OK m P) : ∃ a ρ, m = .ok a ρ ∧ P a ρ := by
  first | exact R.OKr.at | skip
  all_goals (try simp only [okF_eq, ok_eq] at *)
  all_goals first | exact R.OKr.at | exact R.OKr.at (by assumption) | exact R.OKr.at (by assumption) (by assumption) | exact R.OKr.at (by assumption) (by assumption) (by assumption) | apply R.OKr.at <;> assumption
theorem ok_calm {m : Out α} : OK m.calm P ↔ OK m P := by
  first | exact R.ok_calm | skip
  all_goals (try simp only [okF_eq, ok_eq] at *)
  all_goals first | exact R.ok_calm | exact R.ok_calm (by assumption) | exact R.ok_calm (by assumption) (by assumption) | exact R.ok_calm (by assumption) (by assumption) (by assumption) | apply R.ok_calm <;> assumption
theorem OKF.imp {o : Out S} {K K' : S → Prop} (h : OKF o K) (k : ∀ s, K s → K' s) : OKF o K' := by
  first | exact R.OKFr.imp | skip
  all_goals (try simp only [okF_eq, ok_eq] at *)
  all_goals first | exact R.OKFr.imp | exact R.OKFr.imp (by assumption) | exact R.OKFr.imp (by assumption) (by assumption) | exact R.OKFr.imp (by assumption) (by assumption) (by assumption) | apply R.OKFr.imp <;> assumption
end
section
variable {ρ : En} {P : S → En → Prop} {PB : Bool → En → Prop} {PA : List D → En → Prop} {PF : Fl → En → Prop} {PU : Unit → En → Prop} {fa fb fe : M S} {fA : M (List D)} {ft fu : M Bool} {F G : M Fl}
theorem ok_dv {f : M S} {K : D → En → Prop} : OK (dv f ρ) K ↔ OK (f ρ) fun s ρ' => ∃ x, toD s = some x ∧ K x ρ' := by
  first | exact R.ok_dv | skip
  all_goals (try simp only [okF_eq, ok_eq] at *)
  all_goals first | exact R.ok_dv | exact R.ok_dv (by assumption) | exact R.ok_dv (by assumption) (by assumption) | exact R.ok_dv (by assumption) (by assumption) (by assumption) | apply R.ok_dv <;> assumption
theorem ex_toD {x : D} {K : D → Prop} : (∃ y, toD (.d x) = some y ∧ K y) ↔ K x := by
  first | exact R.ex_toD | skip
  all_goals (try simp only [okF_eq, ok_eq] at *)
  all_goals first | exact R.ex_toD | exact R.ex_toD (by assumption) | exact R.ex_toD (by assumption) (by assumption) | exact R.ex_toD (by assumption) (by assumption) (by assumption) | apply R.ex_toD <;> assumption
theorem ex_toL {ds : List D} {K : D → Prop} : (∃ y, toD (.o none (.lst ds)) = some y ∧ K y) ↔ K (.lst ds) := by
  first | exact R.ex_toL | skip
  all_goals (try simp only [okF_eq, ok_eq] at *)
  all_goals first | exact R.ex_toL | exact R.ex_toL (by assumption) | exact R.ex_toL (by assumption) (by assumption) | exact R.ex_toL (by assumption) (by assumption) (by assumption) | apply R.ex_toL <;> assumption
theorem ok_c {x : D} : OK (mC x ρ) P ↔ P (.d x) ρ := by
  first | exact R.ok_c | skip
  all_goals (try simp only [okF_eq, ok_eq] at *)
  all_goals first | exact R.ok_c | exact R.ok_c (by assumption) | exact R.ok_c (by assumption) (by assumption) | exact R.ok_c (by assumption) (by assumption) (by assumption) | apply R.ok_c <;> assumption
theorem ok_var {i : Nat} : OK (mVar i ρ) P ↔ OK (mVar i ρ) P := by
  first | exact R.ok_var | skip
  all_goals (try simp only [okF_eq, ok_eq] at *)
  all_goals first | exact R.ok_var | exact R.ok_var (by assumption) | exact R.ok_var (by assumption) (by assumption) | exact R.ok_var (by assumption) (by assumption) (by assumption) | apply R.ok_var <;> assumption
theorem ok_varD {i : Nat} {x : D} (e : ρ[i]? = some (some (.d x))) : OK (mVar i ρ) P ↔ P (.d x) ρ := by
  first | exact R.ok_varD | skip
  all_goals (try simp only [okF_eq, ok_eq] at *)
  all_goals first | exact R.ok_varD | exact R.ok_varD (by assumption) | exact R.ok_varD (by assumption) (by assumption) | exact R.ok_varD (by assumption) (by assumption) (by assumption) | apply R.ok_varD <;> assumption
theorem ok_op {g : D → D → Option S} : OK (mOp g fa fb ρ) P ↔ OK (dv fa ρ) fun x ρ1 => OK (dv fb ρ1) fun y ρ2 => ∃ s, g x y = some s ∧ P s ρ2 := by
  first | exact R.ok_op | skip
  all_goals (try simp only [okF_eq, ok_eq] at *)
  all_goals first | exact R.ok_op | exact R.ok_op (by assumption) | exact R.ok_op (by assumption) (by assumption) | exact R.ok_op (by assumption) (by assumption) (by assumption) | apply R.ok_op <;> assumption
theorem ok_un {g : D → Option S} : OK (mUn g fa ρ) P ↔ OK (dv fa ρ) fun x ρ1 => ∃ s, g x = some s ∧ P s ρ1 := by
  first | exact R.ok_un | skip
  all_goals (try simp only [okF_eq, ok_eq] at *)
  all_goals first | exact R.ok_un | exact R.ok_un (by assumption) | exact R.ok_un (by assumption) (by assumption) | exact R.ok_un (by assumption) (by assumption) (by assumption) | apply R.ok_un <;> assumption
theorem ok_nil : OK (aNil ρ) PA ↔ PA [] ρ := by
  first | exact R.ok_nil | skip
  all_goals (try simp only [okF_eq, ok_eq] at *)
  all_goals first | exact R.ok_nil | exact R.ok_nil (by assumption) | exact R.ok_nil (by assumption) (by assumption) | exact R.ok_nil (by assumption) (by assumption) (by assumption) | apply R.ok_nil <;> assumption
theorem ok_cons {fr : M (List D)} : OK (aCons fa fr ρ) PA ↔ OK (dv fa ρ) fun x ρ1 => OK (fr ρ1) fun ds ρ2 => PA (x :: ds) ρ2 := by
  first | exact R.ok_cons | skip
  all_goals (try simp only [okF_eq, ok_eq] at *)
  all_goals first | exact R.ok_cons | exact R.ok_cons (by assumption) | exact R.ok_cons (by assumption) (by assumption) | exact R.ok_cons (by assumption) (by assumption) (by assumption) | apply R.ok_cons <;> assumption
theorem ok_cb {g : List D → Option S} : OK (mCB g fA ρ) P ↔ OK (fA ρ) fun ds ρ1 => ∃ s, g ds = some s ∧ P s ρ1 := by
  first | exact R.ok_cb | skip
  all_goals (try simp only [okF_eq, ok_eq] at *)
  all_goals first | exact R.ok_cb | exact R.ok_cb (by assumption) | exact R.ok_cb (by assumption) (by assumption) | exact R.ok_cb (by assumption) (by assumption) (by assumption) | apply R.ok_cb <;> assumption
theorem ok_test : OK (mTest fa ρ) PB ↔ OK (dv fa ρ) fun x ρ1 => ∃ b, x = .bl b ∧ PB b ρ1 := by
  first | exact R.ok_test | skip
  all_goals (try simp only [okF_eq, ok_eq] at *)
  all_goals first | exact R.ok_test | exact R.ok_test (by assumption) | exact R.ok_test (by assumption) (by assumption) | exact R.ok_test (by assumption) (by assumption) (by assumption) | apply R.ok_test <;> assumption
theorem ex_bl {b : Bool} {K : Bool → Prop} : (∃ c, D.bl b = D.bl c ∧ K c) ↔ K b := by
  first | exact R.ex_bl | skip
  all_goals (try simp only [okF_eq, ok_eq] at *)
  all_goals first | exact R.ex_bl | exact R.ex_bl (by assumption) | exact R.ex_bl (by assumption) (by assumption) | exact R.ex_bl (by assumption) (by assumption) (by assumption) | apply R.ex_bl <;> assumption
theorem ok_not : OK (mNot ft ρ) PB ↔ OK (ft ρ) fun b ρ1 => PB (!b) ρ1 := by
  first | exact R.ok_not | skip
  all_goals (try simp only [okF_eq, ok_eq] at *)
  all_goals first | exact R.ok_not | exact R.ok_not (by assumption) | exact R.ok_not (by assumption) (by assumption) | exact R.ok_not (by assumption) (by assumption) (by assumption) | apply R.ok_not <;> assumption
theorem ok_and : OK (mAnd ft fu ρ) PB ↔ OK (ft ρ) fun b ρ1 => (b = true → OK (fu ρ1) PB) ∧ (¬b = true → PB false ρ1) := by
  first | exact R.ok_and | skip
  all_goals (try simp only [okF_eq, ok_eq] at *)
  all_goals first | exact R.ok_and | exact R.ok_and (by assumption) | exact R.ok_and (by assumption) (by assumption) | exact R.ok_and (by assumption) (by assumption) (by assumption) | apply R.ok_and <;> assumption
theorem ok_or : OK (mOr ft fu ρ) PB ↔ OK (ft ρ) fun b ρ1 => (b = true → PB true ρ1) ∧ (¬b = true → OK (fu ρ1) PB) := by
  first | exact R.ok_or | skip
  all_goals (try simp only [okF_eq, ok_eq] at *)
  all_goals first | exact R.ok_or | exact R.ok_or (by assumption) | exact R.ok_or (by assumption) (by assumption) | exact R.ok_or (by assumption) (by assumption) (by assumption) | apply R.ok_or <;> assumption
theorem ok_andV : OK (mAndV fa fb ρ) P ↔ OK (mTest fa ρ) fun b ρ1 => (b = true → OK (fb ρ1) P) ∧ (¬b = true → P (.d (.bl false)) ρ1) := by
  first | exact R.ok_andV | skip
  all_goals (try simp only [okF_eq, ok_eq] at *)
  all_goals first | exact R.ok_andV | exact R.ok_andV (by assumption) | exact R.ok_andV (by assumption) (by assumption) | exact R.ok_andV (by assumption) (by assumption) (by assumption) | apply R.ok_andV <;> assumption
theorem ok_orV : OK (mOrV fa fb ρ) P ↔ OK (mTest fa ρ) fun b ρ1 => (b = true → P (.d (.bl true)) ρ1) ∧ (¬b = true → OK (fb ρ1) P) := by
  first | exact R.ok_orV | skip
  all_goals (try simp only [okF_eq, ok_eq] at *)
  all_goals first | exact R.ok_orV | exact R.ok_orV (by assumption) | exact R.ok_orV (by assumption) (by assumption) | exact R.ok_orV (by assumption) (by assumption) (by assumption) | apply R.ok_orV <;> assumption
theorem ok_notV : OK (mNotV fa ρ) P ↔ OK (mTest fa ρ) fun b ρ1 => P (.d (.bl (!b))) ρ1 := by
  first | exact R.ok_notV | skip
  all_goals (try simp only [okF_eq, ok_eq] at *)
  all_goals first | exact R.ok_notV | exact R.ok_notV (by assumption) | exact R.ok_notV (by assumption) (by assumption) | exact R.ok_notV (by assumption) (by assumption) (by assumption) | apply R.ok_notV <;> assumption
theorem ok_if : OK (mIf ft fa fb ρ) P ↔ OK (ft ρ) fun b ρ1 => (b = true → OK (fa ρ1) P) ∧ (¬b = true → OK (fb ρ1) P) := by
  first | exact R.ok_if | skip
  all_goals (try simp only [okF_eq, ok_eq] at *)
  all_goals first | exact R.ok_if | exact R.ok_if (by assumption) | exact R.ok_if (by assumption) (by assumption) | exact R.ok_if (by assumption) (by assumption) (by assumption) | apply R.ok_if <;> assumption
theorem ok_yes : OK (mYes ρ) PB ↔ PB true ρ := by
  first | exact R.ok_yes | skip
  all_goals (try simp only [okF_eq, ok_eq] at *)
  all_goals first | exact R.ok_yes | exact R.ok_yes (by assumption) | exact R.ok_yes (by assumption) (by assumption) | exact R.ok_yes (by assumption) (by assumption) (by assumption) | apply R.ok_yes <;> assumption
/-! statements -/
theorem ok_seq : OK (mSeq F G ρ) PF ↔ OK (F ρ) fun f ρ1 => (f = .nx → OK (G ρ1) PF) ∧ (f ≠ .nx → PF f ρ1) := by
  first | exact R.ok_seq | skip
  all_goals (try simp only [okF_eq, ok_eq] at *)
  all_goals first | exact R.ok_seq | exact R.ok_seq (by assumption) | exact R.ok_seq (by assumption) (by assumption) | exact R.ok_seq (by assumption) (by assumption) (by assumption) | apply R.ok_seq <;> assumption
theorem fl_nx {A : Prop} {B : Prop} : ((Fl.nx = Fl.nx → A) ∧ (Fl.nx ≠ Fl.nx → B)) ↔ A := by
  first | exact R.fl_nx | skip
  all_goals (try simp only [okF_eq, ok_eq] at *)
  all_goals first | exact R.fl_nx | exact R.fl_nx (by assumption) | exact R.fl_nx (by assumption) (by assumption) | exact R.fl_nx (by assumption) (by assumption) (by assumption) | apply R.fl_nx <;> assumption
theorem fl_rt {s : S} {A : Prop} {B : Prop} : ((Fl.rt s = Fl.nx → A) ∧ (Fl.rt s ≠ Fl.nx → B)) ↔ B := by
  first | exact R.fl_rt | skip
  all_goals (try simp only [okF_eq, ok_eq] at *)
  all_goals first | exact R.fl_rt | exact R.fl_rt (by assumption) | exact R.fl_rt (by assumption) (by assumption) | exact R.fl_rt (by assumption) (by assumption) (by assumption) | apply R.fl_rt <;> assumption
theorem fl_bk {A : Prop} {B : Prop} : ((Fl.bk = Fl.nx → A) ∧ (Fl.bk ≠ Fl.nx → B)) ↔ B := by
  first | exact R.fl_bk | skip
  all_goals (try simp only [okF_eq, ok_eq] at *)
  all_goals first | exact R.fl_bk | exact R.fl_bk (by assumption) | exact R.fl_bk (by assumption) (by assumption) | exact R.fl_bk (by assumption) (by assumption) (by assumption) | apply R.fl_bk <;> assumption
theorem fl_ct {A : Prop} {B : Prop} : ((Fl.ct = Fl.nx → A) ∧ (Fl.ct ≠ Fl.nx → B)) ↔ B := by
  first | exact R.fl_ct | skip
  all_goals (try simp only [okF_eq, ok_eq] at *)
  all_goals first | exact R.fl_ct | exact R.fl_ct (by assumption) | exact R.fl_ct (by assumption) (by assumption) | exact R.fl_ct (by assumption) (by assumption) (by assumption) | apply R.fl_ct <;> assumption
theorem ok_nx : OK (mNx ρ) PF ↔ PF .nx ρ := by
  first | exact R.ok_nx | skip
  all_goals (try simp only [okF_eq, ok_eq] at *)
  all_goals first | exact R.ok_nx | exact R.ok_nx (by assumption) | exact R.ok_nx (by assumption) (by assumption) | exact R.ok_nx (by assumption) (by assumption) (by assumption) | apply R.ok_nx <;> assumption
theorem ok_bk : OK (mBk ρ) PF ↔ PF .bk ρ := by
  first | exact R.ok_bk | skip
  all_goals (try simp only [okF_eq, ok_eq] at *)
  all_goals first | exact R.ok_bk | exact R.ok_bk (by assumption) | exact R.ok_bk (by assumption) (by assumption) | exact R.ok_bk (by assumption) (by assumption) (by assumption) | apply R.ok_bk <;> assumption
theorem ok_ct : OK (mCt ρ) PF ↔ PF .ct ρ := by
  first | exact R.ok_ct | skip
  all_goals (try simp only [okF_eq, ok_eq] at *)
  all_goals first | exact R.ok_ct | exact R.ok_ct (by assumption) | exact R.ok_ct (by assumption) (by assumption) | exact R.ok_ct (by assumption) (by assumption) (by assumption) | apply R.ok_ct <;> assumption
theorem ok_st : OK (mSt ρ) PF ↔ False := by
  first | exact R.ok_st | skip
  all_goals (try simp only [okF_eq, ok_eq] at *)
  all_goals first | exact R.ok_st | exact R.ok_st (by assumption) | exact R.ok_st (by assumption) (by assumption) | exact R.ok_st (by assumption) (by assumption) (by assumption) | apply R.ok_st <;> assumption
theorem ok_ret : OK (mRet fa ρ) PF ↔ OK (fa ρ) fun s ρ1 => PF (.rt s) ρ1 := by
  first | exact R.ok_ret | skip
  all_goals (try simp only [okF_eq, ok_eq] at *)
  all_goals first | exact R.ok_ret | exact R.ok_ret (by assumption) | exact R.ok_ret (by assumption) (by assumption) | exact R.ok_ret (by assumption) (by assumption) (by assumption) | apply R.ok_ret <;> assumption
theorem ok_retN : OK (mRetN ρ) PF ↔ PF (.rt (.d .non)) ρ := by
  first | exact R.ok_retN | skip
  all_goals (try simp only [okF_eq, ok_eq] at *)
  all_goals first | exact R.ok_retN | exact R.ok_retN (by assumption) | exact R.ok_retN (by assumption) (by assumption) | exact R.ok_retN (by assumption) (by assumption) (by assumption) | apply R.ok_retN <;> assumption
theorem ok_ifS : OK (mIfS ft F G ρ) PF ↔ OK (ft ρ) fun b ρ1 => (b = true → OK (F ρ1) PF) ∧ (¬b = true → OK (G ρ1) PF) := by
  first | exact R.ok_ifS | skip
  all_goals (try simp only [okF_eq, ok_eq] at *)
  all_goals first | exact R.ok_ifS | exact R.ok_ifS (by assumption) | exact R.ok_ifS (by assumption) (by assumption) | exact R.ok_ifS (by assumption) (by assumption) (by assumption) | apply R.ok_ifS <;> assumption
theorem ok_drop : OK (mDrop fa ρ) PF ↔ OK (fa ρ) fun _ ρ1 => PF .nx ρ1 := by
  first | exact R.ok_drop | skip
  all_goals (try simp only [okF_eq, ok_eq] at *)
  all_goals first | exact R.ok_drop | exact R.ok_drop (by assumption) | exact R.ok_drop (by assumption) (by assumption) | exact R.ok_drop (by assumption) (by assumption) (by assumption) | apply R.ok_drop <;> assumption
theorem ok_asg {g : D → M Unit} : OK (mAsg fa g ρ) PF ↔ OK (dv fa ρ) fun x ρ1 => OK (g x ρ1) fun _ ρ2 => PF .nx ρ2 := by
  first | exact R.ok_asg | skip
  all_goals (try simp only [okF_eq, ok_eq] at *)
  all_goals first | exact R.ok_asg | exact R.ok_asg (by assumption) | exact R.ok_asg (by assumption) (by assumption) | exact R.ok_asg (by assumption) (by assumption) (by assumption) | apply R.ok_asg <;> assumption
theorem ok_gname {i : Nat} {x : D} : OK (gmName i x ρ) PU ↔ PU () (ρ.set i (some (.d x))) := by
  first | exact R.ok_gname | skip
  all_goals (try simp only [okF_eq, ok_eq] at *)
  all_goals first | exact R.ok_gname | exact R.ok_gname (by assumption) | exact R.ok_gname (by assumption) (by assumption) | exact R.ok_gname (by assumption) (by assumption) (by assumption) | apply R.ok_gname <;> assumption
theorem ok_call {f : Fn} : OK (mCall f fA ρ) P ↔ OK (fA ρ) fun ds ρ1 => OKF (f (ds.map .d)) fun s => bare s = true ∧ P s ρ1 := by
  first | exact R.ok_call | skip
  all_goals (try simp only [okF_eq, ok_eq] at *)
  all_goals first | exact R.ok_call | exact R.ok_call (by assumption) | exact R.ok_call (by assumption) (by assumption) | exact R.ok_call (by assumption) (by assumption) (by assumption) | apply R.ok_call <;> assumption
theorem okF_runF {np nN : Nat} {body : M Fl} {args : List S} {K : S → Prop} : OKF (runF np nN body args) K ↔ args.length = np ∧ OK (body (args.map some ++ List.replicate (nN - np) none)) fun f _ => (∃ s, f = .rt s ∧ K s) ∨ (f = .nx ∧ K (.d .non)) := by
  first | exact R.okF_runF | skip
  all_goals (try simp only [okF_eq, ok_eq] at *)
  all_goals first | exact R.okF_runF | exact R.okF_runF (by assumption) | exact R.okF_runF (by assumption) (by assumption) | exact R.okF_runF (by assumption) (by assumption) (by assumption) | apply R.okF_runF <;> assumption
theorem ok_runF {np nN : Nat} {body : M Fl} {args : List S} {K : S → En → Prop} (ha : args.length = np) (h : OK (body (args.map some ++ List.replicate (nN - np) none)) fun f ρ => (∃ s, f = .rt s ∧ K s ρ) ∨ (f = .nx ∧ K (.d .non) ρ)) : OK (runF np nN body args) K := by
  first | exact R.ok_runF | skip
  all_goals (try simp only [okF_eq, ok_eq] at *)
  all_goals first | exact R.ok_runF | exact R.ok_runF (by assumption) | exact R.ok_runF (by assumption) (by assumption) | exact R.ok_runF (by assumption) (by assumption) (by assumption) | apply R.ok_runF <;> assumption
theorem rt_or {s : S} {K : S → Prop} : ((∃ t, Fl.rt s = .rt t ∧ K t) ∨ (Fl.rt s = .nx ∧ K (.d .non))) ↔ K s := by
  first | exact R.rt_or | skip
  all_goals (try simp only [okF_eq, ok_eq] at *)
  all_goals first | exact R.rt_or | exact R.rt_or (by assumption) | exact R.rt_or (by assumption) (by assumption) | exact R.rt_or (by assumption) (by assumption) (by assumption) | apply R.rt_or <;> assumption
theorem nx_or {K : S → Prop} : ((∃ t, Fl.nx = .rt t ∧ K t) ∨ (Fl.nx = .nx ∧ K (.d .non))) ↔ K (.d .non) := by
  first | exact R.nx_or | skip
  all_goals (try simp only [okF_eq, ok_eq] at *)
  all_goals first | exact R.nx_or | exact R.nx_or (by assumption) | exact R.nx_or (by assumption) (by assumption) | exact R.nx_or (by assumption) (by assumption) (by assumption) | apply R.nx_or <;> assumption
theorem okF_runL {np nN : Nat} {fe : M S} {args : List S} {K : S → Prop} : OKF (runL np nN fe args) K ↔ args.length = np ∧ OK (fe (args.map some ++ List.replicate (nN - np) none)) fun s _ => K s := by
  first | exact R.okF_runL | skip
  all_goals (try simp only [okF_eq, ok_eq] at *)
  all_goals first | exact R.okF_runL | exact R.okF_runL (by assumption) | exact R.okF_runL (by assumption) (by assumption) | exact R.okF_runL (by assumption) (by assumption) (by assumption) | apply R.okF_runL <;> assumption
/-! loops by what they keep -/
theorem ok_loop {gm : D → M Unit} {F : M Fl} {I : Nat → En → Prop} {PF : Fl → En → Prop} : ∀ {items : List D} {k : Nat} {ρ : En}, I k ρ →
    (∀ i x ρ, items[i]? = some x → I (k + i) ρ → OK (gm x ρ) fun _ ρ1 => OK (F ρ1) fun f ρ2 => (f = .nx ∨ f = .ct → I (k + i + 1) ρ2) ∧ (f = .bk → PF .nx ρ2) ∧ ∀ s, f = .rt s → PF (.rt s) ρ2) →
    (∀ ρ, I (k + items.length) ρ → PF .nx ρ) → OK (mLoop gm F items ρ) PF := by
  first | exact R.ok_loop | skip
  all_goals (try simp only [okF_eq, ok_eq] at *)
  all_goals first | exact R.ok_loop | exact R.ok_loop (by assumption) | exact R.ok_loop (by assumption) (by assumption) | exact R.ok_loop (by assumption) (by assumption) (by assumption) | apply R.ok_loop <;> assumption
theorem ok_for {fI : M (List D)} {gm : D → M Unit} {F : M Fl} {PF : Fl → En → Prop} : OK (mFor fI gm F ρ) PF ↔ OK (fI ρ) fun items ρ1 => OK (mLoop gm F items ρ1) PF := by
  first | exact R.ok_for | skip
  all_goals (try simp only [okF_eq, ok_eq] at *)
  all_goals first | exact R.ok_for | exact R.ok_for (by assumption) | exact R.ok_for (by assumption) (by assumption) | exact R.ok_for (by assumption) (by assumption) (by assumption) | apply R.ok_for <;> assumption
theorem ok_comp {gm : D → M Unit} {ft : M Bool} {fe : M S} {own : List Nat} {I : Nat → List D → En → Prop} {PL : List D → En → Prop} : ∀ {items : List D} {k : Nat} {acc : List D} {ρ : En}, I k acc ρ →
    (∀ i x acc ρ, items[i]? = some x → I (k + i) acc ρ → OK (gm x ρ) fun _ ρ1 => OK (ft ρ1) fun b ρ2 => (b = true → OK (dv fe ρ2) fun y ρ3 => small (acc.length + 1) = true ∧ I (k + i + 1) (acc ++ [y]) (wipeE ρ3 own)) ∧ (¬b = true → I (k + i + 1) acc (wipeE ρ2 own))) →
    (∀ acc ρ, I (k + items.length) acc ρ → PL acc ρ) → OK (mComp gm ft fe own items acc ρ) PL := by
  first | exact R.ok_comp | skip
  all_goals (try simp only [okF_eq, ok_eq] at *)
  all_goals first | exact R.ok_comp | exact R.ok_comp (by assumption) | exact R.ok_comp (by assumption) (by assumption) | exact R.ok_comp (by assumption) (by assumption) (by assumption) | apply R.ok_comp <;> assumption
theorem ok_lc {fI : M (List D)} {gm : D → M Unit} {ft : M Bool} {fe : M S} {own : List Nat} : OK (mLc fI gm ft fe own ρ) P ↔ OK (fI ρ) fun items ρ1 => OK (mComp gm ft fe own items [] (wipeE ρ1 own)) fun ds ρ2 => P (.o none (.lst ds)) ρ2 := by
  first | exact R.ok_lc | skip
  all_goals (try simp only [okF_eq, ok_eq] at *)
  all_goals first | exact R.ok_lc | exact R.ok_lc (by assumption) | exact R.ok_lc (by assumption) (by assumption) | exact R.ok_lc (by assumption) (by assumption) (by assumption) | apply R.ok_lc <;> assumption
theorem ok_tup : OK (mTup fA ρ) P ↔ OK (fA ρ) fun ds ρ1 => small ds.length = true ∧ P (.d (.tup ds)) ρ1 := by
  first | exact R.ok_tup | skip
  all_goals (try simp only [okF_eq, ok_eq] at *)
  all_goals first | exact R.ok_tup | exact R.ok_tup (by assumption) | exact R.ok_tup (by assumption) (by assumption) | exact R.ok_tup (by assumption) (by assumption) (by assumption) | apply R.ok_tup <;> assumption
end
end Fx
/-! the checks and the draws, on data -/
namespace Fx
open PySem
namespace R
theorem ok_chain {g g' : D → D → Option S} {fa fb fc : M S} {ρ : En} {P : S → En → Prop} : OKr (mChain g g' fa fb fc ρ) P ↔ OKr (dv fa ρ) fun x ρ1 => OKr (dv fb ρ1) fun y ρ2 => ∃ b, g x y = some (.d (.bl b)) ∧ (b = true → OKr (dv fc ρ2) fun z ρ3 => ∃ s, g' y z = some s ∧ P s ρ3) ∧ (¬b = true → P (.d (.bl false)) ρ2) := by
  unfold mChain
  simp only [ok_then]
  constructor
  · exact fun h => h.imp fun x ρ1 h => h.imp fun y ρ2 h => by
      split at h
      · rename_i e
        refine ⟨true, e, fun _ => ?_, fun n => absurd rfl n⟩
        rw [ok_then] at h
        refine h.imp fun z ρ3 h => ?_
        cases e : g' y z with
        | none => rw [e] at h; exact h.elim
        | some s => rw [e] at h; exact ⟨s, rfl, h⟩
      · rename_i e
        exact ⟨false, e, fun n => (by cases n), fun _ => h⟩
      · exact h.elim
  · exact fun h => h.imp fun x ρ1 h => h.imp fun y ρ2 h => by
      obtain ⟨b, e, h1, h2⟩ := h
      rw [e]
      cases b with
      | true =>
        dsimp only
        rw [ok_then]
        refine (h1 rfl).imp fun z ρ3 h => ?_
        obtain ⟨s, e, k⟩ := h
        rw [e]
        exact k
      | false => exact h2 (by decide)
end R
theorem ok_chain {g g' : D → D → Option S} {fa fb fc : M S} {ρ : En} {P : S → En → Prop} : OK (mChain g g' fa fb fc ρ) P ↔ OK (dv fa ρ) fun x ρ1 => OK (dv fb ρ1) fun y ρ2 => ∃ b, g x y = some (.d (.bl b)) ∧ (b = true → OK (dv fc ρ2) fun z ρ3 => ∃ s, g' y z = some s ∧ P s ρ3) ∧ (¬b = true → P (.d (.bl false)) ρ2) := by
  simp only [ok_eq]
  exact R.ok_chain
theorem ex_some {α : Type} {a : α} {K : α → Prop} : (∃ s, some a = some s ∧ K s) ↔ K a := ⟨fun ⟨s, e, k⟩ => by cases e; exact k, fun k => ⟨a, rfl, k⟩⟩
theorem ex_bl1 {b : Bool} {K : Bool → Prop} : (∃ c, some (S.d (.bl b)) = some (S.d (.bl c)) ∧ K c) ↔ K b := ⟨fun ⟨s, e, k⟩ => by cases e; exact k, fun k => ⟨b, rfl, k⟩⟩
section
variable {k : Nat} {fe : M S} {items : List D} {ρ0 : En} {f : D → D} {PL : List D → En → Prop}
/-- a comprehension whose element is told of its item alone -/
theorem ok_map (hw : ρ0.set k none = ρ0) (st : ∀ x ∈ items, OK (dv fe (ρ0.set k (some (.d x)))) fun y ρ3 => y = f x ∧ ρ3.set k none = ρ0) (hs : items.length ≤ 16777216) (q : PL (items.map f) ρ0) : OK (mComp (gmName k) mYes fe [k] items [] ρ0) PL := by
  refine ok_comp (I := fun i acc ρ => acc = (items.take i).map f ∧ ρ = ρ0) (k := 0) ⟨rfl, rfl⟩ ?_ ?_
  · rintro i x acc ρ hx ⟨rfl, rfl⟩
    have hi : i < items.length := (List.getElem?_eq_some_iff.mp hx).1
    rw [ok_gname, ok_yes]
    refine ⟨fun _ => ?_, fun n => absurd rfl n⟩
    refine (st x (List.mem_of_getElem? hx)).imp fun y ρ3 ⟨e1, e2⟩ => ⟨?_, ?_, ?_⟩
    · rw [List.length_map, List.length_take, Nat.zero_add, Nat.min_eq_left (Nat.le_of_lt hi)]
      exact decide_eq_true (by omega)
    · rw [e1, Nat.zero_add, List.take_add_one, hx, List.map_append]
      rfl
    · exact e2
  · rintro acc ρ ⟨rfl, rfl⟩
    rw [Nat.zero_add, List.take_length]
    exact q
end
theorem blsD_map {α : Type} {g : α → Bool} : ∀ xs : List α, blsD (xs.map fun x => D.bl (g x)) = some (xs.map g)
  | [] => rfl
  | x :: xs => by
    show (blsD (xs.map fun x => D.bl (g x))).map (g x :: ·) = _
    rw [blsD_map xs]
    rfl
section
variable {x0 x1 x2 x3 : D}
theorem at1 : L2.atI [x0, x1, x2, x3] 1 = some x1 := rfl
end
/-- a law's row of draws -/
def rowD (ns : List Int) (a b c : Int) : D := .lst [.scr ns, .int a, .int b, .int c]
def RowOk (a b c : Int) : Prop := 0 ≤ a ∧ 0 ≤ b ∧ b < 2147483647 ∧ 0 ≤ c
section
variable {K : S → Prop} {i j : Int}
theorem e_add : (∃ s, gAdd (.int i) (.int j) = some s ∧ K s) ↔ K (.d (.int (i + j))) := ex_some
theorem e_sub : (∃ s, gMinus (.int i) (.int j) = some s ∧ K s) ↔ K (.d (.int (i - j))) := ex_some
theorem e_mul (h : i64 j = true) : (∃ s, gMul (.int i) (.int j) = some s ∧ K s) ↔ K (.d (.int (i * j))) := by
  have e : gMul (.int i) (.int j) = ok1 (.int (i * j)) := by
    show (if (i64 i || i64 j) = true then ok1 (.int (i * j)) else none) = _
    rw [if_pos (by rw [h, Bool.or_true])]
  rw [e]
  exact ex_some
theorem e_mod (h : 0 < j) : (∃ s, gMod (.int i) (.int j) = some s ∧ K s) ↔ K (.d (.int (i % j))) := by
  unfold gMod gIIc
  dsimp only
  rw [if_pos (decide_eq_true h)]
  exact ex_some
theorem e_div (h : 0 < j) (h2 : j < 1073741824) : (∃ s, gDiv (.int i) (.int j) = some s ∧ K s) ↔ K (.d (.int (i / j))) := by
  have e : gDiv (.int i) (.int j) = ok1 (.int (i / j)) := by
    show (if (decide (0 < j) && decide (j < 1073741824)) = true then ok1 (.int (i / j)) else none) = _
    rw [if_pos (by simp [h, h2])]
  rw [e]
  exact ex_some
theorem e_pow : (∃ s, gPow (.int 10) (.int 18) = some s ∧ K s) ↔ K (.d (.int 1000000000000000000)) := ex_some
theorem e_int : (∃ s, gInt1 [.int i] = some s ∧ K s) ↔ K (.d (.int i)) := ex_some
theorem e_lenS {ns : List Int} : (∃ s, gLen [.scr ns] = some s ∧ K s) ↔ K (.d (.int ns.length)) := ex_some
theorem e_lenT {ds : List D} : (∃ s, gLen [.tup ds] = some s ∧ K s) ↔ K (.d (.int ds.length)) := ex_some
theorem e_lenL {ds : List D} : (∃ s, gLen [.lst ds] = some s ∧ K s) ↔ K (.d (.int ds.length)) := ex_some
theorem at_nat {α : Type} {xs : List α} {i : Int} (h0 : 0 ≤ i) (h1 : i < xs.length) : ∃ x, L2.atI xs i = some x ∧ xs[i.toNat]? = some x := by
  have hj : i.toNat < xs.length := by omega
  refine ⟨xs[i.toNat], ?_, List.getElem?_eq_getElem hj⟩
  have := L2.atI_nat (xs := xs) (List.getElem?_eq_getElem hj)
  rwa [Int.toNat_of_nonneg h0] at this
theorem e_ixS {ns : List Int} (h0 : 0 ≤ i) (h1 : i < ns.length) : (∃ s, gIx (.scr ns) (.int i) = some s ∧ K s) ↔ K (.d (.int ((ns[i.toNat]?).getD 0))) := by
  obtain ⟨x, e1, e2⟩ := at_nat h0 h1
  show (∃ s, (L2.atI ns i).bind (fun n => ok1 (.int n)) = some s ∧ K s) ↔ _
  rw [e1, e2]
  exact ex_some
theorem e_ixT {ds : List D} (h0 : 0 ≤ i) (h1 : i < ds.length) : (∃ s, gIx (.tup ds) (.int i) = some s ∧ K s) ↔ K (.d ((ds[i.toNat]?).getD .non)) := by
  obtain ⟨x, e1, e2⟩ := at_nat h0 h1
  show (∃ s, (L2.atI ds i).bind ok1 = some s ∧ K s) ↔ _
  rw [e1, e2]
  exact ex_some
theorem e_lt : (∃ s, gLt (.int i) (.int j) = some s ∧ K s) ↔ K (.d (.bl (decide (i < j)))) := ex_some
theorem e_le : (∃ s, gLe (.int i) (.int j) = some s ∧ K s) ↔ K (.d (.bl (decide (i ≤ j)))) := ex_some
theorem e_gt : (∃ s, gGt (.int i) (.int j) = some s ∧ K s) ↔ K (.d (.bl (decide (j < i)))) := ex_some
theorem e_ge : (∃ s, gGe (.int i) (.int j) = some s ∧ K s) ↔ K (.d (.bl (decide (j ≤ i)))) := ex_some
theorem e_leC {K : Bool → Prop} : (∃ b, gLe (.int i) (.int j) = some (S.d (.bl b)) ∧ K b) ↔ K (decide (i ≤ j)) := ex_bl1
theorem e_ltC {K : Bool → Prop} : (∃ b, gLt (.int i) (.int j) = some (S.d (.bl b)) ∧ K b) ↔ K (decide (i < j)) := ex_bl1
theorem e_isN {x : D} : (∃ s, gIsN x .non = some s ∧ K s) ↔ K (.d (.bl (isN x))) := ex_some
theorem e_notN {x : D} : (∃ s, gNotN x .non = some s ∧ K s) ↔ K (.d (.bl (!isN x))) := ex_some
end
section
variable {ns : List Int} {a b c : Int} {o : Option Nat} {P : S → En → Prop} {ρ : En}
theorem ok_row1 : OK (mIxO 0 (mC (.int 1)) (some (.o o (rowD ns a b c)) :: ρ)) P ↔ P (.d (.int a)) (some (.o o (rowD ns a b c)) :: ρ) := by
  rw [ok_eq]
  exact Iff.rfl
theorem ok_row2 : OK (mIxO 0 (mC (.int 2)) (some (.o o (rowD ns a b c)) :: ρ)) P ↔ P (.d (.int b)) (some (.o o (rowD ns a b c)) :: ρ) := by
  rw [ok_eq]
  exact Iff.rfl
theorem ok_row3 : OK (mIxO 0 (mC (.int 3)) (some (.o o (rowD ns a b c)) :: ρ)) P ↔ P (.d (.int c)) (some (.o o (rowD ns a b c)) :: ρ) := by
  rw [ok_eq]
  exact Iff.rfl
theorem ok_row0 : OK (mIxO 0 (mC (.int 0)) (some (.o o (rowD ns a b c)) :: ρ)) P ↔ P (.d (.scr ns)) (some (.o o (rowD ns a b c)) :: ρ) := by
  rw [ok_eq]
  exact Iff.rfl
variable {PU : Unit → En → Prop} {x : Int}
theorem ok_put1 : OK (gmItem 0 (mC (.int 1)) (.int x) (some (.o o (rowD ns a b c)) :: ρ)) PU ↔ PU () (some (.o o (rowD ns x b c)) :: ρ) := by
  rw [ok_eq]
  exact Iff.rfl
theorem ok_put2 : OK (gmItem 0 (mC (.int 2)) (.int x) (some (.o o (rowD ns a b c)) :: ρ)) PU ↔ PU () (some (.o o (rowD ns a x c)) :: ρ) := by
  rw [ok_eq]
  exact Iff.rfl
theorem ok_put3 : OK (gmItem 0 (mC (.int 3)) (.int x) (some (.o o (rowD ns a b c)) :: ρ)) PU ↔ PU () (some (.o o (rowD ns a b x)) :: ρ) := by
  rw [ok_eq]
  exact Iff.rfl
end
local macro_rules | `(tactic| walk_at "wp") => `(tactic| simp only [okF_runF, okF_runL, ok_seq, ok_ret, ok_retN, ok_andV, ok_orV, ok_notV, ok_cb, ok_cons, ok_nil, ok_test, ok_dv, ok_op, ok_un, ok_c, ok_if, ok_ifS, ok_and, ok_or, ok_not, ok_asg, ok_gname, ok_drop, ok_call, ok_chain, ok_nx, ok_bk, ok_ct, ok_st, ok_yes, ok_for, ok_lc, ok_tup, ok_ok, ok_stuck, ex_toD, ex_toL, ex_bl, ex_some, ex_bl1, fl_nx, fl_rt, fl_bk, fl_ct, rt_or, nx_or, mVar, ok1, gIsi, isTy, Option.bind, bare, e_add, e_sub, e_int, e_lenS, e_lenT, e_lenL, e_lt, e_le, e_gt, e_ge, e_leC, e_ltC, e_isN, e_notN, e_pow,
  List.map_cons, List.map_nil, List.length_cons, List.length_nil, List.replicate_succ, List.replicate_zero, List.cons_append, List.nil_append, List.append_nil, List.getElem?_cons_zero, List.getElem?_cons_succ, List.set_cons_zero, List.set_cons_succ, Nat.reduceAdd, Nat.reduceSub, true_and, and_true, Bool.not_true, Bool.not_false, true_implies, forall_const, not_true_eq_false, false_implies, Bool.false_eq_true, not_false_eq_true, implies_true, eq_self, ne_eq, reduceCtorEq, Fl.rt.injEq, S.d.injEq, D.int.injEq, false_and, exists_false, or_false, false_or, exists_eq_left'])
local macro_rules | `(tactic| walk_at "wt") => `(tactic| simp (config := { contextual := false }) only [ok_row0, ok_row1, ok_row2, ok_row3, ok_put1, ok_put2, ok_put3, e_mod, e_div, e_mul, e_ixS, decide_true, decide_false, *, okF_runF, okF_runL, ok_seq, ok_ret, ok_retN, ok_andV, ok_orV, ok_notV, ok_cb, ok_cons, ok_nil, ok_test, ok_dv, ok_op, ok_un, ok_c, ok_if, ok_ifS, ok_and, ok_or, ok_not, ok_asg, ok_gname, ok_drop, ok_call, ok_chain, ok_nx, ok_bk, ok_ct, ok_st, ok_yes, ok_for, ok_lc, ok_tup, ok_ok, ok_stuck, ex_toD, ex_toL, ex_bl, ex_some, ex_bl1, fl_nx, fl_rt, fl_bk, fl_ct, rt_or, nx_or, mVar, ok1, gIsi, isTy, Option.bind, bare, e_add, e_sub, e_int, e_lenS, e_lenT, e_lenL, e_lt, e_le, e_gt, e_ge, e_leC, e_ltC, e_isN, e_notN, e_pow,
  List.map_cons, List.map_nil, List.length_cons, List.length_nil, List.replicate_succ, List.replicate_zero, List.cons_append, List.nil_append, List.append_nil, List.getElem?_cons_zero, List.getElem?_cons_succ, List.set_cons_zero, List.set_cons_succ, Nat.reduceAdd, Nat.reduceSub, true_and, and_true, Bool.not_true, Bool.not_false, true_implies, forall_const, not_true_eq_false, false_implies, Bool.false_eq_true, not_false_eq_true, implies_true, eq_self, ne_eq, reduceCtorEq, Fl.rt.injEq, S.d.injEq, D.int.injEq, false_and, exists_false, or_false, false_or, exists_eq_left'])
namespace Lib
def b_is_number : M Fl := (mRet (mAndV (mCB gIsi (aCons (mVar 0) (aCons (mC (.ty "int")) aNil))) (mAndV (mNotV (mCB gIsi (aCons (mVar 0) (aCons (mC (.ty "bool")) aNil)))) (mChain gLe gLe (mVar 1) (mVar 0) (mVar 2)))))
def f_is_number : Fn := runF 3 3 b_is_number
def oD : Option Int → D
  | none => .non
  | some i => .int i
def numB (lo hi : Int) : Option Int → Bool
  | none => false
  | some i => decide (lo ≤ i) && decide (i ≤ hi)
theorem num {o : Option Int} {lo hi : Int} {K : S → Prop} : OKF (f_is_number [.d (oD o), .d (.int lo), .d (.int hi)]) K ↔ K (.d (.bl (numB lo hi o))) := by
  cases o with
  | none =>
    unfold f_is_number b_is_number oD numB
    walk_at "wp"
  | some i =>
    unfold f_is_number b_is_number oD numB
    walk_at "wp"
    by_cases h : lo ≤ i <;> simp [h]
def b_is_tuple : M Fl := (mRet (mAndV (mCB gIsi (aCons (mVar 0) (aCons (mC (.ty "tuple")) aNil))) (mChain gLe gLe (mVar 1) (mCB gLen (aCons (mVar 0) aNil)) (mVar 2))))
def f_is_tuple : Fn := runF 3 3 b_is_tuple
theorem tup {ds : List D} {lo hi : Int} {K : S → Prop} : OKF (f_is_tuple [.d (.tup ds), .d (.int lo), .d (.int hi)]) K ↔ K (.d (.bl (decide (lo ≤ ds.length) && decide ((ds.length : Int) ≤ hi)))) := by
  unfold f_is_tuple b_is_tuple
  walk_at "wp"
  by_cases h : lo ≤ ds.length <;> simp [h]
def b_are_numbers : M Fl := (mRet (mAndV (mCB gIsi (aCons (mVar 0) (aCons (mC (.ty "tuple")) aNil))) (mCB gAll (aCons (mLc (iSeq (mVar 0)) (gmName 3) mYes (mCall f_is_number (aCons (mVar 3) (aCons (mVar 1) (aCons (mVar 2) aNil)))) [3]) aNil))))
def f_are_numbers : Fn := runF 3 4 b_are_numbers
theorem nums {os : List (Option Int)} {lo hi : Int} {K : S → Prop} (hl : os.length ≤ 16777216) (h : K (.d (.bl (os.all (numB lo hi))))) : OKF (f_are_numbers [.d (.tup (os.map oD)), .d (.int lo), .d (.int hi)]) K := by
  unfold f_are_numbers b_are_numbers
  walk_at "wp"
  simp only [iSeq, ok_then, ok_dv, ok_var]
  walk_at "wp"
  simp only [itemsD, ok_ok, wipeE]
  walk_at "wp"
  refine ok_map (f := fun x => .bl (match x with | .int i => decide (lo ≤ i) && decide (i ≤ hi) | _ => false)) rfl ?_ (by rw [List.length_map]; exact hl) ?_
  · intro x hx
    obtain ⟨o, _, rfl⟩ := List.mem_map.mp hx
    walk_at "wp"
    rw [num]
    walk_at "wp"
    cases o <;> rfl
  · refine ⟨_, ?_, h⟩
    show (blsD _).bind _ = _
    have e : List.map (fun x => D.bl (match x with | D.int i => decide (lo ≤ i) && decide (i ≤ hi) | x => false)) (List.map oD os) = os.map fun o => D.bl (numB lo hi o) := by
      rw [List.map_map]
      refine List.map_congr_left fun o _ => ?_
      cases o <;> rfl
    rw [e, blsD_map, Option.bind_some, List.all_map]
    rfl
def b_law_taken : M Fl := (mSeq (mIfS (mTest (mOp gGt (mIxO 0 (mC (.int 3))) (mC (.int 0)))) (mSeq (mAsg (mOp gMod (mCB gInt1 (aCons (mIxO 0 (mC (.int 3))) aNil)) (mVar 1)) (gmName 2))
    (mSeq (mAsg (mOp gDiv (mIxO 0 (mC (.int 3))) (mVar 1)) (gmItem 0 (mC (.int 3))))
    (mRet (mVar 2)))) mNx)
    (mSeq (mAsg (mOp gAdd (mIxO 0 (mC (.int 1))) (mC (.int 1))) (gmItem 0 (mC (.int 1))))
    (mSeq (mIfS (mTest (mOp gGt (mIxO 0 (mC (.int 1))) (mCB gLen (aCons (mIxO 0 (mC (.int 0))) aNil)))) (mSeq (mAsg (mOp gMod (mCB gInt1 (aCons (mOp gAdd (mOp gMul (mIxO 0 (mC (.int 2))) (mC (.int 48271))) (mC (.int 11))) aNil)) (mC (.int 2147483647))) (gmItem 0 (mC (.int 2))))
    (mRet (mOp gMod (mCB gInt1 (aCons (mOp gDiv (mIxO 0 (mC (.int 2))) (mC (.int 7))) aNil)) (mVar 1)))) mNx)
    (mSeq (mAsg (mOp gIx (mIxO 0 (mC (.int 0))) (mOp gMinus (mIxO 0 (mC (.int 1))) (mC (.int 1)))) (gmName 3))
    (mSeq (mAsg (mOp gMod (mCB gInt1 (aCons (mOp gAdd (mOp gAdd (mOp gMul (mIxO 0 (mC (.int 2))) (mC (.int 48271))) (mVar 3)) (mC (.int 11))) aNil)) (mC (.int 2147483647))) (gmItem 0 (mC (.int 2))))
    (mSeq (mIfS (mTest (mOp gGe (mVar 3) (mOp gPow (mC (.int 10)) (mC (.int 18))))) (mAsg (mOp gDiv (mVar 3) (mVar 1)) (gmItem 0 (mC (.int 3)))) mNx)
    (mRet (mOp gMod (mCB gInt1 (aCons (mVar 3) aNil)) (mVar 1)))))))))
def f_law_taken : Fn := runF 2 4 b_law_taken
theorem taken {ns : List Int} {a b c m : Int} (h : RowOk a b c) (h1 : 0 < m) (h2 : m < 1073741824) : OK (f_law_taken [.o (some 0) (rowD ns a b c), .d (.int m)]) fun s ρ => ∃ k a' b' c', s = .d (.int k) ∧ 0 ≤ k ∧ k < m ∧ RowOk a' b' c' ∧ ∃ ρ', ρ = some (.o (some 0) (rowD ns a' b' c')) :: ρ' := by
  obtain ⟨ha, hb, hb2, hc⟩ := h
  have key : OK (b_law_taken [some (.o (some 0) (rowD ns a b c)), some (.d (.int m)), none, none]) fun f ρ => ∃ k a' b' c', f = .rt (.d (.int k)) ∧ 0 ≤ k ∧ k < m ∧ RowOk a' b' c' ∧ ∃ ρ', ρ = some (.o (some 0) (rowD ns a' b' c')) :: ρ' := by
    unfold b_law_taken
    by_cases c0 : 0 < c
    · walk_at "wt"
      refine ⟨c % m, a, b, c / m, rfl, Int.emod_nonneg _ (by omega), Int.emod_lt_of_pos _ h1, ⟨ha, hb, hb2, Int.ediv_nonneg hc (Int.le_of_lt h1)⟩, _, rfl⟩
    · have q1 : i64 48271 = true := rfl
      have q2 : (0 : Int) < 2147483647 := by decide
      have q3 : (0 : Int) < 7 := by decide
      have q4 : (7 : Int) < 1073741824 := by decide
      by_cases c1 : (ns.length : Int) < a + 1
      · walk_at "wt"
        have hm := Int.emod_nonneg ((b * 48271 + 11) % 2147483647 / 7) (show m ≠ 0 by omega)
        have hl := Int.emod_lt_of_pos ((b * 48271 + 11) % 2147483647 / 7) h1
        have hb3 := Int.emod_nonneg (b * 48271 + 11) (show (2147483647 : Int) ≠ 0 by decide)
        have hb4 := Int.emod_lt_of_pos (b * 48271 + 11) q2
        exact ⟨_, _, _, _, rfl, hm, hl, ⟨by omega, hb3, hb4, hc⟩, _, rfl⟩
      · have q5 : 0 ≤ a + 1 - 1 := by omega
        have q6 : a + 1 - 1 < (ns.length : Int) := by omega
        by_cases c2 : 1000000000000000000 ≤ (ns[(a + 1 - 1).toNat]?).getD 0
        · walk_at "wt"
          have hm := Int.emod_nonneg ((ns[(a + 1 - 1).toNat]?).getD 0) (show m ≠ 0 by omega)
          have hl := Int.emod_lt_of_pos ((ns[(a + 1 - 1).toNat]?).getD 0) h1
          have hb3 := Int.emod_nonneg (b * 48271 + (ns[(a + 1 - 1).toNat]?).getD 0 + 11) (show (2147483647 : Int) ≠ 0 by decide)
          have hb4 := Int.emod_lt_of_pos (b * 48271 + (ns[(a + 1 - 1).toNat]?).getD 0 + 11) q2
          exact ⟨_, _, _, _, rfl, hm, hl, ⟨by omega, hb3, hb4, Int.ediv_nonneg (by omega) (Int.le_of_lt h1)⟩, _, rfl⟩
        · walk_at "wt"
          have hm := Int.emod_nonneg ((ns[(a + 1 - 1).toNat]?).getD 0) (show m ≠ 0 by omega)
          have hl := Int.emod_lt_of_pos ((ns[(a + 1 - 1).toNat]?).getD 0) h1
          have hb3 := Int.emod_nonneg (b * 48271 + (ns[(a + 1 - 1).toNat]?).getD 0 + 11) (show (2147483647 : Int) ≠ 0 by decide)
          have hb4 := Int.emod_lt_of_pos (b * 48271 + (ns[(a + 1 - 1).toNat]?).getD 0 + 11) q2
          exact ⟨_, _, _, _, rfl, hm, hl, ⟨by omega, hb3, hb4, hc⟩, _, rfl⟩
  refine ok_runF rfl (key.imp fun f ρ h => ?_)
  obtain ⟨k, a', b', c', rfl, h⟩ := h
  exact .inl ⟨_, rfl, k, a', b', c', rfl, h⟩
end Lib
end Fx
/-! draws within a def, comprehensions that draw -/
namespace Fx
open PySem
def rowS (o : Option Nat) (ns : List Int) (a b c : Int) : Option S := some (.o o (rowD ns a b c))
theorem ok_callO {F : Fn} {i j : Nat} {fA : M (List D)} {ρ : En} {P : S → En → Prop} (h : OK (fA ρ) fun ds ρ1 => ∃ b x, ρ1[i]? = some (some (.o b x)) ∧ j ≤ ds.length ∧ OK (F ((ds.take j).map .d ++ .o (some j) x :: (ds.drop j).map .d)) fun s ρ' => ∃ y, ρ'[j]? = some (some (.o (some j) y)) ∧ bare s = true ∧ P s (ρ1.set i (some (.o b y)))) : OK (mCallO F i j fA ρ) P := by
  unfold mCallO
  rw [ok_then]
  refine h.imp fun ds ρ1 ⟨b, x, e, hj, k⟩ => ?_
  rw [e]
  dsimp only
  rw [if_pos hj]
  obtain ⟨s, ρ', e2, y, e3, hb, k⟩ := k.at
  rw [e2]
  dsimp only
  rw [e3]
  dsimp only
  rw [if_pos ⟨rfl, hb⟩, ok_ok]
  exact k
theorem ok_own {i : Nat} {fr : M (List D)} {ρ : En} {P : List D → En → Prop} : OK (aOwn i fr ρ) P ↔ isOwn ρ i = true ∧ OK (fr ρ) P := by
  unfold aOwn
  rw [ok_ite]
  exact ⟨fun h => by
    by_cases ho : isOwn ρ i = true
    · exact ⟨ho, h.1 ho⟩
    · exact (ok_stuck.mp (h.2 ho)).elim, fun h => ⟨fun _ => h.2, fun n => absurd h.1 n⟩⟩
section
variable {r k : Nat} {o : Option Nat} {ns : List Int} {ρ : En} {P : S → En → Prop} {fm fe : M S} {m : Int}
theorem own_row {a b c : Int} (e : ρ[r]? = some (rowS o ns a b c)) : isOwn ρ r = true := by
  unfold isOwn
  rw [e]
  rfl
/-- a draw of m ways -/
theorem ok_taken {a b c : Int} (e : ρ[r]? = some (rowS o ns a b c)) (hr : RowOk a b c) (hm : OK (dv fm ρ) fun x ρ1 => x = .int m ∧ ρ1 = ρ) (h1 : 0 < m) (h2 : m < 1073741824)
    (q : ∀ v a b c, 0 ≤ v → v < m → RowOk a b c → P (.d (.int v)) (ρ.set r (rowS o ns a b c))) : OK (mCallO Lib.f_law_taken r 0 (aOwn r (aCons fm aNil)) ρ) P := by
  refine ok_callO (ok_own.mpr ⟨own_row e, ?_⟩)
  rw [ok_cons]
  refine hm.imp fun x ρ1 ⟨e1, e2⟩ => ?_
  subst e1
  subst e2
  rw [ok_nil]
  refine ⟨o, rowD ns a b c, e, Nat.zero_le _, (Lib.taken hr h1 h2).imp fun s ρ' h => ?_⟩
  obtain ⟨v, a', b', c', rfl, v0, v1, hr', ρ2, rfl⟩ := h
  exact ⟨rowD ns a' b' c', rfl, rfl, q v a' b' c' v0 v1 hr'⟩
variable {items : List D} {PL : List D → En → Prop}
/-- a comprehension that draws -/
theorem ok_compR {a b c : Int} (Good : Nat → D → Prop) (e : ρ[r]? = some (rowS o ns a b c)) (hr : RowOk a b c) (hw : ρ.set k none = ρ) (hkr : k ≠ r)
    (st : ∀ i x a b c ρ', items[i]? = some x → RowOk a b c → ρ' = (ρ.set r (rowS o ns a b c)).set k (some (.d x)) → ρ'[r]? = some (rowS o ns a b c) → OK (dv fe ρ') fun y ρ3 => Good i y ∧ ∃ a' b' c', RowOk a' b' c' ∧ ρ3 = ρ'.set r (rowS o ns a' b' c'))
    (hs : items.length ≤ 16777216) (q : ∀ ys a b c, ys.length = items.length → (∀ i y, ys[i]? = some y → Good i y) → RowOk a b c → PL ys (ρ.set r (rowS o ns a b c))) : OK (mComp (gmName k) mYes fe [k] items [] ρ) PL := by
  have hrl : r < ρ.length := (List.getElem?_eq_some_iff.mp e).1
  refine ok_comp (I := fun i acc ρ' => acc.length = i ∧ i ≤ items.length ∧ (∀ j y, acc[j]? = some y → Good j y) ∧ ∃ a b c, RowOk a b c ∧ ρ' = ρ.set r (rowS o ns a b c)) (k := 0) ⟨rfl, Nat.zero_le _, fun j y h => by simp at h, a, b, c, hr, ?_⟩ ?_ ?_
  · have := List.set_getElem_self hrl
    have e2 : ρ[r] = rowS o ns a b c := by
      rw [List.getElem?_eq_getElem hrl] at e
      exact Option.some.inj e
    rw [e2] at this
    exact this.symm
  · rintro i x acc ρ' hx ⟨hl, hle, hg, a, b, c, hr, rfl⟩
    have hi : i < items.length := (List.getElem?_eq_some_iff.mp hx).1
    rw [ok_gname, ok_yes]
    refine ⟨fun _ => ?_, fun n => absurd rfl n⟩
    have er : ((ρ.set r (rowS o ns a b c)).set k (some (.d x)))[r]? = some (rowS o ns a b c) := by
      rw [List.getElem?_set_ne hkr, List.getElem?_set_self hrl]
    refine (st i x a b c _ hx hr rfl er).imp fun y ρ3 ⟨hy, a', b', c', hr', e3⟩ => ⟨?_, ?_, ?_, ?_, a', b', c', hr', ?_⟩
    · exact decide_eq_true (by omega)
    · rw [List.length_append, hl]
      rfl
    · omega
    · intro j z hz
      by_cases hj : j < acc.length
      · rw [List.getElem?_append_left hj] at hz
        exact hg j z hz
      · rw [List.getElem?_append_right (by omega)] at hz
        have : j - acc.length = 0 := by
          have := (List.getElem?_eq_some_iff.mp hz).1
          simp at this
          omega
        rw [this] at hz
        cases hz
        have : j = i := by omega
        rw [this]
        exact hy
    · subst e3
      show (List.set _ r _).set k none = _
      rw [List.set_comm _ _ (Ne.symm hkr), List.set_set, List.set_comm _ _ hkr.symm, hw, List.set_set]
  · rintro acc ρ' ⟨hl, _, hg, a, b, c, hr, rfl⟩
    exact q acc a b c (by omega) hg hr
end
end Fx
/-! algebras: drawn, made, on data -/
namespace Fx
open PySem
theorem ok_psNil {ρ : En} {P : List S → En → Prop} : OK (psNil ρ) P ↔ P [] ρ := by
  rw [ok_eq]
  exact Iff.rfl
theorem ok_psCons {fa : M S} {fr : M (List S)} {ρ : En} {P : List S → En → Prop} : OK (psCons fa fr ρ) P ↔ OK (fa ρ) fun s ρ1 => OK (fr ρ1) fun ss ρ2 => P (s :: ss) ρ2 := by
  unfold psCons
  simp only [ok_then, ok_ok]
theorem ok_par2 {i j : Nat} {oi oj : Bool} {fP : M (List S)} {ρ : En} {PF : Fl → En → Prop} (h : OK (fP ρ) fun ss ρ1 => ∃ s t s' t', ss = [s, t] ∧ stS oi s = some s' ∧ stS oj t = some t' ∧ PF .nx ((ρ1.set j (some t')).set i (some s'))) : OK (mPar2 i oi j oj fP ρ) PF := by
  unfold mPar2
  rw [ok_then]
  refine h.imp fun ss ρ1 ⟨s, t, s', t', e, e1, e2, q⟩ => ?_
  subst e
  dsimp only
  rw [e1, e2]
  exact ok_of q
theorem ok_range1e {fA : M (List D)} {ρ : En} {P : List D → En → Prop} (h : OK (fA ρ) fun ds ρ1 => ∃ n, ds = [.int n] ∧ -4611686018427387904 ≤ n ∧ n < 4611686018427387904 ∧ P (intsFrom 0 n.toNat) ρ1) : OK (iRange1 fA ρ) P := by
  unfold iRange1
  rw [ok_then]
  refine h.imp fun ds ρ1 ⟨n, e, h1, h2, q⟩ => ?_
  subst e
  dsimp only
  rw [if_pos (by unfold rOk; simp [h1, h2])]
  exact ok_of q
theorem ok_seqI {F G : M Fl} {ρ : En} {PF : Fl → En → Prop} (I : En → Prop) (h : OK (F ρ) fun f ρ1 => f = .nx ∧ I ρ1) (k : ∀ ρ1, I ρ1 → OK (G ρ1) PF) : OK (mSeq F G ρ) PF := by
  rw [ok_seq]
  exact h.imp fun f ρ1 ⟨e, hi⟩ => ⟨fun _ => k ρ1 hi, fun n => absurd e n⟩
theorem ok_asgO {i : Nat} {fa : M S} {ρ : En} {PF : Fl → En → Prop} : OK (mAsgO i fa ρ) PF ↔ OK (fa ρ) fun s ρ1 => (∃ x, s = .o none x ∧ PF .nx (ρ1.set i (some (.o none x)))) ∨ ∃ x, s = .d x ∧ PF .nx (ρ1.set i (some (.d x))) := by
  unfold mAsgO
  rw [ok_then]
  refine ⟨fun h => h.imp fun s ρ1 h => ?_, fun h => h.imp fun s ρ1 h => ?_⟩
  · split at h
    · exact .inl ⟨_, rfl, ok_out h⟩
    · exact .inr ⟨_, rfl, ok_out h⟩
    · exact (ok_out h).elim
  · rcases h with ⟨x, rfl, h⟩ | ⟨x, rfl, h⟩
    · exact ok_of h
    · exact ok_of h
theorem ok_lst {fA : M (List D)} {ρ : En} {P : S → En → Prop} : OK (mLst fA ρ) P ↔ OK (fA ρ) fun ds ρ1 => small ds.length = true ∧ P (.o none (.lst ds)) ρ1 := by
  unfold mLst
  rw [ok_then]
  refine ⟨fun h => h.imp fun ds ρ1 h => ?_, fun h => h.imp fun ds ρ1 h => ?_⟩
  · by_cases hz : small ds.length = true
    · rw [if_pos hz] at h
      exact ⟨hz, ok_out h⟩
    · rw [if_neg hz] at h
      exact (ok_out h).elim
  · rw [if_pos h.1]
    exact ok_of h.2
theorem ok_app {i : Nat} {fe : M S} {ρ : En} {P : S → En → Prop} {o : Option Nat} {ds : List D} (e : ρ[i]? = some (some (.o o (.lst ds)))) (h : OK (dv fe ρ) fun y ρ1 => ρ1[i]? = some (some (.o o (.lst ds))) ∧ small (ds.length + 1) = true ∧ P (.d .non) (ρ1.set i (some (.o o (.lst (ds ++ [y])))))) : OK (mMeth1 i gApp fe ρ) P := by
  unfold mMeth1
  have ho : ownL ρ i = true := by
    unfold ownL
    rw [e]
  rw [if_pos ho, ok_then]
  refine h.imp fun y ρ1 ⟨e1, hz, q⟩ => ?_
  rw [e1]
  dsimp only
  have e2 : gApp ds y = some (.non, ds ++ [y]) := if_pos hz
  rw [e2]
  exact ok_of q
theorem intsFrom_at {n i : Nat} {x : D} (h : (intsFrom 0 n)[i]? = some x) : x = .int i ∧ i < n := by
  have hi := (List.getElem?_eq_some_iff.mp h).1
  rw [intsFrom_length] at hi
  rw [intsFrom_get n 0 i hi] at h
  cases h
  exact ⟨by simp, hi⟩
theorem ok_iseq {f : M S} {ρ : En} {P : List D → En → Prop} : OK (iSeq f ρ) P ↔ OK (dv f ρ) fun x ρ1 => ∃ ds, itemsD x = some ds ∧ P ds ρ1 := by
  unfold iSeq
  rw [ok_then]
  refine ⟨fun h => h.imp fun x ρ1 h => ?_, fun h => h.imp fun x ρ1 h => ?_⟩
  · cases e : itemsD x with
    | none => rw [e] at h; exact (ok_out h).elim
    | some ds => rw [e] at h; exact ⟨ds, rfl, ok_out h⟩
  · obtain ⟨ds, e, h⟩ := h
    rw [e]
    exact ok_of h
theorem ok_sl {fe : M S} {fl fh : M (Option Int)} {ρ : En} {P : S → En → Prop} (h : OK (dv fe ρ) fun x ρ1 => OK (fl ρ1) fun lo ρ2 => OK (fh ρ2) fun hi ρ3 => ∃ s, gSl x lo hi = some s ∧ P s ρ3) : OK (mSl fe fl fh ρ) P := by
  unfold mSl
  simp only [ok_then]
  refine h.imp fun x ρ1 h => h.imp fun lo ρ2 h => h.imp fun hi ρ3 ⟨s, e, h⟩ => ?_
  rw [e]
  exact ok_of h
theorem ok_onone {ρ : En} {P : Option Int → En → Prop} : OK (oNone ρ) P ↔ P none ρ := by
  rw [ok_eq]
  exact Iff.rfl
theorem ok_osome {f : M S} {ρ : En} {P : Option Int → En → Prop} (h : OK (dv f ρ) fun x ρ1 => ∃ i, x = .int i ∧ P (some i) ρ1) : OK (oSome f ρ) P := by
  unfold oSome
  rw [ok_then]
  refine h.imp fun x ρ1 ⟨i, e, h⟩ => ?_
  subst e
  exact ok_of h
theorem cutD_to {xs : List D} {k : Int} (h : 0 ≤ k) : cutD xs none (some k) = xs.take k.toNat := by
  unfold cutD
  have e : HT.sIx xs.length xs.length (some k) = min k.toNat xs.length := by
    show (if k < 0 then _ else min k.toNat xs.length) = _
    rw [if_neg (by omega)]
  rw [e]
  show (xs.drop 0).take (min k.toNat xs.length - 0) = _
  rw [List.drop_zero, Nat.sub_zero]
  by_cases hk : k.toNat ≤ xs.length
  · rw [Nat.min_eq_left hk]
  · rw [Nat.min_eq_right (by omega), List.take_length, List.take_of_length_le (by omega)]
local macro_rules | `(tactic| walk_at "wp") => `(tactic| simp only [okF_runF, okF_runL, ok_seq, ok_ret, ok_retN, ok_andV, ok_orV, ok_notV, ok_cb, ok_cons, ok_nil, ok_test, ok_dv, ok_op, ok_un, ok_c, ok_if, ok_ifS, ok_and, ok_or, ok_not, ok_asg, ok_gname, ok_drop, ok_call, ok_chain, ok_nx, ok_bk, ok_ct, ok_st, ok_yes, ok_tup, ok_ok, ok_stuck, ex_toD, ex_toL, ex_bl, ex_some, ex_bl1, fl_nx, fl_rt, fl_bk, fl_ct, rt_or, nx_or, mVar, ok1, gIsi, mIsi2, gIsi2, isTy2, isTy, Option.bind, bare, e_add, e_sub, e_int, e_lenS, e_lenT, e_lenL, e_lt, e_le, e_gt, e_ge, e_leC, e_ltC, e_isN, e_notN, e_pow,
  List.map_cons, List.map_nil, List.length_cons, List.length_nil, List.replicate_succ, List.replicate_zero, List.cons_append, List.nil_append, List.append_nil, List.getElem?_cons_zero, List.getElem?_cons_succ, List.set_cons_zero, List.set_cons_succ, Nat.reduceAdd, Nat.reduceSub, true_and, and_true, Bool.not_true, Bool.not_false, true_implies, forall_const, not_true_eq_false, false_implies, Bool.false_eq_true, not_false_eq_true, implies_true, eq_self, ne_eq, reduceCtorEq, Fl.rt.injEq, S.d.injEq, D.int.injEq, false_and, exists_false, or_false, false_or, exists_eq_left'])
local macro_rules | `(tactic| walk_at "wt") => `(tactic| simp (config := { contextual := false }) only [ok_row0, ok_row1, ok_row2, ok_row3, ok_put1, ok_put2, ok_put3, e_mod, e_div, e_mul, e_ixS, decide_true, decide_false, *, okF_runF, okF_runL, ok_seq, ok_ret, ok_retN, ok_andV, ok_orV, ok_notV, ok_cb, ok_cons, ok_nil, ok_test, ok_dv, ok_op, ok_un, ok_c, ok_if, ok_ifS, ok_and, ok_or, ok_not, ok_asg, ok_gname, ok_drop, ok_call, ok_chain, ok_nx, ok_bk, ok_ct, ok_st, ok_yes, ok_tup, ok_ok, ok_stuck, ex_toD, ex_toL, ex_bl, ex_some, ex_bl1, fl_nx, fl_rt, fl_bk, fl_ct, rt_or, nx_or, mVar, ok1, gIsi, mIsi2, gIsi2, isTy2, isTy, Option.bind, bare, e_add, e_sub, e_int, e_lenS, e_lenT, e_lenL, e_lt, e_le, e_gt, e_ge, e_leC, e_ltC, e_isN, e_notN, e_pow,
  List.map_cons, List.map_nil, List.length_cons, List.length_nil, List.replicate_succ, List.replicate_zero, List.cons_append, List.nil_append, List.append_nil, List.getElem?_cons_zero, List.getElem?_cons_succ, List.set_cons_zero, List.set_cons_succ, Nat.reduceAdd, Nat.reduceSub, true_and, and_true, Bool.not_true, Bool.not_false, true_implies, forall_const, not_true_eq_false, false_implies, Bool.false_eq_true, not_false_eq_true, implies_true, eq_self, ne_eq, reduceCtorEq, Fl.rt.injEq, S.d.injEq, D.int.injEq, false_and, exists_false, or_false, false_or, exists_eq_left'])
local macro_rules | `(tactic| walk_at "wy") => `(tactic| try walk_at "wp")
local macro_rules | `(tactic| walk_at "we") => `(tactic| first | done | rfl | exact ⟨rfl, rfl⟩ | exact ⟨rfl, rfl, rfl⟩)
namespace Lib
/-- an algebra as it is drawn -/
structure OkAlg (most many : Int) (ls : List Int) (ts : List (List (Option Int))) : Prop where
  l1 : 1 ≤ ls.length
  l2 : (ls.length : Int) ≤ most
  lv : ∀ l ∈ ls, 0 ≤ l ∧ l ≤ most
  t1 : 1 ≤ ts.length
  t2 : (ts.length : Int) ≤ many
  tb : ∀ t ∈ ts, t.length = ls.length ∧ ∀ i, some i ∈ t → 0 ≤ i ∧ i < (ls.length : Int)
end Lib
end Fx
/-! a value is alike itself -/
namespace Fx
open PySem
theorem eqD_self {x : D} (h : pl60 x = true) : eqD x x = true := SeqAt.eqv_refl_plain _ (pl60_shaped h).1
theorem gEq_self {x : D} (h : pl60 x = true) : gEq x x = some (.d (.bl true)) := by
  unfold gEq
  rw [h, eqD_self h]
  rfl
theorem gNe_self {x : D} (h : pl60 x = true) : gNe x x = some (.d (.bl false)) := by
  unfold gNe
  rw [h, eqD_self h]
  rfl
/-- data at most n deep, of bounded width -/
def fit : Nat → D → Bool
  | 0, .non => true
  | 0, .bl _ => true
  | 0, .int _ => true
  | 0, .str _ => true
  | 0, _ => false
  | _ + 1, .non => true
  | _ + 1, .bl _ => true
  | _ + 1, .int _ => true
  | _ + 1, .str _ => true
  | n + 1, .tup ds => decide (ds.length ≤ 1000000) && ds.all (fit n)
  | n + 1, .lst ds => decide (ds.length ≤ 1000000) && ds.all (fit n)
  | _ + 1, _ => false
local macro_rules | `(tactic| walk_at "wp") => `(tactic| simp only [okF_runF, okF_runL, ok_seq, ok_ret, ok_retN, ok_andV, ok_orV, ok_notV, ok_cb, ok_cons, ok_nil, ok_test, ok_dv, ok_op, ok_un, ok_c, ok_if, ok_ifS, ok_and, ok_or, ok_not, ok_asg, ok_gname, ok_drop, ok_call, ok_chain, ok_nx, ok_bk, ok_ct, ok_st, ok_yes, ok_tup, ok_ok, ok_stuck, ex_toD, ex_toL, ex_bl, ex_some, ex_bl1, fl_nx, fl_rt, fl_bk, fl_ct, rt_or, nx_or, mVar, ok1, gIsi, mIsi2, gIsi2, isTy2, isTy, Option.bind, bare, e_add, e_sub, e_int, e_lenS, e_lenT, e_lenL, e_lt, e_le, e_gt, e_ge, e_leC, e_ltC, e_isN, e_notN, e_pow,
  List.map_cons, List.map_nil, List.length_cons, List.length_nil, List.replicate_succ, List.replicate_zero, List.cons_append, List.nil_append, List.append_nil, List.getElem?_cons_zero, List.getElem?_cons_succ, List.set_cons_zero, List.set_cons_succ, Nat.reduceAdd, Nat.reduceSub, true_and, and_true, Bool.not_true, Bool.not_false, true_implies, forall_const, not_true_eq_false, false_implies, Bool.false_eq_true, not_false_eq_true, implies_true, eq_self, ne_eq, reduceCtorEq, Fl.rt.injEq, S.d.injEq, D.int.injEq, false_and, exists_false, or_false, false_or, exists_eq_left'])
local macro_rules | `(tactic| walk_at "wt") => `(tactic| simp (config := { contextual := false }) only [ok_row0, ok_row1, ok_row2, ok_row3, ok_put1, ok_put2, ok_put3, e_mod, e_div, e_mul, e_ixS, decide_true, decide_false, *, okF_runF, okF_runL, ok_seq, ok_ret, ok_retN, ok_andV, ok_orV, ok_notV, ok_cb, ok_cons, ok_nil, ok_test, ok_dv, ok_op, ok_un, ok_c, ok_if, ok_ifS, ok_and, ok_or, ok_not, ok_asg, ok_gname, ok_drop, ok_call, ok_chain, ok_nx, ok_bk, ok_ct, ok_st, ok_yes, ok_tup, ok_ok, ok_stuck, ex_toD, ex_toL, ex_bl, ex_some, ex_bl1, fl_nx, fl_rt, fl_bk, fl_ct, rt_or, nx_or, mVar, ok1, gIsi, mIsi2, gIsi2, isTy2, isTy, Option.bind, bare, e_add, e_sub, e_int, e_lenS, e_lenT, e_lenL, e_lt, e_le, e_gt, e_ge, e_leC, e_ltC, e_isN, e_notN, e_pow,
  List.map_cons, List.map_nil, List.length_cons, List.length_nil, List.replicate_succ, List.replicate_zero, List.cons_append, List.nil_append, List.append_nil, List.getElem?_cons_zero, List.getElem?_cons_succ, List.set_cons_zero, List.set_cons_succ, Nat.reduceAdd, Nat.reduceSub, true_and, and_true, Bool.not_true, Bool.not_false, true_implies, forall_const, not_true_eq_false, false_implies, Bool.false_eq_true, not_false_eq_true, implies_true, eq_self, ne_eq, reduceCtorEq, Fl.rt.injEq, S.d.injEq, D.int.injEq, false_and, exists_false, or_false, false_or, exists_eq_left'])
local macro_rules | `(tactic| walk_at "wy") => `(tactic| try walk_at "wp")
local macro_rules | `(tactic| walk_at "we") => `(tactic| first | done | rfl | exact ⟨rfl, rfl⟩ | exact ⟨rfl, rfl, rfl⟩)
namespace Lib
theorem e_eqT {b : Bool} {K : S → Prop} : (∃ s, gEq (.bl b) (.bl b) = some s ∧ K s) ↔ K (.d (.bl true)) := by
  rw [gEq_self rfl]
  exact ex_some
theorem e_neF {b : Bool} {K : S → Prop} : (∃ s, gNe (.bl b) (.bl b) = some s ∧ K s) ↔ K (.d (.bl false)) := by
  rw [gNe_self rfl]
  exact ex_some
theorem e_neI {i : Int} {K : S → Prop} : (∃ s, gNe (.int i) (.int i) = some s ∧ K s) ↔ K (.d (.bl false)) := by
  rw [gNe_self rfl]
  exact ex_some
theorem e_eqI {i : Int} {K : S → Prop} : (∃ s, gEq (.int i) (.int i) = some s ∧ K s) ↔ K (.d (.bl true)) := by
  rw [gEq_self rfl]
  exact ex_some
theorem e_eqN {K : S → Prop} : (∃ s, gEq .non .non = some s ∧ K s) ↔ K (.d (.bl true)) := by
  rw [gEq_self rfl]
  exact ex_some
theorem e_eqS {z : Str} {K : S → Prop} : (∃ s, gEq (.str z) (.str z) = some s ∧ K s) ↔ K (.d (.bl true)) := by
  rw [gEq_self rfl]
  exact ex_some
local macro_rules | `(tactic| walk_at "wz") => `(tactic| repeat (first | walk_at "wp" | simp only [isN, e_eqN, e_eqT, e_eqI, e_eqS, e_neF, e_neI]))
end Lib
end Fx
/-! algebras on data: made, checked, followed -/
namespace Fx
open PySem
theorem ok_make {n : String} {nf : Nat} {F : Fn} {fA : M (List D)} {ρ : En} {P : S → En → Prop} (h : OK (fA ρ) fun ds ρ1 => OK (F (S.o (some 0) (D.ins n []) :: ds.map S.d)) fun s ρ' => s = .d .non ∧ ∃ fs, ρ'[0]? = some (some (.o (some 0) (.ins n fs))) ∧ fs.length = nf ∧ P (.d (.ins n fs)) ρ1) : OK (mMake n nf F fA ρ) P := by
  unfold mMake
  rw [ok_then]
  refine h.imp fun ds ρ1 h => ?_
  obtain ⟨s, ρ', e, rfl, fs, e2, hl, k⟩ := h.at
  rw [e]
  dsimp only
  rw [e2]
  dsimp only
  rw [if_pos ⟨rfl, rfl, hl⟩]
  exact ok_of k
theorem ok_setF {n : String} {i k : Nat} {fe : M S} {ρ : En} {PF : Fl → En → Prop} (h : OK (dv fe ρ) fun x ρ1 => ∃ b ds, ρ1[k]? = some (some (.o b (.ins n ds))) ∧ ds.length = i ∧ PF .nx (ρ1.set k (some (.o b (.ins n (ds ++ [x])))))) : OK (mSetF n i k fe ρ) PF := by
  unfold mSetF
  rw [ok_then]
  refine h.imp fun x ρ1 ⟨b, ds, e, hl, q⟩ => ?_
  rw [e]
  dsimp only
  rw [if_pos ⟨rfl, hl⟩]
  exact ok_of q
theorem ok_ienu {fA : M (List D)} {ρ : En} {P : List D → En → Prop} (h : OK (fA ρ) fun ds ρ1 => ∃ x es, ds = [x] ∧ itemsD x = some es ∧ P (enumD 0 es) ρ1) : OK (iEnu fA ρ) P := by
  unfold iEnu
  rw [ok_then]
  refine h.imp fun ds ρ1 ⟨x, es, e, e2, q⟩ => ?_
  subst e
  dsimp only
  rw [e2]
  exact ok_of q
theorem enumD_at {ds : List D} {i : Nat} {x : D} (h : (enumD 0 ds)[i]? = some x) : ∃ d, ds[i]? = some d ∧ x = .tup [.int (i : Nat), d] := by
  have hi := (List.getElem?_eq_some_iff.mp h).1
  rw [enumD_length] at hi
  have e := List.getElem?_eq_getElem hi
  rw [enumD_get ds 0 i _ e] at h
  cases h
  exact ⟨_, e, by rw [Nat.zero_add]⟩
theorem ok_gtup2 {i j : Nat} {x y : D} {ρ : En} {P : Unit → En → Prop} (h : P () ((ρ.set i (some (.d x))).set j (some (.d y)))) : OK (gmTup 2 (gmCons (gmName i) (gmCons (gmName j) gmNil)) (.tup [x, y]) ρ) P := ok_of h
theorem ok_fld {n : String} {i : Nat} {fe : M S} {ρ : En} {P : S → En → Prop} (h : OK (dv fe ρ) fun x ρ1 => ∃ ds y, x = .ins n ds ∧ ds[i]? = some y ∧ P (.d y) ρ1) : OK (mFldE n i fe ρ) P := by
  unfold mFldE
  rw [ok_un]
  refine h.imp fun x ρ1 ⟨ds, y, e, e2, q⟩ => ⟨.d y, ?_, q⟩
  subst e
  show (if n = n then (ds[i]?).bind ok1 else none) = _
  rw [if_pos rfl, e2]
  rfl
theorem ok_truth {fe : M S} {ρ : En} {PB : Bool → En → Prop} (h : OK (dv fe ρ) fun x ρ1 => ∃ b, truD x = some b ∧ PB b ρ1) : OK (mTruth fe ρ) PB := by
  unfold mTruth
  rw [ok_then]
  refine h.imp fun x ρ1 ⟨b, e, q⟩ => ?_
  rw [e]
  exact ok_of q
local macro_rules | `(tactic| walk_at "wp") => `(tactic| simp only [okF_runF, okF_runL, ok_seq, ok_ret, ok_retN, ok_andV, ok_orV, ok_notV, ok_cb, ok_cons, ok_nil, ok_test, ok_dv, ok_op, ok_un, ok_c, ok_if, ok_ifS, ok_and, ok_or, ok_not, ok_asg, ok_gname, ok_drop, ok_call, ok_chain, ok_nx, ok_bk, ok_ct, ok_st, ok_yes, ok_tup, ok_ok, ok_stuck, ex_toD, ex_toL, ex_bl, ex_some, ex_bl1, fl_nx, fl_rt, fl_bk, fl_ct, rt_or, nx_or, mVar, ok1, gIsi, mIsi2, gIsi2, isTy2, isTy, Option.bind, bare, e_add, e_sub, e_int, e_lenS, e_lenT, e_lenL, e_lt, e_le, e_gt, e_ge, e_leC, e_ltC, e_isN, e_notN, e_pow,
  List.map_cons, List.map_nil, List.length_cons, List.length_nil, List.replicate_succ, List.replicate_zero, List.cons_append, List.nil_append, List.append_nil, List.getElem?_cons_zero, List.getElem?_cons_succ, List.set_cons_zero, List.set_cons_succ, Nat.reduceAdd, Nat.reduceSub, true_and, and_true, Bool.not_true, Bool.not_false, true_implies, forall_const, not_true_eq_false, false_implies, Bool.false_eq_true, not_false_eq_true, implies_true, eq_self, ne_eq, reduceCtorEq, Fl.rt.injEq, S.d.injEq, D.int.injEq, false_and, exists_false, or_false, false_or, exists_eq_left'])
local macro_rules | `(tactic| walk_at "wt") => `(tactic| simp (config := { contextual := false }) only [ok_row0, ok_row1, ok_row2, ok_row3, ok_put1, ok_put2, ok_put3, e_mod, e_div, e_mul, e_ixS, decide_true, decide_false, *, okF_runF, okF_runL, ok_seq, ok_ret, ok_retN, ok_andV, ok_orV, ok_notV, ok_cb, ok_cons, ok_nil, ok_test, ok_dv, ok_op, ok_un, ok_c, ok_if, ok_ifS, ok_and, ok_or, ok_not, ok_asg, ok_gname, ok_drop, ok_call, ok_chain, ok_nx, ok_bk, ok_ct, ok_st, ok_yes, ok_tup, ok_ok, ok_stuck, ex_toD, ex_toL, ex_bl, ex_some, ex_bl1, fl_nx, fl_rt, fl_bk, fl_ct, rt_or, nx_or, mVar, ok1, gIsi, mIsi2, gIsi2, isTy2, isTy, Option.bind, bare, e_add, e_sub, e_int, e_lenS, e_lenT, e_lenL, e_lt, e_le, e_gt, e_ge, e_leC, e_ltC, e_isN, e_notN, e_pow,
  List.map_cons, List.map_nil, List.length_cons, List.length_nil, List.replicate_succ, List.replicate_zero, List.cons_append, List.nil_append, List.append_nil, List.getElem?_cons_zero, List.getElem?_cons_succ, List.set_cons_zero, List.set_cons_succ, Nat.reduceAdd, Nat.reduceSub, true_and, and_true, Bool.not_true, Bool.not_false, true_implies, forall_const, not_true_eq_false, false_implies, Bool.false_eq_true, not_false_eq_true, implies_true, eq_self, ne_eq, reduceCtorEq, Fl.rt.injEq, S.d.injEq, D.int.injEq, false_and, exists_false, or_false, false_or, exists_eq_left'])
local macro_rules | `(tactic| walk_at "wy") => `(tactic| try walk_at "wp")
local macro_rules | `(tactic| walk_at "we") => `(tactic| first | done | rfl | exact ⟨rfl, rfl⟩ | exact ⟨rfl, rfl, rfl⟩)
namespace Lib
theorem nums1 {ls : List Int} {lo hi : Int} {K : S → Prop} (hl : ls.length ≤ 16777216) (hv : ∀ l ∈ ls, lo ≤ l ∧ l ≤ hi) (h : K (.d (.bl true))) : OKF (f_are_numbers [.d (.tup (ls.map D.int)), .d (.int lo), .d (.int hi)]) K := by
  have e : ls.map D.int = (ls.map some).map oD := by
    rw [List.map_map]
    rfl
  rw [e]
  refine nums (by rw [List.length_map]; exact hl) ?_
  have e2 : (ls.map some).all (numB lo hi) = true := by
    rw [List.all_eq_true]
    intro o ho
    obtain ⟨l, hm, rfl⟩ := List.mem_map.mp ho
    have := hv l hm
    simp [numB, this.1, this.2]
  rw [e2]
  exact h
/-! ### what is asked of an algebra -/
/-- the level of what was made -/
def lev (ls : List Int) : Option Int → Int
  | none => 4096
  | some i => (ls[i.toNat]?).getD 0
/-- a breaks at element j of the table at f -/
def Brk2 (br : Int → Int → Bool) (ls : List Int) (ts : List (List (Option Int))) (f j : Nat) : Bool := match ts[f]?, ls[j]? with
  | some t, some l => br l (lev ls ((t[j]?).getD none))
  | _, _ => false
theorem Brk2.out {br : Int → Int → Bool} {ls : List Int} {ts : List (List (Option Int))} {f j : Nat} (h : ts.length ≤ f ∨ ls.length ≤ j) : Brk2 br ls ts f j = false := by
  unfold Brk2
  rcases h with h | h
  · rw [List.getElem?_eq_none h]
  · rw [List.getElem?_eq_none h]
    cases ts[f]? <;> rfl
/-- a breaks at elements i, j of the table at f -/
def Brk3 (br : Int → Int → Int → Int → Bool) (ls : List Int) (ts : List (List (Option Int))) (f i j : Nat) : Bool := match ts[f]?, ls[i]?, ls[j]? with
  | some t, some a, some b => br a b (lev ls ((t[i]?).getD none)) (lev ls ((t[j]?).getD none))
  | _, _, _ => false
theorem Brk3.out {br : Int → Int → Int → Int → Bool} {ls : List Int} {ts : List (List (Option Int))} {f i j : Nat} (h : ts.length ≤ f ∨ ls.length ≤ i ∨ ls.length ≤ j) : Brk3 br ls ts f i j = false := by
  unfold Brk3
  rcases h with h | h | h
  · rw [List.getElem?_eq_none h]
  · rw [List.getElem?_eq_none h]
    cases ts[f]? <;> rfl
  · rw [List.getElem?_eq_none h]
    cases ts[f]? <;> cases ls[i]? <;> rfl
end Lib
end Fx
/-! words followed, on data -/
namespace Fx
open PySem
local macro_rules | `(tactic| walk_at "wp") => `(tactic| simp only [okF_runF, okF_runL, ok_seq, ok_ret, ok_retN, ok_andV, ok_orV, ok_notV, ok_cb, ok_cons, ok_nil, ok_test, ok_dv, ok_op, ok_un, ok_c, ok_if, ok_ifS, ok_and, ok_or, ok_not, ok_asg, ok_gname, ok_drop, ok_call, ok_chain, ok_nx, ok_bk, ok_ct, ok_st, ok_yes, ok_tup, ok_ok, ok_stuck, ex_toD, ex_toL, ex_bl, ex_some, ex_bl1, fl_nx, fl_rt, fl_bk, fl_ct, rt_or, nx_or, mVar, ok1, gIsi, mIsi2, gIsi2, isTy2, isTy, Option.bind, bare, e_add, e_sub, e_int, e_lenS, e_lenT, e_lenL, e_lt, e_le, e_gt, e_ge, e_leC, e_ltC, e_isN, e_notN, e_pow,
  List.map_cons, List.map_nil, List.length_cons, List.length_nil, List.replicate_succ, List.replicate_zero, List.cons_append, List.nil_append, List.append_nil, List.getElem?_cons_zero, List.getElem?_cons_succ, List.set_cons_zero, List.set_cons_succ, Nat.reduceAdd, Nat.reduceSub, true_and, and_true, Bool.not_true, Bool.not_false, true_implies, forall_const, not_true_eq_false, false_implies, Bool.false_eq_true, not_false_eq_true, implies_true, eq_self, ne_eq, reduceCtorEq, Fl.rt.injEq, S.d.injEq, D.int.injEq, false_and, exists_false, or_false, false_or, exists_eq_left'])
local macro_rules | `(tactic| walk_at "wt") => `(tactic| simp (config := { contextual := false }) only [ok_row0, ok_row1, ok_row2, ok_row3, ok_put1, ok_put2, ok_put3, e_mod, e_div, e_mul, e_ixS, decide_true, decide_false, *, okF_runF, okF_runL, ok_seq, ok_ret, ok_retN, ok_andV, ok_orV, ok_notV, ok_cb, ok_cons, ok_nil, ok_test, ok_dv, ok_op, ok_un, ok_c, ok_if, ok_ifS, ok_and, ok_or, ok_not, ok_asg, ok_gname, ok_drop, ok_call, ok_chain, ok_nx, ok_bk, ok_ct, ok_st, ok_yes, ok_tup, ok_ok, ok_stuck, ex_toD, ex_toL, ex_bl, ex_some, ex_bl1, fl_nx, fl_rt, fl_bk, fl_ct, rt_or, nx_or, mVar, ok1, gIsi, mIsi2, gIsi2, isTy2, isTy, Option.bind, bare, e_add, e_sub, e_int, e_lenS, e_lenT, e_lenL, e_lt, e_le, e_gt, e_ge, e_leC, e_ltC, e_isN, e_notN, e_pow,
  List.map_cons, List.map_nil, List.length_cons, List.length_nil, List.replicate_succ, List.replicate_zero, List.cons_append, List.nil_append, List.append_nil, List.getElem?_cons_zero, List.getElem?_cons_succ, List.set_cons_zero, List.set_cons_succ, Nat.reduceAdd, Nat.reduceSub, true_and, and_true, Bool.not_true, Bool.not_false, true_implies, forall_const, not_true_eq_false, false_implies, Bool.false_eq_true, not_false_eq_true, implies_true, eq_self, ne_eq, reduceCtorEq, Fl.rt.injEq, S.d.injEq, D.int.injEq, false_and, exists_false, or_false, false_or, exists_eq_left'])
local macro_rules | `(tactic| walk_at "wy") => `(tactic| try walk_at "wp")
local macro_rules | `(tactic| walk_at "we") => `(tactic| first | done | rfl | exact ⟨rfl, rfl⟩ | exact ⟨rfl, rfl, rfl⟩)
namespace Lib
def step (ts : List (List (Option Int))) (f : Int) : Option Int → Option Int
  | none => none
  | some i => (((ts[f.toNat]?).getD [])[i.toNat]?).getD none
def In (ls : List Int) (x : Option Int) : Prop := ∀ i, x = some i → 0 ≤ i ∧ i < (ls.length : Int)
end Lib
end Fx
/-! words keep laws; more of rows -/
namespace Fx
open PySem
/-- a def that draws from the row -/
theorem ok_rowF {F : Fn} {r : Nat} {o : Option Nat} {ns : List Int} {a b c : Int} {fr : M (List D)} {ds : List D} {ρ : En} {P : S → En → Prop} {Pv : S → Prop} (e : ρ[r]? = some (rowS o ns a b c)) (h : OK (fr ρ) fun es ρ1 => es = ds ∧ ρ1 = ρ)
    (k : OK (F (.o (some 0) (rowD ns a b c) :: ds.map .d)) fun s ρ' => Pv s ∧ bare s = true ∧ ∃ a b c, RowOk a b c ∧ ∃ ρ2, ρ' = some (.o (some 0) (rowD ns a b c)) :: ρ2)
    (q : ∀ s a b c, Pv s → RowOk a b c → P s (ρ.set r (rowS o ns a b c))) : OK (mCallO F r 0 (aOwn r fr) ρ) P := by
  refine ok_callO (ok_own.mpr ⟨own_row e, ?_⟩)
  refine h.imp fun es ρ1 ⟨e1, e2⟩ => ?_
  subst e1
  subst e2
  refine ⟨o, rowD ns a b c, e, Nat.zero_le _, k.imp fun s ρ' ⟨hp, hb, a', b', c', hr, ρ2, e3⟩ => ?_⟩
  subst e3
  exact ⟨rowD ns a' b' c', rfl, hb, q s a' b' c' hp hr⟩
namespace Lib
end Lib
end Fx
/-! data that fit, slices, sums of tuples -/
namespace Fx
open PySem
theorem fit_pl : ∀ {n m : Nat} {x : D}, fit n x = true → n ≤ m → pl m x = true := by
  intro n
  induction n with
  | zero =>
    intro m x h _
    cases x <;> first | (simp [pl]; done) | cases h
  | succ n ih =>
    intro m x h hm
    cases m with
    | zero => omega
    | succ m =>
      cases x with
      | tup ds =>
        have h : (decide (ds.length ≤ 1000000) && ds.all (fit n)) = true := h
        rw [Bool.and_eq_true, List.all_eq_true] at h
        simp only [pl, plA_all, List.all_eq_true]
        exact fun y hy => ih (h.2 y hy) (by omega)
      | lst ds =>
        have h : (decide (ds.length ≤ 1000000) && ds.all (fit n)) = true := h
        rw [Bool.and_eq_true, List.all_eq_true] at h
        simp only [pl, plA_all, List.all_eq_true]
        exact fun y hy => ih (h.2 y hy) (by omega)
      | non => simp [pl]
      | bl b => simp [pl]
      | int i => simp [pl]
      | str z => simp [pl]
      | _ => cases h
theorem fit_60 {n : Nat} {x : D} (h : fit n x = true) (hn : n ≤ 60) : pl60 x = true := fit_pl h hn
theorem fit_tup {n : Nat} {ds : List D} (hl : ds.length ≤ 1000000) (h : ∀ x ∈ ds, fit n x = true) : fit (n + 1) (.tup ds) = true := by
  show (decide (ds.length ≤ 1000000) && ds.all (fit n)) = true
  rw [decide_eq_true hl, Bool.true_and, List.all_eq_true]
  exact h
theorem fit_int {n : Nat} {i : Int} : fit n (.int i) = true := by cases n <;> rfl
/-! slices of tuples -/
theorem ok_slTo {fe fh : M S} {ρ : En} {P : S → En → Prop} (h : OK (dv fe ρ) fun x ρ1 => OK (dv fh ρ1) fun y ρ2 => ∃ xs k, x = .tup xs ∧ y = .int k ∧ 0 ≤ k ∧ P (.d (.tup (xs.take k.toNat))) ρ2) : OK (mSl fe oNone (oSome fh) ρ) P := by
  refine ok_sl (h.imp fun x ρ1 h => ?_)
  rw [ok_onone]
  refine ok_osome (h.imp fun y ρ2 h => ?_)
  obtain ⟨xs, k, rfl, rfl, k0, q⟩ := h
  refine ⟨k, rfl, _, rfl, ?_⟩
  rw [cutD_to k0]
  exact q
theorem e_neII {i j : Int} {K : S → Prop} : (∃ s, gNe (.int i) (.int j) = some s ∧ K s) ↔ K (.d (.bl (!decide (i = j)))) := by
  have e : gNe (.int i) (.int j) = some (.d (.bl (!decide (i = j)))) := rfl
  rw [e]
  exact ex_some
local macro_rules | `(tactic| walk_at "wp") => `(tactic| simp only [okF_runF, okF_runL, ok_seq, ok_ret, ok_retN, ok_andV, ok_orV, ok_notV, ok_cb, ok_cons, ok_nil, ok_test, ok_dv, ok_op, ok_un, ok_c, ok_if, ok_ifS, ok_and, ok_or, ok_not, ok_asg, ok_gname, ok_drop, ok_call, ok_chain, ok_nx, ok_bk, ok_ct, ok_st, ok_yes, ok_tup, ok_ok, ok_stuck, ex_toD, ex_toL, ex_bl, ex_some, ex_bl1, fl_nx, fl_rt, fl_bk, fl_ct, rt_or, nx_or, mVar, ok1, gIsi, mIsi2, gIsi2, isTy2, isTy, Option.bind, bare, e_add, e_sub, e_int, e_lenS, e_lenT, e_lenL, e_lt, e_le, e_gt, e_ge, e_leC, e_ltC, e_isN, e_notN, e_pow,
  List.map_cons, List.map_nil, List.length_cons, List.length_nil, List.replicate_succ, List.replicate_zero, List.cons_append, List.nil_append, List.append_nil, List.getElem?_cons_zero, List.getElem?_cons_succ, List.set_cons_zero, List.set_cons_succ, Nat.reduceAdd, Nat.reduceSub, true_and, and_true, Bool.not_true, Bool.not_false, true_implies, forall_const, not_true_eq_false, false_implies, Bool.false_eq_true, not_false_eq_true, implies_true, eq_self, ne_eq, reduceCtorEq, Fl.rt.injEq, S.d.injEq, D.int.injEq, false_and, exists_false, or_false, false_or, exists_eq_left'])
local macro_rules | `(tactic| walk_at "wt") => `(tactic| simp (config := { contextual := false }) only [ok_row0, ok_row1, ok_row2, ok_row3, ok_put1, ok_put2, ok_put3, e_mod, e_div, e_mul, e_ixS, decide_true, decide_false, *, okF_runF, okF_runL, ok_seq, ok_ret, ok_retN, ok_andV, ok_orV, ok_notV, ok_cb, ok_cons, ok_nil, ok_test, ok_dv, ok_op, ok_un, ok_c, ok_if, ok_ifS, ok_and, ok_or, ok_not, ok_asg, ok_gname, ok_drop, ok_call, ok_chain, ok_nx, ok_bk, ok_ct, ok_st, ok_yes, ok_tup, ok_ok, ok_stuck, ex_toD, ex_toL, ex_bl, ex_some, ex_bl1, fl_nx, fl_rt, fl_bk, fl_ct, rt_or, nx_or, mVar, ok1, gIsi, mIsi2, gIsi2, isTy2, isTy, Option.bind, bare, e_add, e_sub, e_int, e_lenS, e_lenT, e_lenL, e_lt, e_le, e_gt, e_ge, e_leC, e_ltC, e_isN, e_notN, e_pow,
  List.map_cons, List.map_nil, List.length_cons, List.length_nil, List.replicate_succ, List.replicate_zero, List.cons_append, List.nil_append, List.append_nil, List.getElem?_cons_zero, List.getElem?_cons_succ, List.set_cons_zero, List.set_cons_succ, Nat.reduceAdd, Nat.reduceSub, true_and, and_true, Bool.not_true, Bool.not_false, true_implies, forall_const, not_true_eq_false, false_implies, Bool.false_eq_true, not_false_eq_true, implies_true, eq_self, ne_eq, reduceCtorEq, Fl.rt.injEq, S.d.injEq, D.int.injEq, false_and, exists_false, or_false, false_or, exists_eq_left'])
local macro_rules | `(tactic| walk_at "wy") => `(tactic| try walk_at "wp")
local macro_rules | `(tactic| walk_at "we") => `(tactic| first | done | rfl | exact ⟨rfl, rfl⟩ | exact ⟨rfl, rfl, rfl⟩)
namespace Lib
theorem OkAlg.app {most m1 m2 : Int} {ls : List Int} {A B : List (List (Option Int))} (a : OkAlg most m1 ls A) (b : OkAlg most m2 ls B) : OkAlg most (m1 + m2) ls (A ++ B) := by
  refine ⟨a.l1, a.l2, a.lv, by rw [List.length_append]; have := a.t1; omega, by rw [List.length_append]; have := a.t2; have := b.t2; omega, fun t ht => ?_⟩
  rcases List.mem_append.mp ht with h | h
  · exact a.tb t h
  · exact b.tb t h
/-! breaks of both -/
end Lib
end Fx
/-! lexicographic products: their levels and functions, when they are isotone -/
namespace Fx
open PySem
namespace Lib
/-! ### the product -/
/-! ### isotone exactly by the parts -/
end Lib
end Fx
/-! comprehensions of two fors -/
namespace Fx
open PySem
section
variable {k1 k2 : Nat} {fe : M S} {ρ0 : En} {ft : M Bool} {PL : List D → En → Prop}
/-- a comprehension over pairs, with a test -/
theorem ok_mapP {t : D × D → Bool} {f : D × D → D} {ps : List (D × D)} (hs : ps.length ≤ 16777216) (st : ∀ p ∈ ps, OK (ft ((ρ0.set k1 (some (.d p.1))).set k2 (some (.d p.2)))) fun b ρ2 => b = t p ∧ ((b = true → OK (dv fe ρ2) fun z ρ3 => z = f p ∧ wipeE ρ3 [k1, k2] = ρ0) ∧ (¬b = true → wipeE ρ2 [k1, k2] = ρ0)))
    (q : PL ((ps.filter t).map f) ρ0) : OK (mComp (gmTup 2 (gmCons (gmName k1) (gmCons (gmName k2) gmNil))) ft fe [k1, k2] (ps.map fun p => .tup [p.1, p.2]) [] ρ0) PL := by
  refine ok_comp (I := fun i acc ρ => acc = ((ps.take i).filter t).map f ∧ acc.length ≤ i ∧ ρ = ρ0) (k := 0) ⟨rfl, Nat.le_refl _, rfl⟩ ?_ ?_
  · rintro i x acc ρ hx ⟨e, hl, rfl⟩
    rw [List.getElem?_map] at hx
    obtain ⟨p, hp, rfl⟩ := Option.map_eq_some_iff.mp hx
    have hi := (List.getElem?_eq_some_iff.mp hp).1
    refine @ok_gtup2 _ _ _ _ _ _ ?_
    rw [Nat.zero_add] at e hl ⊢
    refine (st p (List.mem_of_getElem? hp)).imp fun b ρ2 ⟨eb, h1, h2⟩ => ⟨fun hb => (h1 hb).imp fun z ρ3 ⟨ez, ew⟩ => ⟨decide_eq_true (by omega), ?_, ?_, ew⟩, fun hb => ⟨?_, by omega, h2 hb⟩⟩
    · rw [e, ez, List.take_add_one, hp, List.filter_append, List.map_append]
      have ht : t p = true := by rw [← eb]; exact hb
      simp [ht]
    · rw [List.length_append]
      simp
      exact hl
    · rw [e, List.take_add_one, hp, List.filter_append, List.map_append]
      have ht : t p = false := by rw [← eb]; simpa using hb
      simp [ht]
  · rintro acc ρ ⟨e, _, rfl⟩
    rw [Nat.zero_add, List.length_map, List.take_length] at e
    rw [e]
    exact q
end
theorem setL_ints {ns : List Int} (h : ns.length ≤ 1000) : gSetL (.tup (ns.map D.int)) = some (.d (.int (Rw.uniq ns).length)) := by
  show (match intsD (ns.map D.int) with
    | some ns => if ns.length ≤ 1000 then ok1 (.int (Rw.uniq ns).length) else none
    | none => none) = _
  rw [intsD_map]
  exact if_pos h
end Fx
/-! expressions that change nothing: their value -/
namespace Fx
open PySem
/-- what stands there has the value x and changes nothing -/
def Ev (f : M S) (ρ : En) (x : D) : Prop := OK (dv f ρ) fun y ρ1 => y = x ∧ ρ1 = ρ
def EvA (f : M (List D)) (ρ : En) (xs : List D) : Prop := OK (f ρ) fun ys ρ1 => ys = xs ∧ ρ1 = ρ
def EvB (f : M Bool) (ρ : En) (b : Bool) : Prop := OK (f ρ) fun c ρ1 => c = b ∧ ρ1 = ρ
section
variable {ρ : En} {x y z : D} {fa fb fe : M S} {fA : M (List D)} {xs : List D} {p q b : Bool} {ft fu : M Bool}
theorem Ev.dv (h : Ev fe ρ x) {P : D → En → Prop} (k : P x ρ) : OK (Fx.dv fe ρ) P := h.imp fun y ρ1 ⟨e1, e2⟩ => by rw [e1, e2]; exact k
theorem EvA.ok (h : EvA fA ρ xs) {P : List D → En → Prop} (k : P xs ρ) : OK (fA ρ) P := h.imp fun y ρ1 ⟨e1, e2⟩ => by rw [e1, e2]; exact k
theorem EvB.ok (h : EvB ft ρ b) {P : Bool → En → Prop} (k : P b ρ) : OK (ft ρ) P := h.imp fun y ρ1 ⟨e1, e2⟩ => by rw [e1, e2]; exact k
theorem ev_of (h : OK (fe ρ) fun s ρ1 => s = .d x ∧ ρ1 = ρ) : Ev fe ρ x := by
  unfold Ev
  rw [ok_dv]
  exact h.imp fun s ρ1 ⟨e1, e2⟩ => ⟨x, by rw [e1]; rfl, rfl, e2⟩
theorem ev_var (i : Nat) (e : ρ[i]? = some (some (.d x))) : Ev (mVar i) ρ x := ev_of (by rw [ok_varD e]; exact ⟨rfl, rfl⟩)
theorem ev_c : Ev (mC x) ρ x := ev_of (by rw [ok_c]; exact ⟨rfl, rfl⟩)
theorem ev_op {g : D → D → Option S} (ha : Ev fa ρ x) (hb : Ev fb ρ y) (e : g x y = some (.d z)) : Ev (mOp g fa fb) ρ z := ev_of (by
  rw [ok_op]
  exact ha.dv (hb.dv ⟨_, e, rfl, rfl⟩))
theorem ev_un {g : D → Option S} (ha : Ev fa ρ x) (e : g x = some (.d z)) : Ev (mUn g fa) ρ z := ev_of (by
  rw [ok_un]
  exact ha.dv ⟨_, e, rfl, rfl⟩)
theorem ev_lt {i j : Int} (ha : Ev fa ρ (.int i)) (hb : Ev fb ρ (.int j)) : Ev (mOp gLt fa fb) ρ (.bl (decide (i < j))) := ev_op ha hb rfl
theorem ev_eq {i j : Int} (ha : Ev fa ρ (.int i)) (hb : Ev fb ρ (.int j)) : Ev (mOp gEq fa fb) ρ (.bl (decide (i = j))) := ev_op ha hb rfl
theorem ev_ne {i j : Int} (ha : Ev fa ρ (.int i)) (hb : Ev fb ρ (.int j)) : Ev (mOp gNe fa fb) ρ (.bl (!decide (i = j))) := ev_op ha hb (by
  obtain ⟨s, e, k⟩ := (e_neII (i := i) (j := j) (K := fun s => s = .d (.bl (!decide (i = j))))).mpr rfl
  rw [e, k])
theorem eb_test (h : Ev fe ρ (.bl b)) : EvB (mTest fe) ρ b := by
  unfold EvB
  rw [ok_test]
  exact h.dv ⟨_, rfl, rfl, rfl⟩
theorem eb_not (h : EvB ft ρ b) : EvB (mNot ft) ρ (!b) := by
  unfold EvB
  rw [ok_not]
  exact h.ok ⟨rfl, rfl⟩
theorem eb_and (h : EvB ft ρ p) (k : p = true → EvB fu ρ q) : EvB (mAnd ft fu) ρ (p && q) := by
  unfold EvB
  rw [ok_and]
  refine h.ok ⟨fun e => (k e).ok ⟨by rw [e]; rfl, rfl⟩, fun e => ⟨?_, rfl⟩⟩
  cases p
  · rfl
  · exact absurd rfl e
theorem eb_or (h : EvB ft ρ p) (k : p = false → EvB fu ρ q) : EvB (mOr ft fu) ρ (p || q) := by
  unfold EvB
  rw [ok_or]
  refine h.ok ⟨fun e => ⟨by rw [e]; rfl, rfl⟩, fun e => (k (by simpa using e)).ok ⟨?_, rfl⟩⟩
  cases p
  · rfl
  · exact absurd rfl e
theorem eb_truth (h : Ev fe ρ x) (e : truD x = some b) : EvB (mTruth fe) ρ b := by
  unfold EvB
  exact ok_truth (h.dv ⟨b, e, rfl, rfl⟩)
theorem ev_and (h : Ev fa ρ (.bl p)) (k : Ev fb ρ (.bl q)) : Ev (mAndV fa fb) ρ (.bl (p && q)) := by
  unfold Ev
  rw [ok_dv, ok_andV]
  refine (eb_test h).ok ⟨fun e => ?_, fun e => ?_⟩
  · rw [← ok_dv]
    exact k.dv ⟨by rw [e]; rfl, rfl⟩
  · refine ⟨_, rfl, ?_, rfl⟩
    cases p
    · rfl
    · exact absurd rfl e
theorem ea_nil : EvA aNil ρ [] := by
  unfold EvA
  rw [ok_nil]
  exact ⟨rfl, rfl⟩
theorem ea_cons (h : Ev fe ρ x) (k : EvA fA ρ xs) : EvA (aCons fe fA) ρ (x :: xs) := by
  unfold EvA
  rw [ok_cons]
  exact h.dv (k.ok ⟨rfl, rfl⟩)
theorem ev_tup (h : EvA fA ρ xs) (hs : small xs.length = true := by rfl) : Ev (mTup fA) ρ (.tup xs) := ev_of (by
  rw [ok_tup]
  exact h.ok ⟨hs, rfl, rfl⟩)
theorem ev_call {F : Fn} (h : EvA fA ρ xs) (k : OKF (F (xs.map .d)) fun s => s = .d x) : Ev (mCall F fA) ρ x := ev_of (by
  rw [ok_call]
  exact h.ok (by
    rw [okF] at k ⊢
    exact k.imp fun s _ e => by rw [e]; exact ⟨rfl, rfl, rfl⟩))
theorem ev_ixT {ds : List D} {i : Nat} (ha : Ev fa ρ (.tup ds)) (hb : Ev fb ρ (.int (i : Nat))) (e : ds[i]? = some x) : Ev (mOp gIx fa fb) ρ x := ev_op ha hb (by
  have hi := (List.getElem?_eq_some_iff.mp e).1
  obtain ⟨s, e1, k⟩ := (e_ixT (ds := ds) (i := (i : Int)) (by omega) (by omega) (K := fun s => s = .d x)).mpr (by rw [Int.toNat_natCast, e]; rfl)
  rw [e1, k])
theorem atI_nat {α : Type} {ds : List α} {i : Nat} {x : α} (e : ds[i]? = some x) : L2.atI ds (i : Int) = some x := by
  have hi := (List.getElem?_eq_some_iff.mp e).1
  obtain ⟨y, e1, e2⟩ := at_nat (xs := ds) (i := (i : Int)) (by omega) (by omega)
  rw [Int.toNat_natCast, e] at e2
  cases e2
  exact e1
/-- an element of a list in a name -/
theorem ev_ixO {i : Nat} {b : Option Nat} {ds : List D} {k : Nat} (e1 : ρ[i]? = some (some (.o b (.lst ds)))) (hb : Ev fe ρ (.int (k : Nat))) (e : ds[k]? = some x) : Ev (mIxO i fe) ρ x := ev_of (by
  have ep : peek ρ i = some (.lst ds) := by
    unfold peek
    rw [e1]
  unfold mIxO peekL
  rw [ep]
  dsimp only
  rw [if_pos rfl, ok_then]
  refine hb.dv ?_
  rw [ep]
  dsimp only
  rw [atI_nat e]
  dsimp only
  rw [ok_ok]
  exact ⟨rfl, rfl⟩)
theorem ok_appE {i : Nat} {b : Option Nat} {ds : List D} {PF : S → En → Prop} (e1 : ρ[i]? = some (some (.o b (.lst ds)))) (hb : Ev fe ρ x) (hk : ds.length ≤ 1000000) (q : PF (.d .non) (ρ.set i (some (.o b (.lst (ds ++ [x])))))) : OK (mMeth1 i gApp fe ρ) PF := by
  have hs : small (ds.length + 1) = true := by
    unfold small
    exact decide_eq_true (by omega)
  unfold mMeth1 ownL
  rw [e1]
  dsimp only
  rw [if_pos rfl, ok_then]
  refine hb.dv ?_
  rw [e1]
  dsimp only
  unfold gApp
  rw [if_pos hs]
  dsimp only
  rw [ok_ok]
  exact q
theorem ok_varZ {i : Nat} {P : S → En → Prop} (e : ρ[i]? = some (some (.o none x))) (hc : canFz x = true) (q : P (.d x) (ρ.set i (some (.d x)))) : OK (mVar i ρ) P := by
  unfold mVar
  rw [e]
  dsimp only
  rw [if_pos hc, ok_ok]
  exact q
theorem Ev.raw (h : Ev fe ρ x) : OK (fe ρ) fun s ρ1 => toD s = some x ∧ ρ1 = ρ := by
  unfold Ev at h
  rw [ok_dv] at h
  exact h.imp fun s ρ1 ⟨x', e1, e2, e3⟩ => ⟨by rw [e1, e2], e3⟩
theorem ok_par2E {i j : Nat} {PF : Fl → En → Prop} (ha : Ev fa ρ x) (hb : Ev fb ρ y) (q : PF .nx ((ρ.set j (some (.d y))).set i (some (.d x)))) : OK (mPar2 i false j false (psCons fa (psCons fb psNil)) ρ) PF := by
  refine ok_par2 ?_
  rw [ok_psCons]
  refine ha.raw.imp fun s ρ1 ⟨e1, e2⟩ => ?_
  rw [ok_psCons, e2]
  refine hb.raw.imp fun s' ρ1 ⟨e3, e4⟩ => ?_
  rw [ok_psNil, e4]
  refine ⟨s, s', _, _, rfl, ?_, ?_, q⟩
  · unfold stS
    rw [e1]
    rfl
  · unfold stS
    rw [e3]
    rfl
theorem ev_lst (h : EvA fA ρ xs) (hs : small xs.length = true := by rfl) (hc : canFz (.lst xs) = true := by rfl) : Ev (mLst fA) ρ (.lst xs) := by
  unfold Ev
  rw [ok_dv, ok_lst]
  refine h.ok ⟨hs, .lst xs, ?_, rfl, rfl⟩
  show (if canFz (.lst xs) then some (D.lst xs) else none) = _
  rw [if_pos hc]
theorem ev_add {i j : Int} (ha : Ev fa ρ (.int i)) (hb : Ev fb ρ (.int j)) : Ev (mOp gAdd fa fb) ρ (.int (i + j)) := ev_op ha hb rfl
theorem ev_cb {g : List D → Option S} (h : EvA fA ρ xs) (e : g xs = some (.d z)) : Ev (mCB g fA) ρ z := ev_of (by
  rw [ok_cb]
  exact h.ok ⟨_, e, rfl, rfl⟩)
/-- a call that makes a list -/
theorem ev_callZ {F : Fn} (h : EvA fA ρ xs) (hc : canFz x = true) (k : OKF (F (xs.map .d)) fun s => s = .o none x) : Ev (mCall F fA) ρ x := by
  unfold Ev
  rw [ok_dv, ok_call]
  refine h.ok ?_
  refine k.imp fun s e => ?_
  rw [e]
  refine ⟨rfl, x, ?_, rfl, rfl⟩
  show (if canFz x then some x else none) = _
  rw [if_pos hc]
theorem ev_catL {ys : List D} (ha : Ev fa ρ (.lst xs)) (hb : Ev fb ρ (.lst ys)) (hs : small (xs.length + ys.length) = true) : Ev (mOp gAdd fa fb) ρ (.lst (xs ++ ys)) := by
  unfold Ev
  rw [ok_dv, ok_op]
  refine ha.dv (hb.dv ⟨.o none (.lst (xs ++ ys)), ?_, _, rfl, rfl, rfl⟩)
  show (if small (xs.length + ys.length) then some (S.o none (.lst (xs ++ ys))) else none) = _
  rw [if_pos hs]
end
end Fx
/-! graphs on data: drawn -/
namespace Fx
open PySem
namespace Lib
def b_law_pick : M Fl := (mRet (mOp gIx (mVar 1) (mCallO f_law_taken 0 0 (aOwn 0 (aCons (mCB gLen (aCons (mVar 1) aNil)) aNil)))))
def f_law_pick : Fn := runF 2 2 b_law_pick
def b_law_arcs : M Fl := (mSeq (mAsgO 3 (mLst aNil))
    (mSeq (mFor (iRange1 (aCons (mVar 1) aNil)) (gmName 4) (mFor (iRange1 (aCons (mVar 1) aNil)) (gmName 5) (mIfS (mAnd (mTest (mOp gNe (mVar 4) (mVar 5))) (mTest (mOp gEq (mCallO f_law_taken 0 0 (aOwn 0 (aCons (mVar 2) aNil))) (mC (.int 0))))) (mDrop (mMeth1 3 gApp (mTup (aCons (mVar 4) (aCons (mVar 5) aNil))))) mNx)))
    (mRet (mCB gTuple (aCons (mVar 3) aNil)))))
def f_law_arcs : Fn := runF 3 6 b_law_arcs
/-- an arc -/
def arcD (p : Nat × Nat) : D := .tup [.int p.1, .int p.2]
def ltA (p q : Nat × Nat) : Prop := p.1 < q.1 ∨ (p.1 = q.1 ∧ p.2 < q.2)
/-- arcs of n nodes, ascending -/
structure OkArcs (n : Nat) (as : List (Nat × Nat)) : Prop where
  rng : ∀ p ∈ as, p.1 < n ∧ p.2 < n ∧ p.1 ≠ p.2
  asc : as.Pairwise ltA
theorem OkArcs.len {n : Nat} : ∀ {as : List (Nat × Nat)}, OkArcs n as → as.length ≤ n * n := by
  intro as o
  have key : ∀ (l : List (Nat × Nat)) (k : Nat), (∀ p ∈ l, k ≤ p.1 * n + p.2 ∧ p.1 * n + p.2 < n * n) → (l.map fun p => p.1 * n + p.2).Pairwise (· < ·) → l.length + k ≤ n * n ∨ l = [] := by
    intro l
    induction l with
    | nil => exact fun _ _ _ => .inr rfl
    | cons p l ih =>
      intro k h hp
      obtain ⟨h1, h2⟩ := h p List.mem_cons_self
      rw [List.map_cons, List.pairwise_cons] at hp
      have := ih (p.1 * n + p.2 + 1) (fun q hq => ⟨hp.1 _ (List.mem_map.mpr ⟨q, hq, rfl⟩), (h q (List.mem_cons_of_mem _ hq)).2⟩) hp.2
      left
      rcases this with this | rfl
      · rw [List.length_cons]
        omega
      · simp only [List.length_cons, List.length_nil]
        omega
  have hb : ∀ p ∈ as, 0 ≤ p.1 * n + p.2 ∧ p.1 * n + p.2 < n * n := fun p hp => by
    obtain ⟨a, b, _⟩ := o.rng p hp
    have : (p.1 + 1) * n ≤ n * n := Nat.mul_le_mul (by omega) (Nat.le_refl _)
    rw [Nat.add_mul, Nat.one_mul] at this
    exact ⟨Nat.zero_le _, by omega⟩
  have hp : (as.map fun p => p.1 * n + p.2).Pairwise (· < ·) := by
    rw [List.pairwise_map]
    refine List.Pairwise.imp_of_mem (fun {p q} hp hq h => ?_) o.asc
    obtain ⟨_, b, _⟩ := o.rng p hp
    rcases h with h | ⟨h1, h2⟩
    · have : (p.1 + 1) * n ≤ q.1 * n := Nat.mul_le_mul (by omega) (Nat.le_refl _)
      rw [Nat.add_mul, Nat.one_mul] at this
      omega
    · rw [h1]
      omega
  rcases key as 0 hb hp with h | rfl
  · omega
  · exact Nat.zero_le _
theorem pick {ns : List Int} {a b c : Int} {ds : List D} (h : RowOk a b c) (h0 : 0 < ds.length) (h1 : ds.length ≤ 1000) :
    OK (f_law_pick [.o (some 0) (rowD ns a b c), .d (.lst ds)]) fun s ρ => ∃ x a b c, x ∈ ds ∧ s = .d x ∧ RowOk a b c ∧ ∃ ρ', ρ = some (.o (some 0) (rowD ns a b c)) :: ρ' := by
  unfold f_law_pick
  refine ok_runF rfl ?_
  show OK (b_law_pick [some (.o (some 0) (rowD ns a b c)), some (.d (.lst ds))]) _
  unfold b_law_pick
  rw [ok_ret, ok_op]
  refine (ev_var 1 rfl).dv ?_
  rw [ok_dv]
  refine ok_taken (m := ds.length) rfl h ?_ (by omega) (by omega) fun v a b c v0 v1 h => ?_
  · exact (ev_cb (ea_cons (ev_var 1 rfl) ea_nil) rfl).dv ⟨rfl, rfl⟩
  refine ⟨_, rfl, ?_⟩
  obtain ⟨x, e1, e2⟩ := at_nat (xs := ds) v0 v1
  refine ⟨.d x, ?_, .inl ⟨_, rfl, x, a, b, c, List.mem_of_getElem? e2, rfl, h, _, rfl⟩⟩
  show (L2.atI ds v).bind ok1 = _
  rw [e1]
  rfl
theorem law_arcs {ns : List Int} {a b c m : Int} {n : Nat} (h : RowOk a b c) (hn : n ≤ 60) (m0 : 0 < m) (m1 : m < 1073741824) :
    OK (f_law_arcs [.o (some 0) (rowD ns a b c), .d (.int n), .d (.int m)]) fun s ρ => ∃ as a b c, s = .d (.tup (as.map arcD)) ∧ OkArcs n as ∧ RowOk a b c ∧ ∃ ρ', ρ = some (.o (some 0) (rowD ns a b c)) :: ρ' := by
  unfold f_law_arcs
  refine ok_runF rfl ?_
  show OK (b_law_arcs [some (.o (some 0) (rowD ns a b c)), some (.d (.int n)), some (.d (.int m)), none, none, none]) _
  unfold b_law_arcs
  refine ok_seqI (fun ρ => ρ = [rowS (some 0) ns a b c, some (.d (.int n)), some (.d (.int m)), some (.o none (.lst [])), none, none]) ?_ ?_
  · rw [ok_asgO, ok_lst]
    exact ea_nil.ok ⟨rfl, .inl ⟨_, rfl, rfl, rfl⟩⟩
  rintro _ rfl
  refine ok_seqI (fun ρ => ∃ as a b c x4 x5, OkArcs n as ∧ RowOk a b c ∧ ρ = [rowS (some 0) ns a b c, some (.d (.int n)), some (.d (.int m)), some (.o none (.lst (as.map arcD))), x4, x5]) ?_ ?_
  · rw [ok_for]
    refine @ok_range1e _ _ _ ?_
    refine (ea_cons (ev_var 1 rfl) ea_nil).ok ⟨n, rfl, by omega, by omega, ?_⟩
    refine @ok_loop _ _ (fun i ρ => ∃ as a b c x4 x5, (OkArcs n as ∧ ∀ p ∈ as, p.1 < i) ∧ RowOk a b c ∧ ρ = [rowS (some 0) ns a b c, some (.d (.int n)), some (.d (.int m)), some (.o none (.lst (as.map arcD))), x4, x5]) _ _ 0 _ ⟨[], a, b, c, _, _, ⟨⟨fun p hp => by simp at hp, .nil⟩, fun p hp => by simp at hp⟩, h, rfl⟩ ?_ ?_
    · clear h a b c
      rintro i x ρ hx ⟨as, a, b, c, x4, x5, ⟨o, oi⟩, h, rfl⟩
      obtain ⟨rfl, hi⟩ := intsFrom_at hx
      rw [Int.toNat_natCast] at hi
      rw [Nat.zero_add] at oi ⊢
      simp only [ok_gname, List.set_cons_succ, List.set_cons_zero]
      rw [ok_for]
      refine @ok_range1e _ _ _ ?_
      refine (ea_cons (ev_var 1 rfl) ea_nil).ok ⟨n, rfl, by omega, by omega, ?_⟩
      refine @ok_loop _ _ (fun j ρ => ∃ as a b c x5, (OkArcs n as ∧ ∀ p ∈ as, p.1 < i ∨ (p.1 = i ∧ p.2 < j)) ∧ RowOk a b c ∧ ρ = [rowS (some 0) ns a b c, some (.d (.int n)), some (.d (.int m)), some (.o none (.lst (as.map arcD))), some (.d (.int (i : Nat))), x5]) _ _ 0 _ ⟨as, a, b, c, _, ⟨o, fun p hp => .inl (oi p hp)⟩, h, rfl⟩ ?_ ?_
      · clear o oi h as a b c x5
        rintro j x ρ hx ⟨as, a, b, c, x5, ⟨o, oi⟩, h, rfl⟩
        obtain ⟨rfl, hj⟩ := intsFrom_at hx
        rw [Int.toNat_natCast] at hj
        rw [Nat.zero_add] at oi ⊢
        simp only [ok_gname, List.set_cons_succ, List.set_cons_zero]
        have stay : ∀ p ∈ as, p.1 < i ∨ (p.1 = i ∧ p.2 < j + 1) := fun p hp => by have := oi p hp; omega
        rw [ok_ifS, ok_and]
        refine (eb_test (ev_ne (ev_var 4 rfl) (ev_var 5 rfl))).ok ⟨fun e => ?_, fun e => ⟨fun n => (by cases n), fun _ => ?_⟩⟩
        · have hij : i ≠ j := fun z => by simp [z] at e
          rw [ok_test, ok_dv, ok_op, ok_dv]
          refine ok_taken (m := m) rfl h ((ev_var 2 rfl).dv ⟨rfl, rfl⟩) m0 m1 fun v a b c v0 v1 h => ?_
          refine ⟨_, rfl, ?_⟩
          refine ev_c.dv ⟨_, rfl, _, rfl, _, rfl, fun _ => ?_, fun _ => ?_⟩
          · rw [ok_drop]
            have hl := o.len
            have hz : n * n ≤ 60 * 60 := Nat.mul_le_mul hn hn
            refine ok_appE (x := arcD (i, j)) rfl (ev_tup (ea_cons (ev_var 4 rfl) (ea_cons (ev_var 5 rfl) ea_nil))) (by rw [List.length_map]; omega) ?_
            refine ⟨fun _ => ⟨as ++ [(i, j)], a, b, c, some (.d (.int (j : Nat))), ⟨⟨fun p hp => ?_, ?_⟩, fun p hp => ?_⟩, h, ?_⟩, fun n => (by cases n), fun s n => (by cases n)⟩
            · rcases List.mem_append.mp hp with hp | hp
              · exact o.rng p hp
              · rw [List.mem_singleton.mp hp]
                exact ⟨hi, hj, hij⟩
            · rw [List.pairwise_append]
              refine ⟨o.asc, List.pairwise_singleton _ _, fun p hp q hq => ?_⟩
              rw [List.mem_singleton.mp hq]
              have := oi p hp
              show p.1 < i ∨ (p.1 = i ∧ p.2 < j)
              exact this
            · rcases List.mem_append.mp hp with hp | hp
              · exact stay p hp
              · rw [List.mem_singleton.mp hp]
                exact .inr ⟨rfl, Nat.lt_succ_self _⟩
            · rw [List.map_append]
              rfl
          · rw [ok_nx]
            exact ⟨fun _ => ⟨as, a, b, c, some (.d (.int (j : Nat))), ⟨o, stay⟩, h, rfl⟩, fun n => (by cases n), fun s n => (by cases n)⟩
        · rw [ok_nx]
          exact ⟨fun _ => ⟨as, a, b, c, some (.d (.int (j : Nat))), ⟨o, stay⟩, h, rfl⟩, fun n => (by cases n), fun s n => (by cases n)⟩
      · rintro ρ ⟨as, a, b, c, x5, ⟨o, oi⟩, h, rfl⟩
        exact ⟨fun _ => ⟨as, a, b, c, some (.d (.int (i : Nat))), x5, ⟨o, fun p hp => by have := oi p hp; omega⟩, h, rfl⟩, fun n => (by cases n), fun s n => (by cases n)⟩
    · rintro ρ ⟨as, a, b, c, x4, x5, ⟨o, _⟩, h, rfl⟩
      exact ⟨rfl, as, a, b, c, x4, x5, o, h, rfl⟩
  clear h a b c
  rintro _ ⟨as, a, b, c, x4, x5, o, h, rfl⟩
  rw [ok_ret, ok_cb, ok_cons, ok_dv]
  refine ok_varZ rfl rfl ⟨_, rfl, ?_⟩
  rw [ok_nil]
  exact ⟨_, rfl, .inl ⟨_, rfl, as, a, b, c, rfl, o, h, _, rfl⟩⟩
end Lib
end Fx
/-! graphs on data: made, checked -/
namespace Fx
open PySem
local macro_rules | `(tactic| walk_at "wp") => `(tactic| simp only [okF_runF, okF_runL, ok_seq, ok_ret, ok_retN, ok_andV, ok_orV, ok_notV, ok_cb, ok_cons, ok_nil, ok_test, ok_dv, ok_op, ok_un, ok_c, ok_if, ok_ifS, ok_and, ok_or, ok_not, ok_asg, ok_gname, ok_drop, ok_call, ok_chain, ok_nx, ok_bk, ok_ct, ok_st, ok_yes, ok_tup, ok_ok, ok_stuck, ex_toD, ex_toL, ex_bl, ex_some, ex_bl1, fl_nx, fl_rt, fl_bk, fl_ct, rt_or, nx_or, mVar, ok1, gIsi, mIsi2, gIsi2, isTy2, isTy, Option.bind, bare, e_add, e_sub, e_int, e_lenS, e_lenT, e_lenL, e_lt, e_le, e_gt, e_ge, e_leC, e_ltC, e_isN, e_notN, e_pow,
  List.map_cons, List.map_nil, List.length_cons, List.length_nil, List.replicate_succ, List.replicate_zero, List.cons_append, List.nil_append, List.append_nil, List.getElem?_cons_zero, List.getElem?_cons_succ, List.set_cons_zero, List.set_cons_succ, Nat.reduceAdd, Nat.reduceSub, true_and, and_true, Bool.not_true, Bool.not_false, true_implies, forall_const, not_true_eq_false, false_implies, Bool.false_eq_true, not_false_eq_true, implies_true, eq_self, ne_eq, reduceCtorEq, Fl.rt.injEq, S.d.injEq, D.int.injEq, false_and, exists_false, or_false, false_or, exists_eq_left'])
local macro_rules | `(tactic| walk_at "wt") => `(tactic| simp (config := { contextual := false }) only [ok_row0, ok_row1, ok_row2, ok_row3, ok_put1, ok_put2, ok_put3, e_mod, e_div, e_mul, e_ixS, decide_true, decide_false, *, okF_runF, okF_runL, ok_seq, ok_ret, ok_retN, ok_andV, ok_orV, ok_notV, ok_cb, ok_cons, ok_nil, ok_test, ok_dv, ok_op, ok_un, ok_c, ok_if, ok_ifS, ok_and, ok_or, ok_not, ok_asg, ok_gname, ok_drop, ok_call, ok_chain, ok_nx, ok_bk, ok_ct, ok_st, ok_yes, ok_tup, ok_ok, ok_stuck, ex_toD, ex_toL, ex_bl, ex_some, ex_bl1, fl_nx, fl_rt, fl_bk, fl_ct, rt_or, nx_or, mVar, ok1, gIsi, mIsi2, gIsi2, isTy2, isTy, Option.bind, bare, e_add, e_sub, e_int, e_lenS, e_lenT, e_lenL, e_lt, e_le, e_gt, e_ge, e_leC, e_ltC, e_isN, e_notN, e_pow,
  List.map_cons, List.map_nil, List.length_cons, List.length_nil, List.replicate_succ, List.replicate_zero, List.cons_append, List.nil_append, List.append_nil, List.getElem?_cons_zero, List.getElem?_cons_succ, List.set_cons_zero, List.set_cons_succ, Nat.reduceAdd, Nat.reduceSub, true_and, and_true, Bool.not_true, Bool.not_false, true_implies, forall_const, not_true_eq_false, false_implies, Bool.false_eq_true, not_false_eq_true, implies_true, eq_self, ne_eq, reduceCtorEq, Fl.rt.injEq, S.d.injEq, D.int.injEq, false_and, exists_false, or_false, false_or, exists_eq_left'])
local macro_rules | `(tactic| walk_at "wy") => `(tactic| try walk_at "wp")
local macro_rules | `(tactic| walk_at "we") => `(tactic| first | done | rfl | exact ⟨rfl, rfl⟩ | exact ⟨rfl, rfl, rfl⟩)
namespace Lib
def b_law_graph : M Fl := (mSeq (mAsg (mOp gAdd (mC (.int 2)) (mCallO f_law_taken 0 0 (aOwn 0 (aCons (mOp gMinus (mVar 1) (mC (.int 1))) aNil)))) (gmName 2))
    (mSeq (mPar2 3 false 4 false (psCons (mCallO f_law_arcs 0 0 (aOwn 0 (aCons (mVar 2) (aCons (mCallO f_law_pick 0 0 (aOwn 0 (aCons (mLst (aCons (mC (.int 1)) (aCons (mC (.int 2)) (aCons (mC (.int 2)) (aCons (mC (.int 3)) aNil))))) aNil))) aNil)))) (psCons (mCallO f_law_pick 0 0 (aOwn 0 (aCons (mLst (aCons (mC (.int 2)) (aCons (mC (.int 4)) (aCons (mC (.int 100)) aNil)))) aNil))) psNil)))
    (mRet (mTup (aCons (mVar 2) (aCons (mVar 3) (aCons (mCB gTuple (aCons (mLc (iSeq (mVar 3)) (gmName 5) mYes (mOp gAdd (mC (.int 1)) (mCallO f_law_taken 0 0 (aOwn 0 (aCons (mVar 4) aNil)))) [5]) aNil)) aNil)))))))
def f_law_graph : Fn := runF 2 6 b_law_graph
def b_is_arc : M Fl := (mRet (mAndV (mCall f_are_numbers (aCons (mVar 1) (aCons (mC (.int 0)) (aCons (mOp gMinus (mVar 0) (mC (.int 1))) aNil)))) (mAndV (mOp gEq (mCB gLen (aCons (mVar 1) aNil)) (mC (.int 2))) (mOp gNe (mOp gIx (mVar 1) (mC (.int 0))) (mOp gIx (mVar 1) (mC (.int 1)))))))
def f_is_arc : Fn := runF 2 2 b_is_arc
def b_Graph_init : M Fl := (mSeq (mIfS (mOr (mNot (mTest (mCall f_is_number (aCons (mVar 1) (aCons (mC (.int 1)) (aCons (mC (.int 8)) aNil)))))) (mNot (mTest (mCall f_is_tuple (aCons (mVar 2) (aCons (mC (.int 0)) (aCons (mC (.int 64)) aNil))))))) mSt mNx)
    (mSeq (mFor (iEnu (aCons (mVar 2) aNil)) (gmTup 2 (gmCons (gmName 3) (gmCons (gmName 4) gmNil))) (mIfS (mOr (mNot (mTest (mCall f_is_arc (aCons (mVar 1) (aCons (mVar 4) aNil))))) (mTest (mOp gIn (mVar 4) (mSl (mVar 2) oNone (oSome (mVar 3)))))) mSt mNx))
    (mSeq (mSetF "Graph" 0 0 (mTupRg (mVar 1)))
    (mSetF "Graph" 1 0 (mCB gTuple (aCons (mCB gSortA (aCons (mVar 2) aNil)) aNil))))))
def f_Graph_init : Fn := runF 3 5 b_Graph_init
def graphD (n : Nat) (as : List (Nat × Nat)) : D := .ins "Graph" [.tup (intsFrom 0 n), .tup (as.map arcD)]
theorem toD_back {s : S} {x : D} (h : toD s = some x) (hc : canFz x = false) : s = .d x := by
  cases s with
  | d y =>
    have h : some y = some x := h
    cases h
    rfl
  | o b y =>
    cases b with
    | none =>
      have h : (if canFz y then some y else none) = some x := h
      split at h
      · rename_i k
        cases h
        rw [hc] at k
        cases k
      · cases h
    | some k => cases h
  | q _ _ => cases h
theorem is_arc {n : Nat} {p : Nat × Nat} (h1 : p.1 < n) (h2 : p.2 < n) (h3 : p.1 ≠ p.2) : OKF (f_is_arc [.d (.int n), .d (arcD p)]) fun s => s = .d (.bl true) := by
  unfold f_is_arc
  rw [okF]
  refine ok_runF rfl ?_
  show OK (b_is_arc [some (.d (.int n)), some (.d (arcD p))]) _
  unfold b_is_arc
  rw [ok_ret]
  have e1 : Ev (mCall f_are_numbers (aCons (mVar 1) (aCons (mC (.int 0)) (aCons (mOp gMinus (mVar 0) (mC (.int 1))) aNil)))) [some (.d (.int n)), some (.d (arcD p))] (.bl true) := by
    refine ev_call (ea_cons (ev_var 1 rfl) (ea_cons ev_c (ea_cons (ev_op (ev_var 0 rfl) ev_c rfl) ea_nil))) ?_
    refine nums1 (ls := [(p.1 : Int), (p.2 : Int)]) (lo := 0) (hi := (n : Int) - 1) (by show 2 ≤ 16777216; omega) (fun l hl => ?_) rfl
    simp only [List.mem_cons, List.not_mem_nil, or_false] at hl
    rcases hl with rfl | rfl <;> omega
  have e2 : Ev (mOp gEq (mCB gLen (aCons (mVar 1) aNil)) (mC (.int 2))) [some (.d (.int n)), some (.d (arcD p))] (.bl true) := ev_eq (ev_cb (z := .int 2) (ea_cons (ev_var 1 rfl) ea_nil) rfl) ev_c
  have e3 : Ev (mOp gNe (mOp gIx (mVar 1) (mC (.int 0))) (mOp gIx (mVar 1) (mC (.int 1)))) [some (.d (.int n)), some (.d (arcD p))] (.bl true) := by
    have := ev_ne (i := (p.1 : Int)) (j := (p.2 : Int)) (ρ := [some (.d (.int n)), some (.d (arcD p))]) (ev_ixT (ds := [.int p.1, .int p.2]) (i := 0) (ev_var 1 rfl) ev_c rfl) (ev_ixT (ds := [.int p.1, .int p.2]) (i := 1) (ev_var 1 rfl) ev_c rfl)
    have e : (!decide ((p.1 : Int) = (p.2 : Int))) = true := by
      rw [Bool.not_eq_true', decide_eq_false_iff_not]
      omega
    rw [e] at this
    exact this
  refine (ev_and e1 (ev_and e2 e3)).raw.imp fun s ρ1 ⟨a, _⟩ => .inl ⟨s, rfl, ?_⟩
  exact toD_back a rfl
theorem eqD_arc {p q : Nat × Nat} : eqD (arcD p) (arcD q) = decide (p = q) := by
  obtain ⟨a, b⟩ := p
  obtain ⟨x, y⟩ := q
  have e : eqD (arcD (a, b)) (arcD (x, y)) = (((a : Int) == (x : Int)) && (((b : Int) == (y : Int)) && true)) := by
    show PyData.eqv (toP (.tup [.int a, .int b])) (toP (.tup [.int x, .int y])) = _
    simp [toP, toPs, PyData.eqv, PyData.eqvAll]
  rw [e, Bool.and_true, Bool.eq_iff_iff]
  simp only [Bool.and_eq_true, beq_iff_eq, decide_eq_true_eq, Prod.mk.injEq]
  omega
theorem fit_arc {n : Nat} {p : Nat × Nat} : fit (n + 1) (arcD p) = true := fit_tup (by show 2 ≤ 1000000; omega) fun y hy => by
  simp only [List.mem_cons, List.not_mem_nil, or_false] at hy
  rcases hy with rfl | rfl <;> exact fit_int
theorem pl_arc {p : Nat × Nat} : pl60 (arcD p) = true := fit_60 (n := 1) fit_arc (by decide)
theorem in_arcs {p : Nat × Nat} {as : List (Nat × Nat)} (hl : as.length ≤ 1000000) : gIn (arcD p) (.tup (as.map arcD)) = some (.d (.bl (decide (p ∈ as)))) := by
  have hp : plA 60 (as.map arcD) = true := by
    have h : pl 61 (.tup (as.map arcD)) = true := fit_pl (n := 2) (fit_tup (n := 1) (by rw [List.length_map]; exact hl) fun x hx => by
      obtain ⟨q, _, rfl⟩ := List.mem_map.mp hx
      exact fit_arc) (by decide)
    exact h
  have e : inD (arcD p) (as.map arcD) = decide (p ∈ as) := by
    unfold inD
    rw [List.any_map, Bool.eq_iff_iff, List.any_eq_true, decide_eq_true_eq]
    constructor
    · rintro ⟨q, hq, h⟩
      have h : eqD (arcD q) (arcD p) = true := h
      rw [eqD_arc, decide_eq_true_eq] at h
      rw [← h]
      exact hq
    · intro h
      refine ⟨p, h, ?_⟩
      show eqD (arcD p) (arcD p) = true
      rw [eqD_arc]
      simp
  show (if (pl60 (arcD p) && plA 60 (as.map arcD)) = true then ok1 (.bl (inD (arcD p) (as.map arcD))) else none) = _
  rw [pl_arc, hp, e]
  rfl
theorem sort_arcs {n : Nat} {as : List (Nat × Nat)} (o : OkArcs n as) : gSortA [.tup (as.map arcD)] = some (.o none (.lst (as.map arcD))) := by
  have e1 : as.map arcD = (as.map fun p => [(p.1 : Int), (p.2 : Int)]).map tpD := by
    rw [List.map_map]
    rfl
  have e2 : isortL (as.map fun p => [(p.1 : Int), (p.2 : Int)]) = as.map fun p => [(p.1 : Int), (p.2 : Int)] := by
    refine (isortL_eq (.refl _) ?_).symm
    rw [List.pairwise_map]
    refine List.Pairwise.imp (fun {p q} h => ?_) o.asc
    unfold leL lexI
    unfold ltA at h
    by_cases e : (q.1 : Int) = (p.1 : Int)
    · rw [if_pos e]
      unfold lexI
      rw [if_neg (by omega), decide_eq_false_iff_not]
      omega
    · rw [if_neg e, decide_eq_false_iff_not]
      omega
  show (tpsOf (as.map arcD)).map (fun ps => S.o none (.lst ((isortL ps).map tpD))) = _
  rw [e1, tpsOf_map (fun p hp => by
    obtain ⟨q, _, rfl⟩ := List.mem_map.mp hp
    simp), Option.map_some, e2]
theorem madeG {n : Nat} {as : List (Nat × Nat)} (o : OkArcs n as) (h1 : 1 ≤ n) (h2 : n ≤ 8) :
    OK (f_Graph_init [.o (some 0) (.ins "Graph" []), .d (.int n), .d (.tup (as.map arcD))]) fun s ρ => s = .d .non ∧ ρ[0]? = some (some (.o (some 0) (graphD n as))) := by
  have hl := o.len
  have hz : n * n ≤ 8 * 8 := Nat.mul_le_mul h2 h2
  unfold f_Graph_init
  refine ok_runF rfl ?_
  show OK (b_Graph_init [some (.o (some 0) (.ins "Graph" [])), some (.d (.int n)), some (.d (.tup (as.map arcD))), none, none]) _
  unfold b_Graph_init
  refine ok_seqI (fun ρ => ρ = [some (.o (some 0) (.ins "Graph" [])), some (.d (.int n)), some (.d (.tup (as.map arcD))), none, none]) ?_ ?_
  · have e1 : Ev (mCall f_is_number (aCons (mVar 1) (aCons (mC (.int 1)) (aCons (mC (.int 8)) aNil)))) [some (.o (some 0) (.ins "Graph" [])), some (.d (.int n)), some (.d (.tup (as.map arcD))), none, none] (.bl true) := by
      refine ev_call (ea_cons (ev_var 1 rfl) (ea_cons ev_c (ea_cons ev_c ea_nil))) ?_
      refine (num (o := some (n : Int)) (lo := 1) (hi := 8)).mpr ?_
      show S.d (.bl (decide (1 ≤ (n : Int)) && decide ((n : Int) ≤ 8))) = _
      rw [decide_eq_true (by omega), decide_eq_true (by omega)]
      rfl
    have e2 : Ev (mCall f_is_tuple (aCons (mVar 2) (aCons (mC (.int 0)) (aCons (mC (.int 64)) aNil)))) [some (.o (some 0) (.ins "Graph" [])), some (.d (.int n)), some (.d (.tup (as.map arcD))), none, none] (.bl true) := by
      refine ev_call (ea_cons (ev_var 2 rfl) (ea_cons ev_c (ea_cons ev_c ea_nil))) ?_
      refine tup.mpr ?_
      rw [List.length_map, decide_eq_true (by omega), decide_eq_true (by omega)]
      rfl
    rw [ok_ifS]
    refine (eb_or (eb_not (eb_test e1)) fun _ => eb_not (eb_test e2)).ok ⟨fun n => (by cases n), fun _ => ?_⟩
    rw [ok_nx]
    exact ⟨rfl, rfl⟩
  rintro _ rfl
  refine ok_seqI (fun ρ => ∃ x3 x4, ρ = [some (.o (some 0) (.ins "Graph" [])), some (.d (.int n)), some (.d (.tup (as.map arcD))), x3, x4]) ?_ ?_
  · rw [ok_for]
    refine ok_ienu ?_
    refine (ea_cons (ev_var 2 rfl) ea_nil).ok ⟨_, _, rfl, rfl, ?_⟩
    refine ok_loop (k := 0) (I := fun i ρ => ∃ x3 x4, ρ = [some (.o (some 0) (.ins "Graph" [])), some (.d (.int n)), some (.d (.tup (as.map arcD))), x3, x4]) ⟨_, _, rfl⟩ ?_ ?_
    · rintro i x ρ hx ⟨x3, x4, rfl⟩
      obtain ⟨d, hd, rfl⟩ := enumD_at hx
      rw [List.getElem?_map] at hd
      obtain ⟨p, hp, rfl⟩ := Option.map_eq_some_iff.mp hd
      refine ok_gtup2 ?_
      obtain ⟨p1, p2, p3⟩ := o.rng p (List.mem_of_getElem? hp)
      have hi := (List.getElem?_eq_some_iff.mp hp).1
      have hno : decide (p ∈ as.take i) = false := by
        rw [decide_eq_false_iff_not]
        intro hm
        obtain ⟨j, hj⟩ := List.getElem?_of_mem hm
        have hj1 : j < i := by
          have := (List.getElem?_eq_some_iff.mp hj).1
          rw [List.length_take] at this
          omega
        rw [List.getElem?_take_of_lt hj1] at hj
        obtain ⟨q1, q2⟩ := List.getElem?_eq_some_iff.mp hj
        obtain ⟨q3, q4⟩ := List.getElem?_eq_some_iff.mp hp
        have := List.pairwise_iff_getElem.mp o.asc j i q1 q3 hj1
        rw [q2, q4] at this
        unfold ltA at this
        omega
      show OK (mIfS _ mSt mNx [some (.o (some 0) (.ins "Graph" [])), some (.d (.int n)), some (.d (.tup (as.map arcD))), some (.d (.int (i : Nat))), some (.d (arcD p))]) _
      rw [ok_ifS]
      have e1 : EvB (mNot (mTest (mCall f_is_arc (aCons (mVar 1) (aCons (mVar 4) aNil))))) [some (.o (some 0) (.ins "Graph" [])), some (.d (.int n)), some (.d (.tup (as.map arcD))), some (.d (.int (i : Nat))), some (.d (arcD p))] (!true) := eb_not (eb_test (ev_call (ea_cons (ev_var 1 rfl) (ea_cons (ev_var 4 rfl) ea_nil)) (is_arc p1 p2 p3)))
      have e2 : EvB (mTest (mOp gIn (mVar 4) (mSl (mVar 2) oNone (oSome (mVar 3))))) [some (.o (some 0) (.ins "Graph" [])), some (.d (.int n)), some (.d (.tup (as.map arcD))), some (.d (.int (i : Nat))), some (.d (arcD p))] false := by
        refine eb_test (ev_op (x := arcD p) (y := .tup ((as.take i).map arcD)) (ev_var 4 rfl) ?_ (by rw [in_arcs (by rw [List.length_take]; omega), hno]))
        refine ev_of (ok_slTo ((ev_var 2 rfl).dv ((ev_var 3 rfl).dv ⟨_, _, rfl, rfl, by omega, ?_, rfl⟩)))
        rw [Int.toNat_natCast, List.map_take]
      refine (eb_or e1 fun _ => e2).ok ⟨fun n => (by cases n), fun _ => ?_⟩
      rw [ok_nx]
      exact ⟨fun _ => ⟨_, _, rfl⟩, fun n => (by cases n), fun s n => (by cases n)⟩
    · rintro ρ ⟨x3, x4, rfl⟩
      exact ⟨rfl, _, _, rfl⟩
  rintro _ ⟨x3, x4, rfl⟩
  rw [ok_seq]
  have er : Ev (mTupRg (mVar 1)) [some (.o (some 0) (.ins "Graph" [])), some (.d (.int n)), some (.d (.tup (as.map arcD))), x3, x4] (.tup (intsFrom 0 n)) := ev_of (by
    unfold mTupRg
    rw [ok_then]
    refine (ev_var 1 rfl).dv ?_
    have hr : rgOk (n : Int) = true := by
      unfold rgOk
      rw [decide_eq_true (by omega), decide_eq_true (by omega)]
      rfl
    show OK (if rgOk (n : Int) then Out.ok (S.d (D.tup (intsFrom 0 (n : Int).toNat))) _ else Out.stuck) _
    rw [if_pos hr, ok_ok, Int.toNat_natCast]
    exact ⟨rfl, rfl⟩)
  refine ok_setF (er.dv ⟨_, _, rfl, rfl, fun _ => ?_, fun n => absurd rfl n⟩)
  have es : ∀ x0 : Option S, Ev (mCB gTuple (aCons (mCB gSortA (aCons (mVar 2) aNil)) aNil)) [x0, some (.d (.int n)), some (.d (.tup (as.map arcD))), x3, x4] (.tup (as.map arcD)) := fun x0 => by
    have e3 : Ev (mCB gSortA (aCons (mVar 2) aNil)) [x0, some (.d (.int n)), some (.d (.tup (as.map arcD))), x3, x4] (.lst (as.map arcD)) := by
      unfold Ev
      rw [ok_dv, ok_cb]
      exact (ea_cons (ev_var 2 rfl) ea_nil).ok ⟨_, sort_arcs o, _, rfl, rfl, rfl⟩
    exact ev_cb (ea_cons e3 ea_nil) rfl
  refine ok_setF ((es _).dv ⟨_, _, rfl, rfl, ?_⟩)
  exact .inr ⟨rfl, rfl, rfl⟩
end Lib
end Fx
/-! graphs on data: drawn whole -/
namespace Fx
open PySem
local macro_rules | `(tactic| walk_at "wp") => `(tactic| simp only [okF_runF, okF_runL, ok_seq, ok_ret, ok_retN, ok_andV, ok_orV, ok_notV, ok_cb, ok_cons, ok_nil, ok_test, ok_dv, ok_op, ok_un, ok_c, ok_if, ok_ifS, ok_and, ok_or, ok_not, ok_asg, ok_gname, ok_drop, ok_call, ok_chain, ok_nx, ok_bk, ok_ct, ok_st, ok_yes, ok_tup, ok_ok, ok_stuck, ex_toD, ex_toL, ex_bl, ex_some, ex_bl1, fl_nx, fl_rt, fl_bk, fl_ct, rt_or, nx_or, mVar, ok1, gIsi, mIsi2, gIsi2, isTy2, isTy, Option.bind, bare, e_add, e_sub, e_int, e_lenS, e_lenT, e_lenL, e_lt, e_le, e_gt, e_ge, e_leC, e_ltC, e_isN, e_notN, e_pow,
  List.map_cons, List.map_nil, List.length_cons, List.length_nil, List.replicate_succ, List.replicate_zero, List.cons_append, List.nil_append, List.append_nil, List.getElem?_cons_zero, List.getElem?_cons_succ, List.set_cons_zero, List.set_cons_succ, Nat.reduceAdd, Nat.reduceSub, true_and, and_true, Bool.not_true, Bool.not_false, true_implies, forall_const, not_true_eq_false, false_implies, Bool.false_eq_true, not_false_eq_true, implies_true, eq_self, ne_eq, reduceCtorEq, Fl.rt.injEq, S.d.injEq, D.int.injEq, false_and, exists_false, or_false, false_or, exists_eq_left'])
local macro_rules | `(tactic| walk_at "wt") => `(tactic| simp (config := { contextual := false }) only [ok_row0, ok_row1, ok_row2, ok_row3, ok_put1, ok_put2, ok_put3, e_mod, e_div, e_mul, e_ixS, decide_true, decide_false, *, okF_runF, okF_runL, ok_seq, ok_ret, ok_retN, ok_andV, ok_orV, ok_notV, ok_cb, ok_cons, ok_nil, ok_test, ok_dv, ok_op, ok_un, ok_c, ok_if, ok_ifS, ok_and, ok_or, ok_not, ok_asg, ok_gname, ok_drop, ok_call, ok_chain, ok_nx, ok_bk, ok_ct, ok_st, ok_yes, ok_tup, ok_ok, ok_stuck, ex_toD, ex_toL, ex_bl, ex_some, ex_bl1, fl_nx, fl_rt, fl_bk, fl_ct, rt_or, nx_or, mVar, ok1, gIsi, mIsi2, gIsi2, isTy2, isTy, Option.bind, bare, e_add, e_sub, e_int, e_lenS, e_lenT, e_lenL, e_lt, e_le, e_gt, e_ge, e_leC, e_ltC, e_isN, e_notN, e_pow,
  List.map_cons, List.map_nil, List.length_cons, List.length_nil, List.replicate_succ, List.replicate_zero, List.cons_append, List.nil_append, List.append_nil, List.getElem?_cons_zero, List.getElem?_cons_succ, List.set_cons_zero, List.set_cons_succ, Nat.reduceAdd, Nat.reduceSub, true_and, and_true, Bool.not_true, Bool.not_false, true_implies, forall_const, not_true_eq_false, false_implies, Bool.false_eq_true, not_false_eq_true, implies_true, eq_self, ne_eq, reduceCtorEq, Fl.rt.injEq, S.d.injEq, D.int.injEq, false_and, exists_false, or_false, false_or, exists_eq_left'])
local macro_rules | `(tactic| walk_at "wy") => `(tactic| try walk_at "wp")
local macro_rules | `(tactic| walk_at "we") => `(tactic| first | done | rfl | exact ⟨rfl, rfl⟩ | exact ⟨rfl, rfl, rfl⟩)
namespace Lib
theorem pick_at {ns : List Int} {o : Option Nat} {a b c : Int} {r : Nat} {ρ : En} {fl : M S} {ds : List D} {P : S → En → Prop} (e : ρ[r]? = some (rowS o ns a b c)) (h : RowOk a b c) (hl : Ev fl ρ (.lst ds)) (h0 : 0 < ds.length) (h1 : ds.length ≤ 1000)
    (q : ∀ x a b c, x ∈ ds → RowOk a b c → P (.d x) (ρ.set r (rowS o ns a b c))) : OK (mCallO f_law_pick r 0 (aOwn r (aCons fl aNil)) ρ) P := by
  refine ok_callO (ok_own.mpr ⟨own_row e, ?_⟩)
  refine (ea_cons hl ea_nil).ok ⟨o, rowD ns a b c, e, Nat.zero_le _, (pick h h0 h1).imp fun s ρ' hp => ?_⟩
  obtain ⟨x, a', b', c', hx, rfl, h', ρ2, rfl⟩ := hp
  exact ⟨rowD ns a' b' c', rfl, rfl, q x a' b' c' hx h'⟩
theorem law_graph {ns : List Int} {a b c most : Int} (h : RowOk a b c) (h1 : 2 ≤ most) (h2 : most ≤ 60) :
    OK (f_law_graph [.o (some 0) (rowD ns a b c), .d (.int most)]) fun s ρ => ∃ (n : Nat) (as : List (Nat × Nat)) (ws : List Int) (a b c : Int), s = .d (.tup [.int n, .tup (as.map arcD), .tup (ws.map D.int)]) ∧ 2 ≤ n ∧ (n : Int) ≤ most ∧ OkArcs n as ∧ ws.length = as.length ∧ (∀ w ∈ ws, 1 ≤ w ∧ w ≤ 100) ∧ RowOk a b c ∧ ∃ ρ', ρ = some (.o (some 0) (rowD ns a b c)) :: ρ' := by
  unfold f_law_graph
  refine ok_runF rfl ?_
  show OK (b_law_graph [rowS (some 0) ns a b c, some (.d (.int most)), none, none, none, none]) _
  unfold b_law_graph
  refine ok_seqI (fun ρ => ∃ (n : Nat) (a b c : Int), 2 ≤ n ∧ (n : Int) ≤ most ∧ RowOk a b c ∧ ρ = [rowS (some 0) ns a b c, some (.d (.int most)), some (.d (.int n)), none, none, none]) ?_ ?_
  · rw [ok_asg, ok_dv, ok_op]
    refine ev_c.dv ?_
    rw [ok_dv]
    refine ok_taken (m := most - 1) rfl h ((ev_op (ev_var 1 rfl) ev_c rfl).dv ⟨rfl, rfl⟩) (by omega) (by omega) fun v a b c v0 v1 h => ?_
    refine ⟨_, rfl, _, rfl, _, rfl, ?_⟩
    rw [ok_gname]
    refine ⟨rfl, (2 + v).toNat, a, b, c, by omega, by omega, h, ?_⟩
    rw [Int.toNat_of_nonneg (by omega)]
    rfl
  clear h a b c
  rintro _ ⟨n, a, b, c, n1, n2, h, rfl⟩
  refine ok_seqI (fun ρ => ∃ (as : List (Nat × Nat)) (t a b c : Int), OkArcs n as ∧ 2 ≤ t ∧ t ≤ 100 ∧ RowOk a b c ∧ ρ = [rowS (some 0) ns a b c, some (.d (.int most)), some (.d (.int n)), some (.d (.tup (as.map arcD))), some (.d (.int t)), none]) ?_ ?_
  · refine ok_par2 ?_
    rw [ok_psCons]
    refine ok_callO (ok_own.mpr ⟨own_row (a := a) (b := b) (c := c) (ns := ns) (o := some 0) rfl, ?_⟩)
    rw [ok_cons]
    refine (ev_var 2 rfl).dv ?_
    rw [ok_cons, ok_dv]
    refine pick_at rfl h (ev_lst (ea_cons ev_c (ea_cons ev_c (ea_cons ev_c (ea_cons ev_c ea_nil))))) (by show 0 < 4; omega) (by show 4 ≤ 1000; omega) fun x a b c hx h => ?_
    refine ⟨x, rfl, ?_⟩
    rw [ok_nil]
    obtain ⟨m, rfl, m0, m1⟩ : ∃ m : Int, x = .int m ∧ 0 < m ∧ m < 1073741824 := by
      simp only [List.mem_cons, List.not_mem_nil, or_false] at hx
      rcases hx with rfl | rfl | rfl | rfl <;> exact ⟨_, rfl, by decide, by decide⟩
    refine ⟨some 0, rowD ns a b c, rfl, Nat.zero_le _, (law_arcs (n := n) (m := m) h (by omega) m0 m1).imp fun s ρ' hp => ?_⟩
    obtain ⟨as, a2, b2, c2, rfl, o, h, ρ2, rfl⟩ := hp
    refine ⟨rowD ns a2 b2 c2, rfl, rfl, ?_⟩
    rw [ok_psCons]
    refine pick_at (a := a2) (b := b2) (c := c2) rfl h (ev_lst (ea_cons ev_c (ea_cons ev_c (ea_cons ev_c ea_nil)))) (by show 0 < 3; omega) (by show 3 ≤ 1000; omega) fun x a b c hx h => ?_
    obtain ⟨t, rfl, t0, t1⟩ : ∃ t : Int, x = .int t ∧ 2 ≤ t ∧ t ≤ 100 := by
      simp only [List.mem_cons, List.not_mem_nil, or_false] at hx
      rcases hx with rfl | rfl | rfl <;> exact ⟨_, rfl, by decide, by decide⟩
    rw [ok_psNil]
    exact ⟨_, _, _, _, rfl, rfl, rfl, rfl, as, t, a, b, c, o, t0, t1, h, rfl⟩
  clear h a b c
  rintro _ ⟨as, t, a, b, c, o, t0, t1, h, rfl⟩
  have hl := o.len
  have hz : n * n ≤ 60 * 60 := Nat.mul_le_mul (by omega) (by omega)
  rw [ok_ret, ok_tup, ok_cons]
  refine (ev_var 2 rfl).dv ?_
  rw [ok_cons]
  refine (ev_var 3 rfl).dv ?_
  rw [ok_cons, ok_dv, ok_cb, ok_cons, ok_dv, ok_lc, ok_iseq]
  refine (ev_var 3 rfl).dv ⟨_, rfl, ?_⟩
  show OK (mComp (gmName 5) mYes _ [5] (as.map arcD) [] [rowS (some 0) ns a b c, some (.d (.int most)), some (.d (.int n)), some (.d (.tup (as.map arcD))), some (.d (.int t)), none]) _
  refine ok_compR (r := 0) (o := some 0) (ns := ns) (a := a) (b := b) (c := c) (Good := fun _ y => ∃ w : Int, y = .int w ∧ 1 ≤ w ∧ w ≤ 100) rfl h rfl (by decide) ?_ (by rw [List.length_map]; omega) ?_
  · rintro i x a b c ρ' hx h rfl er
    rw [ok_dv, ok_op]
    refine ev_c.dv ?_
    rw [ok_dv]
    refine ok_taken (m := t) rfl h ((ev_var 4 rfl).dv ⟨rfl, rfl⟩) (by omega) (by omega) fun v a b c v0 v1 h => ?_
    exact ⟨_, rfl, _, rfl, _, rfl, ⟨1 + v, rfl, by omega, by omega⟩, a, b, c, h, rfl⟩
  · intro ys a b c hy hg h
    have hw : ∃ ws : List Int, ys = ws.map D.int ∧ ∀ w ∈ ws, 1 ≤ w ∧ w ≤ 100 := by
      clear hy
      induction ys with
      | nil => exact ⟨[], rfl, fun w hw => by simp at hw⟩
      | cons y ys ih =>
        obtain ⟨w, rfl, w1, w2⟩ := hg 0 y rfl
        obtain ⟨ws, rfl, hh⟩ := ih fun i z hz => hg (i + 1) z (by simpa using hz)
        refine ⟨w :: ws, rfl, fun x hx => ?_⟩
        rcases List.mem_cons.mp hx with rfl | hx
        · exact ⟨w1, w2⟩
        · exact hh x hx
    obtain ⟨ws, rfl, hw⟩ := hw
    refine ⟨_, rfl, ?_⟩
    rw [ok_nil]
    refine ⟨_, rfl, _, rfl, ?_⟩
    rw [ok_nil]
    refine ⟨rfl, .inl ⟨_, rfl, n, as, ws, a, b, c, rfl, n1, n2, o, ?_, hw, h, _, rfl⟩⟩
    rw [List.length_map, List.length_map] at hy
    exact hy
end Lib
end Fx
/-! sum, max, min of a list of ints -/
/-! t.index(x) of a tuple of tuples of numbers; min of a list or tuple of data that can be compared -/
/-! defs of the program and of laws, on data -/
namespace Fx.Lib
open PySem PySem.Spec PyProof.Rows L2
def b_check_graph : M Fl := (mIfS (mNot (mTest (mIsC "Graph" (mVar 0)))) mSt mNx)
def f_check_graph : Fn := runF 1 1 b_check_graph
def b_check_node : M Fl := (mIfS (mNot (mTest (mCall f_is_number (aCons (mVar 1) (aCons (mC (.int 0)) (aCons (mOp gMinus (mCB gLen (aCons (mFldE "Graph" 0 (mVar 0)) aNil)) (mC (.int 1))) aNil)))))) mSt mNx)
def f_check_node : Fn := runF 2 2 b_check_node
end Fx.Lib
/-! dict comprehensions on data -/
namespace Fx
open PySem
local macro_rules | `(tactic| walk_at "wp") => `(tactic| simp only [okF_runF, okF_runL, ok_seq, ok_ret, ok_retN, ok_andV, ok_orV, ok_notV, ok_cb, ok_cons, ok_nil, ok_test, ok_dv, ok_op, ok_un, ok_c, ok_if, ok_ifS, ok_and, ok_or, ok_not, ok_asg, ok_gname, ok_drop, ok_call, ok_chain, ok_nx, ok_bk, ok_ct, ok_st, ok_yes, ok_tup, ok_ok, ok_stuck, ex_toD, ex_toL, ex_bl, ex_some, ex_bl1, fl_nx, fl_rt, fl_bk, fl_ct, rt_or, nx_or, mVar, ok1, gIsi, mIsi2, gIsi2, isTy2, isTy, Option.bind, bare, e_add, e_sub, e_int, e_lenS, e_lenT, e_lenL, e_lt, e_le, e_gt, e_ge, e_leC, e_ltC, e_isN, e_notN, e_pow,
  List.map_cons, List.map_nil, List.length_cons, List.length_nil, List.replicate_succ, List.replicate_zero, List.cons_append, List.nil_append, List.append_nil, List.getElem?_cons_zero, List.getElem?_cons_succ, List.set_cons_zero, List.set_cons_succ, Nat.reduceAdd, Nat.reduceSub, true_and, and_true, Bool.not_true, Bool.not_false, true_implies, forall_const, not_true_eq_false, false_implies, Bool.false_eq_true, not_false_eq_true, implies_true, eq_self, ne_eq, reduceCtorEq, Fl.rt.injEq, S.d.injEq, D.int.injEq, false_and, exists_false, or_false, false_or, exists_eq_left'])
local macro_rules | `(tactic| walk_at "wt") => `(tactic| simp (config := { contextual := false }) only [ok_row0, ok_row1, ok_row2, ok_row3, ok_put1, ok_put2, ok_put3, e_mod, e_div, e_mul, e_ixS, decide_true, decide_false, *, okF_runF, okF_runL, ok_seq, ok_ret, ok_retN, ok_andV, ok_orV, ok_notV, ok_cb, ok_cons, ok_nil, ok_test, ok_dv, ok_op, ok_un, ok_c, ok_if, ok_ifS, ok_and, ok_or, ok_not, ok_asg, ok_gname, ok_drop, ok_call, ok_chain, ok_nx, ok_bk, ok_ct, ok_st, ok_yes, ok_tup, ok_ok, ok_stuck, ex_toD, ex_toL, ex_bl, ex_some, ex_bl1, fl_nx, fl_rt, fl_bk, fl_ct, rt_or, nx_or, mVar, ok1, gIsi, mIsi2, gIsi2, isTy2, isTy, Option.bind, bare, e_add, e_sub, e_int, e_lenS, e_lenT, e_lenL, e_lt, e_le, e_gt, e_ge, e_leC, e_ltC, e_isN, e_notN, e_pow,
  List.map_cons, List.map_nil, List.length_cons, List.length_nil, List.replicate_succ, List.replicate_zero, List.cons_append, List.nil_append, List.append_nil, List.getElem?_cons_zero, List.getElem?_cons_succ, List.set_cons_zero, List.set_cons_succ, Nat.reduceAdd, Nat.reduceSub, true_and, and_true, Bool.not_true, Bool.not_false, true_implies, forall_const, not_true_eq_false, false_implies, Bool.false_eq_true, not_false_eq_true, implies_true, eq_self, ne_eq, reduceCtorEq, Fl.rt.injEq, S.d.injEq, D.int.injEq, false_and, exists_false, or_false, false_or, exists_eq_left'])
local macro_rules | `(tactic| walk_at "wy") => `(tactic| try walk_at "wp")
local macro_rules | `(tactic| walk_at "we") => `(tactic| first | done | rfl | exact ⟨rfl, rfl⟩ | exact ⟨rfl, rfl, rfl⟩)
section
variable {k : Nat} {fk fv : M S} {ρ0 : En} {vf : D → D} {PD : List D × List D → En → Prop}
theorem homog_of {P : D → Bool} (hP : P = isKey ∨ P = isKeyT) {ks : List D} {x : D} (h : ks.all P = true) (hx : P x = true) : homog ks x = true := by
  unfold homog
  rcases hP with rfl | rfl
  · rw [h, hx]; rfl
  · rw [h, hx]; simp
end
section
variable {ρ : En} {k : Nat} {fs fk fv : M S} {vf : D → D} {items : List D} {x : D}
theorem keyAt_ints : ∀ {n i lo : Nat}, i < n → keyAt (intsFrom (lo : Int) n) (.int ((lo + i : Nat) : Int)) = some i
  | 0, _, _, h => absurd h (Nat.not_lt_zero _)
  | n + 1, 0, lo, _ => by
    unfold keyAt intsFrom
    rw [List.findIdx?_cons]
    simp [keyEq]
  | n + 1, i + 1, lo, h => by
    have ih := keyAt_ints (n := n) (i := i) (lo := lo + 1) (by omega)
    unfold keyAt at ih ⊢
    unfold intsFrom
    rw [List.findIdx?_cons]
    have e : keyEq (.int ((lo + (i + 1) : Nat) : Int)) (.int (lo : Int)) = false := by
      show decide (((lo + (i + 1) : Nat) : Int) = (lo : Int)) = false
      rw [decide_eq_false_iff_not]
      omega
    rw [e]
    have e3 : ((lo : Int) + 1) = ((lo + 1 : Nat) : Int) := by omega
    have e4 : lo + (i + 1) = lo + 1 + i := by omega
    rw [e3, e4]
    simp only [Bool.false_eq_true, if_false, ih, Option.map_some]
end
end Fx
/-! k01: the program's defs on data -/
namespace Fx.Lib
open PySem
local macro_rules | `(tactic| walk_at "wp") => `(tactic| simp only [okF_runF, okF_runL, ok_seq, ok_ret, ok_retN, ok_andV, ok_orV, ok_notV, ok_cb, ok_cons, ok_nil, ok_test, ok_dv, ok_op, ok_un, ok_c, ok_if, ok_ifS, ok_and, ok_or, ok_not, ok_asg, ok_gname, ok_drop, ok_call, ok_chain, ok_nx, ok_bk, ok_ct, ok_st, ok_yes, ok_tup, ok_ok, ok_stuck, ex_toD, ex_toL, ex_bl, ex_some, ex_bl1, fl_nx, fl_rt, fl_bk, fl_ct, rt_or, nx_or, mVar, ok1, gIsi, mIsi2, gIsi2, isTy2, isTy, Option.bind, bare, e_add, e_sub, e_int, e_lenS, e_lenT, e_lenL, e_lt, e_le, e_gt, e_ge, e_leC, e_ltC, e_isN, e_notN, e_pow,
  List.map_cons, List.map_nil, List.length_cons, List.length_nil, List.replicate_succ, List.replicate_zero, List.cons_append, List.nil_append, List.append_nil, List.getElem?_cons_zero, List.getElem?_cons_succ, List.set_cons_zero, List.set_cons_succ, Nat.reduceAdd, Nat.reduceSub, true_and, and_true, Bool.not_true, Bool.not_false, true_implies, forall_const, not_true_eq_false, false_implies, Bool.false_eq_true, not_false_eq_true, implies_true, eq_self, ne_eq, reduceCtorEq, Fl.rt.injEq, S.d.injEq, D.int.injEq, false_and, exists_false, or_false, false_or, exists_eq_left'])
local macro_rules | `(tactic| walk_at "wt") => `(tactic| simp (config := { contextual := false }) only [ok_row0, ok_row1, ok_row2, ok_row3, ok_put1, ok_put2, ok_put3, e_mod, e_div, e_mul, e_ixS, decide_true, decide_false, *, okF_runF, okF_runL, ok_seq, ok_ret, ok_retN, ok_andV, ok_orV, ok_notV, ok_cb, ok_cons, ok_nil, ok_test, ok_dv, ok_op, ok_un, ok_c, ok_if, ok_ifS, ok_and, ok_or, ok_not, ok_asg, ok_gname, ok_drop, ok_call, ok_chain, ok_nx, ok_bk, ok_ct, ok_st, ok_yes, ok_tup, ok_ok, ok_stuck, ex_toD, ex_toL, ex_bl, ex_some, ex_bl1, fl_nx, fl_rt, fl_bk, fl_ct, rt_or, nx_or, mVar, ok1, gIsi, mIsi2, gIsi2, isTy2, isTy, Option.bind, bare, e_add, e_sub, e_int, e_lenS, e_lenT, e_lenL, e_lt, e_le, e_gt, e_ge, e_leC, e_ltC, e_isN, e_notN, e_pow,
  List.map_cons, List.map_nil, List.length_cons, List.length_nil, List.replicate_succ, List.replicate_zero, List.cons_append, List.nil_append, List.append_nil, List.getElem?_cons_zero, List.getElem?_cons_succ, List.set_cons_zero, List.set_cons_succ, Nat.reduceAdd, Nat.reduceSub, true_and, and_true, Bool.not_true, Bool.not_false, true_implies, forall_const, not_true_eq_false, false_implies, Bool.false_eq_true, not_false_eq_true, implies_true, eq_self, ne_eq, reduceCtorEq, Fl.rt.injEq, S.d.injEq, D.int.injEq, false_and, exists_false, or_false, false_or, exists_eq_left'])
local macro_rules | `(tactic| walk_at "wy") => `(tactic| try walk_at "wp")
local macro_rules | `(tactic| walk_at "we") => `(tactic| first | done | rfl | exact ⟨rfl, rfl⟩ | exact ⟨rfl, rfl, rfl⟩)
theorem ev_fld {ρ : En} {fe : M S} {n : String} {i : Nat} {ds : List D} {y : D} (h : Ev fe ρ (.ins n ds)) (e : ds[i]? = some y) : Ev (mFldE n i fe) ρ y := ev_of (ok_fld (h.dv ⟨ds, y, rfl, e, rfl, rfl⟩))
theorem check_graph {n : Nat} {as : List (Nat × Nat)} : OKF (f_check_graph [.d (graphD n as)]) fun s => s = .d .non := by
  unfold f_check_graph b_check_graph graphD
  walk_at "wp"
  unfold mIsC
  walk_at "wp"
  refine ⟨_, rfl, ?_⟩
  walk_at "wp"
  first | done | rfl | exact ⟨_, rfl, fun n => (by cases n), fun _ => rfl⟩ | exact ⟨fun n => (by cases n), fun _ => rfl⟩ | exact fun n => (by cases n)
theorem check_node {n i : Nat} {as : List (Nat × Nat)} (hi : i < n) : OKF (f_check_node [.d (graphD n as), .d (.int i)]) fun s => s = .d .non := by
  rw [okF]
  unfold f_check_node
  refine ok_runF rfl ?_
  show OK (b_check_node [some (.d (graphD n as)), some (.d (.int i))]) _
  unfold b_check_node
  rw [ok_ifS]
  have e : Ev (mCall f_is_number (aCons (mVar 1) (aCons (mC (.int 0)) (aCons (mOp gMinus (mCB gLen (aCons (mFldE "Graph" 0 (mVar 0)) aNil)) (mC (.int 1))) aNil)))) [some (.d (graphD n as)), some (.d (.int i))] (.bl true) := by
    refine ev_call (ea_cons (ev_var 1 rfl) (ea_cons ev_c (ea_cons (ev_op (ev_cb (z := .int (n : Int)) (ea_cons (ev_fld (ev_var 0 rfl) rfl) ea_nil) ?_) ev_c rfl) ea_nil))) ?_
    · show some (S.d (.int ((intsFrom 0 n).length : Nat))) = _
      rw [intsFrom_length]
    · skip
      refine (num (o := some (i : Int)) (lo := 0) (hi := (n : Int) - 1)).mpr ?_
      show S.d (.bl (decide (0 ≤ (i : Int)) && decide ((i : Int) ≤ (n : Int) - 1))) = _
      rw [decide_eq_true (by omega), decide_eq_true (by omega)]
      rfl
  refine (eb_not (eb_test e)).ok ⟨fun n => (by cases n), fun _ => ?_⟩
  rw [ok_nx]
  exact .inr ⟨rfl, rfl⟩
/-- the heads of node i, ascending -/
def hd (as : List (Nat × Nat)) (i : Nat) : List Nat := (as.filter fun p => decide (p.1 = i)).map fun p => p.2
end Fx.Lib
/-! a while, a stack -/
namespace Fx
open PySem
/-- a while that is sure to end: m counts down -/
theorem ok_while {ft : M Bool} {F : M Fl} {PF : Fl → En → Prop} {I : Nat → En → Prop} (st : ∀ m ρ, I m ρ → OK (ft ρ) fun b ρ1 => (b = true → OK (F ρ1) fun f ρ2 => f = .nx ∧ ∃ m', m' < m ∧ I m' ρ2) ∧ (¬b = true → PF .nx ρ1)) :
    ∀ {fuel m : Nat} {ρ : En}, m < fuel → I m ρ → OK (mWhile ft F fuel ρ) PF
  | 0, _, _, h, _ => absurd h (Nat.not_lt_zero _)
  | fuel + 1, m, ρ, h, hi => by
    unfold mWhile
    rw [ok_then]
    refine (st m ρ hi).imp fun b ρ1 ⟨k1, k2⟩ => ?_
    by_cases hb : b = true
    · rw [if_pos hb, ok_then]
      refine (k1 hb).imp fun f ρ2 ⟨e, m', hm, hi'⟩ => ?_
      subst e
      exact ok_while st (by omega) hi'
    · rw [if_neg hb, ok_ok]
      exact k2 hb
end Fx
/-! k01: paths_to on data -/
namespace Fx.Lib
open PySem
local macro_rules | `(tactic| walk_at "wp") => `(tactic| simp only [okF_runF, okF_runL, ok_seq, ok_ret, ok_retN, ok_andV, ok_orV, ok_notV, ok_cb, ok_cons, ok_nil, ok_test, ok_dv, ok_op, ok_un, ok_c, ok_if, ok_ifS, ok_and, ok_or, ok_not, ok_asg, ok_gname, ok_drop, ok_call, ok_chain, ok_nx, ok_bk, ok_ct, ok_st, ok_yes, ok_tup, ok_ok, ok_stuck, ex_toD, ex_toL, ex_bl, ex_some, ex_bl1, fl_nx, fl_rt, fl_bk, fl_ct, rt_or, nx_or, mVar, ok1, gIsi, mIsi2, gIsi2, isTy2, isTy, Option.bind, bare, e_add, e_sub, e_int, e_lenS, e_lenT, e_lenL, e_lt, e_le, e_gt, e_ge, e_leC, e_ltC, e_isN, e_notN, e_pow,
  List.map_cons, List.map_nil, List.length_cons, List.length_nil, List.replicate_succ, List.replicate_zero, List.cons_append, List.nil_append, List.append_nil, List.getElem?_cons_zero, List.getElem?_cons_succ, List.set_cons_zero, List.set_cons_succ, Nat.reduceAdd, Nat.reduceSub, true_and, and_true, Bool.not_true, Bool.not_false, true_implies, forall_const, not_true_eq_false, false_implies, Bool.false_eq_true, not_false_eq_true, implies_true, eq_self, ne_eq, reduceCtorEq, Fl.rt.injEq, S.d.injEq, D.int.injEq, false_and, exists_false, or_false, false_or, exists_eq_left'])
local macro_rules | `(tactic| walk_at "wt") => `(tactic| simp (config := { contextual := false }) only [ok_row0, ok_row1, ok_row2, ok_row3, ok_put1, ok_put2, ok_put3, e_mod, e_div, e_mul, e_ixS, decide_true, decide_false, *, okF_runF, okF_runL, ok_seq, ok_ret, ok_retN, ok_andV, ok_orV, ok_notV, ok_cb, ok_cons, ok_nil, ok_test, ok_dv, ok_op, ok_un, ok_c, ok_if, ok_ifS, ok_and, ok_or, ok_not, ok_asg, ok_gname, ok_drop, ok_call, ok_chain, ok_nx, ok_bk, ok_ct, ok_st, ok_yes, ok_tup, ok_ok, ok_stuck, ex_toD, ex_toL, ex_bl, ex_some, ex_bl1, fl_nx, fl_rt, fl_bk, fl_ct, rt_or, nx_or, mVar, ok1, gIsi, mIsi2, gIsi2, isTy2, isTy, Option.bind, bare, e_add, e_sub, e_int, e_lenS, e_lenT, e_lenL, e_lt, e_le, e_gt, e_ge, e_leC, e_ltC, e_isN, e_notN, e_pow,
  List.map_cons, List.map_nil, List.length_cons, List.length_nil, List.replicate_succ, List.replicate_zero, List.cons_append, List.nil_append, List.append_nil, List.getElem?_cons_zero, List.getElem?_cons_succ, List.set_cons_zero, List.set_cons_succ, Nat.reduceAdd, Nat.reduceSub, true_and, and_true, Bool.not_true, Bool.not_false, true_implies, forall_const, not_true_eq_false, false_implies, Bool.false_eq_true, not_false_eq_true, implies_true, eq_self, ne_eq, reduceCtorEq, Fl.rt.injEq, S.d.injEq, D.int.injEq, false_and, exists_false, or_false, false_or, exists_eq_left'])
local macro_rules | `(tactic| walk_at "wy") => `(tactic| try walk_at "wp")
local macro_rules | `(tactic| walk_at "we") => `(tactic| first | done | rfl | exact ⟨rfl, rfl⟩ | exact ⟨rfl, rfl, rfl⟩)
def pathD (p : List Nat) : D := .tup (p.map fun i : Nat => D.int i)
def lst (p : List Nat) : Nat := p.getLast?.getD 0
def wt : Nat → Nat
  | 0 => 1
  | k + 1 => 1 + (k + 1) * wt k
def load (n : Nat) (st : List (List Nat)) : Nat := (st.map fun p => wt (n - p.length)).sum
structure Good (n : Nat) (p : List Nat) : Prop where
  ne : p ≠ []
  nd : p.Nodup
  lt : ∀ i ∈ p, i < n
theorem nodup_len {n : Nat} {p : List Nat} (h : p.Nodup) (k : ∀ i ∈ p, i < n) : p.length ≤ n := by
  have h1 : (p.map fun i : Nat => (i : Int)).Nodup := by
    unfold List.Nodup at h ⊢
    rw [List.pairwise_map]
    exact h.imp fun h e => h (by omega)
  have h2 := Rw.len_sub (l := p.map fun i : Nat => (i : Int)) (m := (List.range n).map fun i : Nat => (i : Int)) h1 fun x hx => by
    obtain ⟨i, hi, rfl⟩ := List.mem_map.mp hx
    exact List.mem_map.mpr ⟨i, List.mem_range.mpr (k i hi), rfl⟩
  rw [List.length_map, List.length_map, List.length_range] at h2
  exact h2
end Fx.Lib
/-! k01: paths_to keeps dfs -/
namespace Fx.Lib
open PySem
local macro_rules | `(tactic| walk_at "wp") => `(tactic| simp only [okF_runF, okF_runL, ok_seq, ok_ret, ok_retN, ok_andV, ok_orV, ok_notV, ok_cb, ok_cons, ok_nil, ok_test, ok_dv, ok_op, ok_un, ok_c, ok_if, ok_ifS, ok_and, ok_or, ok_not, ok_asg, ok_gname, ok_drop, ok_call, ok_chain, ok_nx, ok_bk, ok_ct, ok_st, ok_yes, ok_tup, ok_ok, ok_stuck, ex_toD, ex_toL, ex_bl, ex_some, ex_bl1, fl_nx, fl_rt, fl_bk, fl_ct, rt_or, nx_or, mVar, ok1, gIsi, mIsi2, gIsi2, isTy2, isTy, Option.bind, bare, e_add, e_sub, e_int, e_lenS, e_lenT, e_lenL, e_lt, e_le, e_gt, e_ge, e_leC, e_ltC, e_isN, e_notN, e_pow,
  List.map_cons, List.map_nil, List.length_cons, List.length_nil, List.replicate_succ, List.replicate_zero, List.cons_append, List.nil_append, List.append_nil, List.getElem?_cons_zero, List.getElem?_cons_succ, List.set_cons_zero, List.set_cons_succ, Nat.reduceAdd, Nat.reduceSub, true_and, and_true, Bool.not_true, Bool.not_false, true_implies, forall_const, not_true_eq_false, false_implies, Bool.false_eq_true, not_false_eq_true, implies_true, eq_self, ne_eq, reduceCtorEq, Fl.rt.injEq, S.d.injEq, D.int.injEq, false_and, exists_false, or_false, false_or, exists_eq_left'])
local macro_rules | `(tactic| walk_at "wt") => `(tactic| simp (config := { contextual := false }) only [ok_row0, ok_row1, ok_row2, ok_row3, ok_put1, ok_put2, ok_put3, e_mod, e_div, e_mul, e_ixS, decide_true, decide_false, *, okF_runF, okF_runL, ok_seq, ok_ret, ok_retN, ok_andV, ok_orV, ok_notV, ok_cb, ok_cons, ok_nil, ok_test, ok_dv, ok_op, ok_un, ok_c, ok_if, ok_ifS, ok_and, ok_or, ok_not, ok_asg, ok_gname, ok_drop, ok_call, ok_chain, ok_nx, ok_bk, ok_ct, ok_st, ok_yes, ok_tup, ok_ok, ok_stuck, ex_toD, ex_toL, ex_bl, ex_some, ex_bl1, fl_nx, fl_rt, fl_bk, fl_ct, rt_or, nx_or, mVar, ok1, gIsi, mIsi2, gIsi2, isTy2, isTy, Option.bind, bare, e_add, e_sub, e_int, e_lenS, e_lenT, e_lenL, e_lt, e_le, e_gt, e_ge, e_leC, e_ltC, e_isN, e_notN, e_pow,
  List.map_cons, List.map_nil, List.length_cons, List.length_nil, List.replicate_succ, List.replicate_zero, List.cons_append, List.nil_append, List.append_nil, List.getElem?_cons_zero, List.getElem?_cons_succ, List.set_cons_zero, List.set_cons_succ, Nat.reduceAdd, Nat.reduceSub, true_and, and_true, Bool.not_true, Bool.not_false, true_implies, forall_const, not_true_eq_false, false_implies, Bool.false_eq_true, not_false_eq_true, implies_true, eq_self, ne_eq, reduceCtorEq, Fl.rt.injEq, S.d.injEq, D.int.injEq, false_and, exists_false, or_false, false_or, exists_eq_left'])
local macro_rules | `(tactic| walk_at "wy") => `(tactic| try walk_at "wp")
local macro_rules | `(tactic| walk_at "we") => `(tactic| first | done | rfl | exact ⟨rfl, rfl⟩ | exact ⟨rfl, rfl, rfl⟩)
end Fx.Lib
/-! k01: the tree of simple paths -/
namespace Fx.Lib
open PySem
end Fx.Lib
/-! k01: simple_paths, and the law's own paths, on data -/
namespace Fx.Lib
open PySem
local macro_rules | `(tactic| walk_at "wp") => `(tactic| simp only [okF_runF, okF_runL, ok_seq, ok_ret, ok_retN, ok_andV, ok_orV, ok_notV, ok_cb, ok_cons, ok_nil, ok_test, ok_dv, ok_op, ok_un, ok_c, ok_if, ok_ifS, ok_and, ok_or, ok_not, ok_asg, ok_gname, ok_drop, ok_call, ok_chain, ok_nx, ok_bk, ok_ct, ok_st, ok_yes, ok_tup, ok_ok, ok_stuck, ex_toD, ex_toL, ex_bl, ex_some, ex_bl1, fl_nx, fl_rt, fl_bk, fl_ct, rt_or, nx_or, mVar, ok1, gIsi, mIsi2, gIsi2, isTy2, isTy, Option.bind, bare, e_add, e_sub, e_int, e_lenS, e_lenT, e_lenL, e_lt, e_le, e_gt, e_ge, e_leC, e_ltC, e_isN, e_notN, e_pow,
  List.map_cons, List.map_nil, List.length_cons, List.length_nil, List.replicate_succ, List.replicate_zero, List.cons_append, List.nil_append, List.append_nil, List.getElem?_cons_zero, List.getElem?_cons_succ, List.set_cons_zero, List.set_cons_succ, Nat.reduceAdd, Nat.reduceSub, true_and, and_true, Bool.not_true, Bool.not_false, true_implies, forall_const, not_true_eq_false, false_implies, Bool.false_eq_true, not_false_eq_true, implies_true, eq_self, ne_eq, reduceCtorEq, Fl.rt.injEq, S.d.injEq, D.int.injEq, false_and, exists_false, or_false, false_or, exists_eq_left'])
local macro_rules | `(tactic| walk_at "wt") => `(tactic| simp (config := { contextual := false }) only [ok_row0, ok_row1, ok_row2, ok_row3, ok_put1, ok_put2, ok_put3, e_mod, e_div, e_mul, e_ixS, decide_true, decide_false, *, okF_runF, okF_runL, ok_seq, ok_ret, ok_retN, ok_andV, ok_orV, ok_notV, ok_cb, ok_cons, ok_nil, ok_test, ok_dv, ok_op, ok_un, ok_c, ok_if, ok_ifS, ok_and, ok_or, ok_not, ok_asg, ok_gname, ok_drop, ok_call, ok_chain, ok_nx, ok_bk, ok_ct, ok_st, ok_yes, ok_tup, ok_ok, ok_stuck, ex_toD, ex_toL, ex_bl, ex_some, ex_bl1, fl_nx, fl_rt, fl_bk, fl_ct, rt_or, nx_or, mVar, ok1, gIsi, mIsi2, gIsi2, isTy2, isTy, Option.bind, bare, e_add, e_sub, e_int, e_lenS, e_lenT, e_lenL, e_lt, e_le, e_gt, e_ge, e_leC, e_ltC, e_isN, e_notN, e_pow,
  List.map_cons, List.map_nil, List.length_cons, List.length_nil, List.replicate_succ, List.replicate_zero, List.cons_append, List.nil_append, List.append_nil, List.getElem?_cons_zero, List.getElem?_cons_succ, List.set_cons_zero, List.set_cons_succ, Nat.reduceAdd, Nat.reduceSub, true_and, and_true, Bool.not_true, Bool.not_false, true_implies, forall_const, not_true_eq_false, false_implies, Bool.false_eq_true, not_false_eq_true, implies_true, eq_self, ne_eq, reduceCtorEq, Fl.rt.injEq, S.d.injEq, D.int.injEq, false_and, exists_false, or_false, false_or, exists_eq_left'])
local macro_rules | `(tactic| walk_at "wy") => `(tactic| try walk_at "wp")
local macro_rules | `(tactic| walk_at "we") => `(tactic| first | done | rfl | exact ⟨rfl, rfl⟩ | exact ⟨rfl, rfl, rfl⟩)
theorem gSortA_tps {ps : List (List Int)} (h : ∀ p ∈ ps, p ≠ []) : gSortA [.lst (ps.map tpD)] = some (.o none (.lst ((isortL ps).map tpD))) := by
  cases ps with
  | nil => rfl
  | cons p ps =>
    have e : gSortA [.lst ((p :: ps).map tpD)] = (tpsOf ((p :: ps).map tpD)).map fun qs => S.o none (.lst ((isortL qs).map tpD)) := rfl
    rw [e, tpsOf_map h]
    rfl
end Fx.Lib
/-! k01: the law's own paths on data -/
namespace Fx.Lib
open PySem
local macro_rules | `(tactic| walk_at "wp") => `(tactic| simp only [okF_runF, okF_runL, ok_seq, ok_ret, ok_retN, ok_andV, ok_orV, ok_notV, ok_cb, ok_cons, ok_nil, ok_test, ok_dv, ok_op, ok_un, ok_c, ok_if, ok_ifS, ok_and, ok_or, ok_not, ok_asg, ok_gname, ok_drop, ok_call, ok_chain, ok_nx, ok_bk, ok_ct, ok_st, ok_yes, ok_tup, ok_ok, ok_stuck, ex_toD, ex_toL, ex_bl, ex_some, ex_bl1, fl_nx, fl_rt, fl_bk, fl_ct, rt_or, nx_or, mVar, ok1, gIsi, mIsi2, gIsi2, isTy2, isTy, Option.bind, bare, e_add, e_sub, e_int, e_lenS, e_lenT, e_lenL, e_lt, e_le, e_gt, e_ge, e_leC, e_ltC, e_isN, e_notN, e_pow,
  List.map_cons, List.map_nil, List.length_cons, List.length_nil, List.replicate_succ, List.replicate_zero, List.cons_append, List.nil_append, List.append_nil, List.getElem?_cons_zero, List.getElem?_cons_succ, List.set_cons_zero, List.set_cons_succ, Nat.reduceAdd, Nat.reduceSub, true_and, and_true, Bool.not_true, Bool.not_false, true_implies, forall_const, not_true_eq_false, false_implies, Bool.false_eq_true, not_false_eq_true, implies_true, eq_self, ne_eq, reduceCtorEq, Fl.rt.injEq, S.d.injEq, D.int.injEq, false_and, exists_false, or_false, false_or, exists_eq_left'])
local macro_rules | `(tactic| walk_at "wt") => `(tactic| simp (config := { contextual := false }) only [ok_row0, ok_row1, ok_row2, ok_row3, ok_put1, ok_put2, ok_put3, e_mod, e_div, e_mul, e_ixS, decide_true, decide_false, *, okF_runF, okF_runL, ok_seq, ok_ret, ok_retN, ok_andV, ok_orV, ok_notV, ok_cb, ok_cons, ok_nil, ok_test, ok_dv, ok_op, ok_un, ok_c, ok_if, ok_ifS, ok_and, ok_or, ok_not, ok_asg, ok_gname, ok_drop, ok_call, ok_chain, ok_nx, ok_bk, ok_ct, ok_st, ok_yes, ok_tup, ok_ok, ok_stuck, ex_toD, ex_toL, ex_bl, ex_some, ex_bl1, fl_nx, fl_rt, fl_bk, fl_ct, rt_or, nx_or, mVar, ok1, gIsi, mIsi2, gIsi2, isTy2, isTy, Option.bind, bare, e_add, e_sub, e_int, e_lenS, e_lenT, e_lenL, e_lt, e_le, e_gt, e_ge, e_leC, e_ltC, e_isN, e_notN, e_pow,
  List.map_cons, List.map_nil, List.length_cons, List.length_nil, List.replicate_succ, List.replicate_zero, List.cons_append, List.nil_append, List.append_nil, List.getElem?_cons_zero, List.getElem?_cons_succ, List.set_cons_zero, List.set_cons_succ, Nat.reduceAdd, Nat.reduceSub, true_and, and_true, Bool.not_true, Bool.not_false, true_implies, forall_const, not_true_eq_false, false_implies, Bool.false_eq_true, not_false_eq_true, implies_true, eq_self, ne_eq, reduceCtorEq, Fl.rt.injEq, S.d.injEq, D.int.injEq, false_and, exists_false, or_false, false_or, exists_eq_left'])
local macro_rules | `(tactic| walk_at "wy") => `(tactic| try walk_at "wp")
local macro_rules | `(tactic| walk_at "we") => `(tactic| first | done | rfl | exact ⟨rfl, rfl⟩ | exact ⟨rfl, rfl, rfl⟩)
end Fx.Lib
/-! distances on data -/
namespace Fx
open PySem
local macro_rules | `(tactic| walk_at "wp") => `(tactic| simp only [okF_runF, okF_runL, ok_seq, ok_ret, ok_retN, ok_andV, ok_orV, ok_notV, ok_cb, ok_cons, ok_nil, ok_test, ok_dv, ok_op, ok_un, ok_c, ok_if, ok_ifS, ok_and, ok_or, ok_not, ok_asg, ok_gname, ok_drop, ok_call, ok_chain, ok_nx, ok_bk, ok_ct, ok_st, ok_yes, ok_tup, ok_ok, ok_stuck, ex_toD, ex_toL, ex_bl, ex_some, ex_bl1, fl_nx, fl_rt, fl_bk, fl_ct, rt_or, nx_or, mVar, ok1, gIsi, mIsi2, gIsi2, isTy2, isTy, Option.bind, bare, e_add, e_sub, e_int, e_lenS, e_lenT, e_lenL, e_lt, e_le, e_gt, e_ge, e_leC, e_ltC, e_isN, e_notN, e_pow,
  List.map_cons, List.map_nil, List.length_cons, List.length_nil, List.replicate_succ, List.replicate_zero, List.cons_append, List.nil_append, List.append_nil, List.getElem?_cons_zero, List.getElem?_cons_succ, List.set_cons_zero, List.set_cons_succ, Nat.reduceAdd, Nat.reduceSub, true_and, and_true, Bool.not_true, Bool.not_false, true_implies, forall_const, not_true_eq_false, false_implies, Bool.false_eq_true, not_false_eq_true, implies_true, eq_self, ne_eq, reduceCtorEq, Fl.rt.injEq, S.d.injEq, D.int.injEq, false_and, exists_false, or_false, false_or, exists_eq_left'])
local macro_rules | `(tactic| walk_at "wt") => `(tactic| simp (config := { contextual := false }) only [ok_row0, ok_row1, ok_row2, ok_row3, ok_put1, ok_put2, ok_put3, e_mod, e_div, e_mul, e_ixS, decide_true, decide_false, *, okF_runF, okF_runL, ok_seq, ok_ret, ok_retN, ok_andV, ok_orV, ok_notV, ok_cb, ok_cons, ok_nil, ok_test, ok_dv, ok_op, ok_un, ok_c, ok_if, ok_ifS, ok_and, ok_or, ok_not, ok_asg, ok_gname, ok_drop, ok_call, ok_chain, ok_nx, ok_bk, ok_ct, ok_st, ok_yes, ok_tup, ok_ok, ok_stuck, ex_toD, ex_toL, ex_bl, ex_some, ex_bl1, fl_nx, fl_rt, fl_bk, fl_ct, rt_or, nx_or, mVar, ok1, gIsi, mIsi2, gIsi2, isTy2, isTy, Option.bind, bare, e_add, e_sub, e_int, e_lenS, e_lenT, e_lenL, e_lt, e_le, e_gt, e_ge, e_leC, e_ltC, e_isN, e_notN, e_pow,
  List.map_cons, List.map_nil, List.length_cons, List.length_nil, List.replicate_succ, List.replicate_zero, List.cons_append, List.nil_append, List.append_nil, List.getElem?_cons_zero, List.getElem?_cons_succ, List.set_cons_zero, List.set_cons_succ, Nat.reduceAdd, Nat.reduceSub, true_and, and_true, Bool.not_true, Bool.not_false, true_implies, forall_const, not_true_eq_false, false_implies, Bool.false_eq_true, not_false_eq_true, implies_true, eq_self, ne_eq, reduceCtorEq, Fl.rt.injEq, S.d.injEq, D.int.injEq, false_and, exists_false, or_false, false_or, exists_eq_left'])
local macro_rules | `(tactic| walk_at "wy") => `(tactic| try walk_at "wp")
local macro_rules | `(tactic| walk_at "we") => `(tactic| first | done | rfl | exact ⟨rfl, rfl⟩ | exact ⟨rfl, rfl, rfl⟩)
theorem ok_gtup3 {i j k : Nat} {x y z : D} {ρ : En} {P : Unit → En → Prop} (h : P () (((ρ.set i (some (.d x))).set j (some (.d y))).set k (some (.d z)))) : OK (gmTup 3 (gmCons (gmName i) (gmCons (gmName j) (gmCons (gmName k) gmNil))) (.tup [x, y, z]) ρ) P := ok_of h
theorem ok_gtupA {i j k : Nat} {x y z : D} {ρ : En} {P : Unit → En → Prop} (h : P () (((ρ.set i (some (.d x))).set j (some (.d y))).set k (some (.d z)))) : OK (gmTup 2 (gmCons (gmTup 2 (gmCons (gmName i) (gmCons (gmName j) gmNil))) (gmCons (gmName k) gmNil)) (.tup [.tup [x, y], z]) ρ) P := ok_of h
theorem ok_izipT {fa fb : M S} {xs ys : List D} {ρ : En} {P : List D → En → Prop} (ha : Ev fa ρ (.tup xs)) (hb : Ev fb ρ (.tup ys)) (hz : zipOk xs ys = true) (q : P (zipD xs ys) ρ) : OK (iZip' (aCons fa (aCons fb aNil)) ρ) P := by
  unfold iZip'
  rw [ok_then]
  refine (ea_cons ha (ea_cons hb ea_nil)).ok ?_
  show OK (if zipOk xs ys = true then Out.ok (zipD xs ys) ρ else Out.stuck) P
  rw [if_pos hz]
  rw [ok_ok]
  exact q
theorem zipOk_all : ∀ {xs ys : List D}, ys.all isIntD = true → zipOk xs ys = true
  | [], _, _ => by cases ‹List D› <;> rfl
  | _ :: _, [], _ => rfl
  | x :: xs, y :: ys, h => by
    have h' := List.all_cons ▸ h
    simp only [Bool.and_eq_true] at h'
    have ih := zipOk_all (xs := xs) (ys := ys) h'.2
    unfold zipOk at ih ⊢
    simp only [zipD, List.all_cons, Bool.and_eq_true]
    refine ⟨?_, ih⟩
    have e : pairy y = false := by cases y <;> first | rfl | simp [isIntD] at h'
    simp [arcy, e]
theorem zipOk_ints {xs : List D} {ws : List Int} : zipOk xs (ws.map D.int) = true := zipOk_all (by
  rw [List.all_map]
  exact List.all_eq_true.mpr fun _ _ => rfl)
theorem zipD_map {α β : Type} {f : α → D} {g : β → D} : ∀ {xs : List α} {ys : List β}, zipD (xs.map f) (ys.map g) = (xs.zip ys).map fun p => .tup [f p.1, g p.2]
  | [], _ => by simp [zipD]
  | _ :: _, [] => by simp [zipD]
  | x :: xs, y :: ys => by
    have := zipD_map (f := f) (g := g) (xs := xs) (ys := ys)
    simp only [List.map_cons, List.zip_cons_cons, zipD] at this ⊢
    rw [this]
theorem sum_set : ∀ {l : List Nat} {i a b : Nat}, l[i]? = some a → (l.set i b).sum + a = l.sum + b
  | [], _, _, _, e => by simp at e
  | x :: l, 0, a, b, e => by
    simp at e
    subst e
    simp only [List.set_cons_zero, List.sum_cons]
    omega
  | x :: l, i + 1, a, b, e => by
    have := sum_set (l := l) (i := i) (a := a) (b := b) (by simpa using e)
    simp only [List.set_cons_succ, List.sum_cons]
    omega
theorem sum_le {k : Nat} : ∀ {l : List Nat}, (∀ x ∈ l, x ≤ k) → l.sum ≤ k * l.length
  | [], _ => by simp
  | x :: l, h => by
    have := sum_le (l := l) fun y hy => h y (List.mem_cons_of_mem _ hy)
    have := h x List.mem_cons_self
    simp only [List.sum_cons, List.length_cons, Nat.mul_succ]
    omega
namespace Lib
structure OkW (as : List (Nat × Nat)) (ws : List Int) : Prop where
  len : ws.length = as.length
  rng : ∀ w ∈ ws, 1 ≤ w ∧ w ≤ 100
abbrev wsD (ws : List Int) : D := .tup (ws.map D.int)
/-- a walk to g, its weight -/
inductive Way (as : List (Nat × Nat)) (ws : List Int) (g : Nat) : Nat → Int → Prop
  | nil : Way as ws g g 0
  | step {v h : Nat} {w x : Int} : ((v, h), w) ∈ as.zip ws → Way as ws g h x → Way as ws g v (x + w)
structure Dist (n g : Nat) (as : List (Nat × Nat)) (ws : List Int) (ds : List (Option Int)) : Prop where
  len : ds.length = n
  goal : ds[g]? = some (some 0)
  fix : ∀ t h w, ((t, h), w) ∈ as.zip ws → ∀ x, ds[h]? = some (some x) → ∃ y, ds[t]? = some (some y) ∧ y ≤ x + w
  way : ∀ v x, ds[v]? = some (some x) → Way as ws g v x
def one : Option Int → Nat
  | some _ => 1
  | none => 0
def cnt (ds : List (Option Int)) : Nat := (ds.map one).sum
def pv : Option Int → Nat
  | some x => x.toNat
  | none => 1000
def pot (ds : List (Option Int)) : Nat := (ds.map pv).sum
structure Relax (n g : Nat) (as : List (Nat × Nat)) (ws : List Int) (ds : List (Option Int)) : Prop where
  len : ds.length = n
  goal : ds[g]? = some (some 0)
  way : ∀ (v : Nat) (x : Int), ds[v]? = some (some x) → Way as ws g v x
  bnd : ∀ (v : Nat) (x : Int), ds[v]? = some (some x) → 0 ≤ x ∧ x + 100 ≤ 100 * (cnt ds : Int)
theorem cnt_set {ds : List (Option Int)} {t : Nat} {o : Option Int} {y : Int} (e : ds[t]? = some o) : cnt (ds.set t (some y)) + one o = cnt ds + 1 := by
  unfold cnt
  rw [List.map_set]
  exact sum_set (by rw [List.getElem?_map, e]; rfl)
theorem pot_set {ds : List (Option Int)} {t : Nat} {o : Option Int} {y : Int} (e : ds[t]? = some o) : pot (ds.set t (some y)) + pv o = pot ds + y.toNat := by
  unfold pot
  rw [List.map_set]
  exact sum_set (by rw [List.getElem?_map, e]; rfl)
theorem cnt_le {ds : List (Option Int)} : cnt ds ≤ ds.length := by
  unfold cnt
  have := sum_le (k := 1) (l := ds.map one) fun x hx => by
    obtain ⟨o, _, rfl⟩ := List.mem_map.mp hx
    cases o <;> simp [one]
  rw [List.length_map] at this
  omega
theorem Relax.step {n g t h : Nat} {w x : Int} {as : List (Nat × Nat)} {ws : List Int} {ds : List (Option Int)} {o : Option Int} (r : Relax n g as ws ds) (hn : n ≤ 8) (hz : ((t, h), w) ∈ as.zip ws) (w1 : 1 ≤ w) (w2 : w ≤ 100) (eh : ds[h]? = some (some x)) (et : ds[t]? = some o) (ho : ∀ y, o = some y → x + w < y) :
    Relax n g as ws (ds.set t (some (x + w))) ∧ pot (ds.set t (some (x + w))) < pot ds := by
  obtain ⟨b1, b2⟩ := r.bnd h x eh
  have ht : t < ds.length := (List.getElem?_eq_some_iff.mp et).1
  have hc := cnt_set (y := x + w) et
  have hp := pot_set (y := x + w) et
  have hl := cnt_le (ds := ds)
  rw [r.len] at hl
  have htg : t ≠ g := fun z => by
    subst z
    rw [r.goal] at et
    cases et
    have := ho 0 rfl
    omega
  have mono : cnt ds ≤ cnt (ds.set t (some (x + w))) := by
    cases o <;> (simp only [one] at hc; omega)
  have hb : 0 ≤ x + w ∧ x + w + 100 ≤ 100 * (cnt (ds.set t (some (x + w))) : Int) := by
    cases o with
    | none => simp only [one] at hc; omega
    | some y =>
      have := ho y rfl
      have := r.bnd t y et
      simp only [one] at hc
      omega
  refine ⟨⟨by rw [List.length_set]; exact r.len, by rw [List.getElem?_set_ne htg]; exact r.goal, fun v y e => ?_, fun v y e => ?_⟩, ?_⟩
  · by_cases hv : t = v
    · subst hv
      rw [List.getElem?_set_self ht] at e
      cases e
      exact .step hz (r.way h x eh)
    · rw [List.getElem?_set_ne hv] at e
      exact r.way v y e
  · by_cases hv : t = v
    · subst hv
      rw [List.getElem?_set_self ht] at e
      cases e
      exact hb
    · rw [List.getElem?_set_ne hv] at e
      have := r.bnd v y e
      omega
  · cases o with
    | none =>
      have hp : pot (ds.set t (some (x + w))) + 1000 = pot ds + (x + w).toNat := hp
      omega
    | some y =>
      have := ho y rfl
      have := (r.bnd t y et).1
      have hp : pot (ds.set t (some (x + w))) + y.toNat = pot ds + (x + w).toNat := hp
      omega
end Lib
end Fx
/-! xs.index(x), xs.count(x) of a list of data -/
namespace Fx
open PySem PySem.Spec PyProof.Rows L2 PySem.SeqAt
/-- a list of data and a datum -/
def ListOf (K : PySem.W.Frag) (H : Hp) (x : V) (xs : List V) (ds : List PyData) (d : PyData) : Prop := ∃ (a : Addr) (ys : List V) (y : V), x = .ref a ∧ xs = [y] ∧ SqL K H a ys ∧ Dp K H x (.list ds) ∧ Dp K H y d ∧ d.plain = true ∧ PyData.plainAll ds = true ∧ d.depth ≤ 64
section
variable {X : Cx}
theorem ListOf.reads {pins : List (Addr × Obj)} {s : Shared} {σ : L2.St} {H : Hp} {x : V} {xs : List V} {v : Value} {us : List Value} {ds : List PyData} {d : PyData} (I : Inv X pins σ H s) (rx : RelV x v) (rs : Vals xs us) (h : ListOf X.K H x xs ds d) :
    ∃ (a : Addr) (u : Value) (its : Array Value) (as bs : List Addr), v = .ref a ∧ us = [u] ∧ s.heap.IsList a its ∧ ReadsAll s.heap its.toList ds as ∧ Reads s.heap u d bs ∧ d.plain = true ∧ PyData.plainAll ds = true ∧ d.depth ≤ 64 := by
  obtain ⟨a, ys, y, rfl, rfl, sq, hx, hy, p1, p2, p3⟩ := h
  obtain ⟨u, rfl, ru⟩ := vals1 rs
  cases rx
  obtain ⟨bs, rd⟩ := Dp.reads I d _ _ hy ru
  obtain ⟨as, rl⟩ := Dp.reads I _ _ _ hx rfl
  cases rl with
  | list k1 k2 k3 k4 =>
    rename_i ob vs n _
    refine ⟨a, u, vs, _, bs, rfl, rfl, ⟨ob, k1, k2, n, k3⟩, k4, rd, p1, p2, p3⟩
end
/-! ### on data -/
end Fx
/-! xs.count(x), xs.index(x), xs a name that goes on to change -/
/-! lists of numbers on data; statements one after another -/
namespace Fx.Nl
open PySem Lib
abbrev nl (L : List Nat) : List D := L.map fun i : Nat => D.int i
theorem nl_app (a b : List Nat) : nl (a ++ b) = nl a ++ nl b := List.map_append
theorem nl_len (a : List Nat) : (nl a).length = a.length := List.length_map _
theorem nl_get {a : List Nat} {i v : Nat} (e : a[i]? = some v) : (nl a)[i]? = some (.int (v : Nat)) := by
  show (a.map fun i : Nat => D.int i)[i]? = _
  rw [List.getElem?_map, e]
  rfl
section
variable {ρ : En} {i j k : Nat} {b : Option Nat} {t : Bool} {x y : D} {xs : List D} {fa fb fe ff : M S} {fA : M (List D)} {ft : M Bool} {F G : M Fl} {PF : Fl → En → Prop}
theorem sq (h : OK (F ρ) fun f ρ1 => f = .nx ∧ OK (G ρ1) PF) : OK (mSeq F G ρ) PF := ok_seqI _ h fun _ h => h
theorem sqI (h : OK (F ρ) fun f ρ1 => (f = .nx ∧ OK (G ρ1) PF) ∨ (f ≠ .nx ∧ PF f ρ1)) : OK (mSeq F G ρ) PF := by
  rw [ok_seq]
  exact h.imp fun f ρ1 k => k.elim (fun ⟨a, b⟩ => ⟨fun _ => b, fun e => absurd a e⟩) fun ⟨a, b⟩ => ⟨fun e => absurd e a, fun _ => b⟩
theorem asg (h : Ev fe ρ x) (q : PF .nx (ρ.set i (some (.d x)))) : OK (mAsg fe (gmName i) ρ) PF := by
  rw [ok_asg]
  refine h.dv ?_
  rw [ok_gname]
  exact q
theorem asgL (h : EvA fA ρ xs) (hs : small xs.length = true) (q : PF .nx (ρ.set i (some (.o none (.lst xs))))) : OK (mAsgO i (mLst fA) ρ) PF := by
  rw [ok_asgO, ok_lst]
  exact h.ok ⟨hs, .inl ⟨_, rfl, q⟩⟩
theorem retE (h : Ev fe ρ x) (q : ∀ s, toD s = some x → PF (.rt s) ρ) : OK (mRet fe ρ) PF := by
  rw [ok_ret]
  exact h.raw.imp fun s ρ1 ⟨e1, e2⟩ => by rw [e2]; exact q s e1
theorem ifN (h : EvB ft ρ false) (q : PF .nx ρ) : OK (mIfS ft F mNx ρ) PF := by
  rw [ok_ifS]
  refine h.ok ⟨fun e => (nomatch e), fun _ => ?_⟩
  rw [ok_nx]
  exact q
theorem ifB (h : EvB ft ρ t) (q1 : t = true → OK (F ρ) PF) (q2 : t = false → OK (G ρ) PF) : OK (mIfS ft F G ρ) PF := by
  rw [ok_ifS]
  exact h.ok ⟨fun e => q1 e, fun e => q2 (by simpa using e)⟩
theorem dropE (h : Ev fe ρ x) (q : PF .nx ρ) : OK (mDrop fe ρ) PF := by
  rw [ok_drop]
  exact h.raw.imp fun s ρ1 ⟨e1, e2⟩ => by rw [e2]; exact q
theorem appE (e1 : ρ[i]? = some (some (.o b (.lst xs)))) (h : Ev fe ρ x) (hk : xs.length ≤ 1000000) (q : PF .nx (ρ.set i (some (.o b (.lst (xs ++ [x])))))) : OK (mDrop (mMeth1 i gApp fe) ρ) PF := by
  rw [ok_drop]
  exact ok_appE e1 h hk q
theorem cbZ {g : List D → Option S} {z : D} (h : EvA fA ρ xs) (e : g xs = some (.o none z)) (hc : canFz z = true) : Ev (mCB g fA) ρ z := by
  unfold Ev
  rw [ok_dv, ok_cb]
  refine h.ok ⟨_, e, z, ?_, rfl, rfl⟩
  show (if canFz z then some z else none) = _
  rw [if_pos hc]
theorem range1 {n : Nat} {P : List D → En → Prop} (h : EvA fA ρ [.int (n : Nat)]) (hn : n ≤ 1000000) (q : P (intsFrom 0 n) ρ) : OK (iRange1 fA ρ) P := by
  refine @ok_range1e _ _ _ ?_
  exact h.ok ⟨(n : Nat), rfl, by omega, by omega, by rw [Int.toNat_natCast]; exact q⟩
end
/-! numbers in lists -/
theorem ints_nl (n : Nat) : intsFrom 0 n = nl (List.range n) := by
  refine List.ext_getElem? fun i => ?_
  rw [List.getElem?_map]
  by_cases h : i < n
  · rw [intsFrom_get n 0 i h, List.getElem?_range h]
    show some (D.int ((0 : Int) + (i : Int))) = some (D.int (i : Int))
    rw [Int.zero_add]
  · rw [List.getElem?_eq_none (by rw [intsFrom_length]; omega), List.getElem?_eq_none (by rw [List.length_range]; omega)]
    rfl
theorem eqD_int {a b : Nat} : eqD (.int a) (.int b) = decide (a = b) := by
  show ((a : Int) == (b : Int)) = decide (a = b)
  rw [Bool.eq_iff_iff, beq_iff_eq, decide_eq_true_iff]
  exact Int.ofNat_inj
theorem inD_nl {a : Nat} {p : List Nat} : inD (.int a) (nl p) = decide (a ∈ p) := by
  unfold inD
  rw [List.any_map]
  rw [Bool.eq_iff_iff, List.any_eq_true, decide_eq_true_iff]
  constructor
  · rintro ⟨z, hz, e⟩
    have e : eqD (.int z) (.int a) = true := e
    rw [eqD_int, decide_eq_true_iff] at e
    rw [← e]
    exact hz
  · exact fun h => ⟨a, h, (eqD_int.trans (decide_eq_true rfl) : eqD (.int a) (.int a) = true)⟩
theorem plA_nl : ∀ (p : List Nat), plA 60 (nl p) = true
  | [] => rfl
  | a :: p => by
    show (pl 60 (.int a) && plA 60 (nl p)) = true
    rw [plA_nl p]
    rfl
theorem plA_nm {m : Nat} : ∀ (p : List Nat), plA (m + 1) (nl p) = true
  | [] => rfl
  | a :: p => by
    show (pl (m + 1) (.int a) && plA (m + 1) (nl p)) = true
    rw [plA_nm p]
    rfl
theorem gIn_nl {a : Nat} {p : List Nat} : gIn (.int a) (.lst (nl p)) = some (.d (.bl (decide (a ∈ p)))) := by
  show (if (pl60 (.int a) && plA 60 (nl p)) = true then ok1 (.bl (inD (.int a) (nl p))) else none) = _
  rw [plA_nl, inD_nl]
  rfl
theorem gNotIn_nl {a : Nat} {p : List Nat} : gNotIn (.int a) (.lst (nl p)) = some (.d (.bl (!decide (a ∈ p)))) := by
  show (if (pl60 (.int a) && plA 60 (nl p)) = true then ok1 (.bl (!inD (.int a) (nl p))) else none) = _
  rw [plA_nl, inD_nl]
  rfl
section
variable {ρ : En} {i j k : Nat} {b : Option Nat} {x y : D} {xs : List D} {fa fb fe ff fs : M S} {ft : M Bool}
/-- x[-1], x a name's list -/
theorem lastO {ds : List D} (e1 : peek ρ i = some (.lst (ds ++ [x]))) : Ev (mIxO i (mUn gNeg (mC (.int 1)))) ρ x := ev_of (by
  have hm : Ev (mUn gNeg (mC (.int 1))) ρ (.int (-1)) := ev_un ev_c rfl
  unfold mIxO peekL
  rw [e1]
  dsimp only
  rw [if_pos rfl, ok_then]
  refine hm.dv ?_
  rw [e1]
  dsimp only
  have e : L2.atI (ds ++ [x]) (-1) = some x := by
    have e1 : L2.ixN (ds ++ [x]).length (-1) = some ds.length := by
      rw [List.length_append]
      show L2.ixN (ds.length + 1) (-1) = some ds.length
      unfold L2.ixN
      rw [if_neg (by decide), if_pos (by omega)]
      congr 1
      omega
    unfold L2.atI
    rw [e1]
    simp
  rw [e]
  dsimp only
  rw [ok_ok]
  exact ⟨rfl, rfl⟩)
theorem peekO {L : D} (e1 : ρ[i]? = some (some (.o b L))) : peek ρ i = some L := by
  unfold peek
  rw [e1]
end
end Fx.Nl
/-! range objects as values -/
/-! sorted(t), t a tuple of ints -/
/-! defs of the program and of laws, on data -/
namespace Fx.Lib
open PySem PySem.Spec PyProof.Rows L2
end Fx.Lib
/-! what stays of some nodes when those without a head among them go, again and again; walks among what stays -/
namespace Fx.Ring
/-- unlike numbers below n are at most n -/
theorem nodup_le : ∀ {n : Nat} {W : List Nat}, W.Nodup → (∀ v ∈ W, v < n) → W.length ≤ n
  | 0, W, _, h => by
    cases W with
    | nil => exact Nat.le_refl _
    | cons v W => exact absurd (h v List.mem_cons_self) (Nat.not_lt_zero _)
  | n + 1, W, nd, h => by
    have k := nodup_le (n := n) (W := W.erase n) (nd.erase n) fun v hv => by
      have hm : v ∈ W := List.mem_of_mem_erase hv
      have hn : v ≠ n := fun e => by
        rw [e, nd.mem_erase_iff] at hv
        exact hv.1 rfl
      have := h v hm
      omega
    rw [List.length_erase] at k
    split at k <;> omega
def ends (h : Nat → List Nat) (L : List Nat) : List Nat := L.filter fun v => !((h v).any fun w => decide (w ∈ L))
section
variable {h : Nat → List Nat}
/-- a walk among L, unlike but for its last node -/
structure Wk (h : Nat → List Nat) (L W : List Nat) : Prop where
  ne : W ≠ []
  sub : ∀ v ∈ W, v ∈ L
  step : ∀ (i v w : Nat), W[i]? = some v → W[i + 1]? = some w → w ∈ h v
  nd : W.dropLast.Nodup
theorem Wk.one {L : List Nat} {v : Nat} (hv : v ∈ L) : Wk h L [v] := ⟨by simp, fun w hw => by rw [List.mem_singleton.mp hw]; exact hv, fun i a b _ e => by simp at e, by simp⟩
theorem count_last {W : List Nat} {x : Nat} (nd : W.Nodup) : (W ++ [x]).count x = 1 ↔ (W ++ [x]).Nodup := by
  rw [List.count_append, List.count_singleton_self]
  constructor
  · intro e
    have h0 : W.count x = 0 := by omega
    refine List.nodup_append.mpr ⟨nd, by simp, fun a ha b hb => ?_⟩
    rw [List.mem_singleton.mp hb]
    rintro rfl
    exact List.count_eq_zero.mp h0 ha
  · intro e
    have : x ∉ W := fun hx => (List.nodup_append.mp e).2.2 x hx x (by simp) rfl
    rw [List.count_eq_zero.mpr this]
theorem Wk.snoc {L W : List Nat} {x y : Nat} (k : Wk h L (W ++ [x])) (e : (W ++ [x]).count x = 1) (hy : y ∈ h x) (hL : y ∈ L) : Wk h L (W ++ [x] ++ [y]) := by
  have nd : W.Nodup := by simpa using k.nd
  refine ⟨by simp, fun v hv => ?_, fun i v w e1 e2 => ?_, ?_⟩
  · rcases List.mem_append.mp hv with z | z
    · exact k.sub v z
    · rw [List.mem_singleton.mp z]
      exact hL
  · by_cases hi : i + 1 < (W ++ [x]).length
    · rw [List.getElem?_append_left (by omega)] at e1
      rw [List.getElem?_append_left hi] at e2
      exact k.step i v w e1 e2
    · have h2 : i + 1 < (W ++ [x] ++ [y]).length := (List.getElem?_eq_some_iff.mp e2).1
      simp only [List.length_append, List.length_cons, List.length_nil] at hi h2
      have ei : i = W.length := by omega
      subst ei
      have e3 : v = x := by simpa using e1.symm
      have e4 : w = y := by
        have : (W ++ [x] ++ [y])[W.length + 1]? = some y := by simp
        rw [this] at e2
        exact (Option.some.inj e2).symm
      rw [e3, e4]
      exact hy
  · rw [List.dropLast_concat]
    exact (count_last nd).mp e
theorem Wk.len {L W : List Nat} {n : Nat} (k : Wk h L W) (hL : ∀ v ∈ L, v < n) : W.length ≤ n + 1 := by
  have := nodup_le k.nd fun v hv => hL v (k.sub v ((List.dropLast_sublist W).subset hv))
  rw [List.length_dropLast] at this
  omega
end
end Fx.Ring
/-! a ring among nodes by their heads -/
namespace Fx.Lib
open PySem Nl Ring
end Fx.Lib
/-! next hops: trees, rings at some moments -/
namespace Fx.Up
open Ring
/-- where a node is led -/
def nx (T : List Nat) : Nat → Nat
  | 0 => 0
  | i + 1 => (T[i]?).getD 0
def Tr (T : List Nat) : Prop := (∀ i v : Nat, T[i]? = some v → v ≤ T.length) ∧ ∃ rk : Nat → Nat, ∀ i v : Nat, T[i]? = some v → rk v < rk (i + 1)
def it (T : List Nat) : Nat → Nat → Nat
  | 0, v => v
  | k + 1, v => it T k (nx T v)
variable {T U : List Nat}
theorem Tr.le (h : Tr T) {v : Nat} : nx T v ≤ T.length := by
  cases v with
  | zero => exact Nat.zero_le _
  | succ i =>
    show (T[i]?).getD 0 ≤ _
    cases e : T[i]? with
    | none => exact Nat.zero_le _
    | some w => exact h.1 i w e
/-! heads -/
end Fx.Up
/-! for x in zip(t, u), x a name, t and u tuples -/
/-! for i, x in enumerate(t, start=k), t a tuple, k written -/
/-! for i, (x, y) in enumerate(zip(t, u), start=k): the model's steps -/
/-! for i, (x, y) in enumerate(zip(t, u), start=k): the walk -/
/-! for i, (x, y) in enumerate(zip(t, u), start=k): the rule -/
namespace Fx
open PySem PySem.Spec PyProof.Rows L2 RZ
/-! ### on data -/
section
variable {c : Cfg} {W : WX} {tA : TA} {fA : M (List D)}
theorem Rep.skip {B : Base} {ts : En} {vs : List (Option V)} {ρ : En} {σ : L2.St} {H : Hp} {x y : D} {v w : V} (r : Rep c B (some (.d x) :: some (.d y) :: ts) (some v :: some w :: vs) ρ σ H) : Rep c B (some (.d x) :: ts) (some v :: vs) ρ σ H := by
  obtain ⟨G, o1, o2, k, h1, h2⟩ := r
  cases h1 with
  | d ha h1 =>
    cases h1 with
    | d hb h1 => exact ⟨G, o1, o2, k, .d ha h1, h2⟩
end
end Fx
/-! sorted(set(x)) of a list of ints -/
/-! sorted(set(x)) of a list of ints: the rule, on data -/
namespace Fx
open PySem PySem.Spec PyProof.Rows L2
section
variable {X : Cx}
def rSetL (K : PySem.W.Frag) (w : World) : List V → Hp → VK → Prop := fun xs H Q => ∃ (p : Addr) (ns : List Int), xs = [.ref p] ∧ SqL K H p (ns.map V.int) ∧ ns.length ≤ 1000 ∧
  ∀ a c, H a = none → c ≤ ns.length → Rw.Card ns c → Q (.ref a) (upd H a (SetO w a (fun j => decide (j ∈ ns)) c))
end
end Fx
/-! tuple(range(a, b)), list(range(a, b)) -/
/-! paths_to for seven nodes: more turns -/
namespace Fx.Lib
open PySem
end Fx.Lib
/-! the defs of updates and of their laws, on data -/
/-! sorted of a list of data that can be compared: tuples, none empty -/
/-! sorted of a tuple of data that can be compared -/
namespace PySem.W
open PySem PySem.Calls PyProof.Rows
end PySem.W
/-! sorted(v), v the view that d.items() gives -/
namespace PySem.W
open PySem PySem.Calls PyProof.Rows
end PySem.W
/-! many new objects laid and tracked at once -/
/-! sorted(d.items()): the view is tracked as what it is, its pairs are laid together -/
/-! sorted(d.items()) on data -/
/-! xs[::-1] of a list -/
/-! t[::-1] of a tuple -/
/-! x[::e] of a list or a tuple, e being 1 or -1 -/
/-! max of data that can be compared (the twin of FxData's min) -/
/-! min(x, default=d) of a list or tuple of data that can be compared -/
/-! sorted(xs, key=f), f a def of the program or what may be called so; keys that can be compared -/
/-! a stable sort that the kernel computes -/
/-! sorted(xs, key=f) on data -/
/-! sorted of a list of data that can be compared: tuples, none empty, or no tuples at all (lists, numbers) -/
/-! len(set(x)), x a tuple or a list of integers -/
/-! the defs of tables and of their laws, on data -/
/-! loops, draws -/
namespace Fx.Nl
open PySem Lib
section
variable {ρ : En} {i j k r : Nat} {o b : Option Nat} {t : Bool} {x y : D} {xs ds : List D} {fa fb fe ff fs fm : M S} {fA : M (List D)} {ft : M Bool} {F G : M Fl} {PF : Fl → En → Prop} {I : Nat → En → Prop} {gm : D → M Unit}
abbrev LP (I : En → Prop) (PF : Fl → En → Prop) : Fl → En → Prop := fun f ρ2 => (f = .nx ∨ f = .ct → I ρ2) ∧ (f = .bk → PF .nx ρ2) ∧ ∀ s, f = .rt s → PF (.rt s) ρ2
theorem fin {I A : Prop} {B : S → Prop} (h : I) : (Fl.nx = .nx ∨ Fl.nx = .ct → I) ∧ (Fl.nx = .bk → A) ∧ ∀ s, Fl.nx = .rt s → B s := ⟨fun _ => h, fun z => (nomatch z), fun _ z => (nomatch z)⟩
theorem finR {s : S} {I A : Prop} {B : S → Prop} (h : B s) : (Fl.rt s = .nx ∨ Fl.rt s = .ct → I) ∧ (Fl.rt s = .bk → A) ∧ ∀ s', Fl.rt s = .rt s' → B s' := ⟨fun z => z.elim (fun z => (nomatch z)) fun z => (nomatch z), fun z => (nomatch z), fun s' z => by cases z; exact h⟩
/-- for x in range(n) -/
theorem forR {n : Nat} (h : EvA fA ρ [.int (n : Nat)]) (hn : n ≤ 1000000) (i0 : I 0 ρ) (st : ∀ k ρ, k < n → I k ρ → OK (F (ρ.set i (some (.d (.int (k : Nat)))))) (LP (I (k + 1)) PF)) (e : ∀ ρ, I n ρ → PF .nx ρ) : OK (mFor (iRange1 fA) (gmName i) F ρ) PF := by
  rw [ok_for]
  refine range1 h hn (ok_loop (I := I) (k := 0) i0 (fun q x ρ hx hI => ?_) fun ρ hI => e ρ (by rw [intsFrom_length, Nat.zero_add] at hI; exact hI))
  rw [Nat.zero_add] at hI ⊢
  obtain ⟨rfl, hq⟩ := intsFrom_at hx
  rw [ok_gname]
  exact st q ρ hq hI
/-- for t in xs -/
theorem forL (h : Ev fs ρ x) (hx : itemsD x = some ds) (i0 : I 0 ρ) (st : ∀ k y ρ, ds[k]? = some y → I k ρ → OK (gm y ρ) fun _ ρ1 => OK (F ρ1) (LP (I (k + 1)) PF)) (e : ∀ ρ, I ds.length ρ → PF .nx ρ) : OK (mFor (iSeq fs) gm F ρ) PF := by
  rw [ok_for, ok_iseq]
  refine h.dv ⟨ds, hx, ok_loop (I := I) (k := 0) i0 (fun q x ρ hx hI => ?_) fun ρ hI => e ρ (by rw [Nat.zero_add] at hI; exact hI)⟩
  rw [Nat.zero_add] at hI ⊢
  exact st q x ρ hx hI
/-- a draw within an expression -/
theorem tk {a c d : Int} {ns : List Int} {m : Nat} {P : D → En → Prop} (e : ρ[r]? = some (rowS o ns a c d)) (hr : RowOk a c d) (hm : Ev fm ρ (.int (m : Nat))) (h1 : 0 < m) (h2 : m ≤ 1000000)
    (q : ∀ (v : Nat) a c d, v < m → RowOk a c d → P (.int (v : Nat)) (ρ.set r (rowS o ns a c d))) : OK (dv (mCallO Lib.f_law_taken r 0 (aOwn r (aCons fm aNil))) ρ) P := by
  rw [ok_dv]
  refine ok_taken e hr (hm.dv ⟨rfl, rfl⟩) (by omega) (by omega) fun v a c d v0 v1 h => ?_
  refine ⟨_, rfl, ?_⟩
  have := q v.toNat a c d (by omega) h
  rw [Int.toNat_of_nonneg v0] at this
  exact this
theorem addN {a c : Nat} (ha : Ev fa ρ (.int (a : Nat))) (hb : Ev fb ρ (.int (c : Nat))) : Ev (mOp gAdd fa fb) ρ (.int ((a + c : Nat) : Int)) := by
  rw [Int.natCast_add]
  exact ev_add ha hb
theorem add1 {a : Nat} (ha : Ev fa ρ (.int (a : Nat))) : Ev (mOp gAdd fa (mC (.int 1))) ρ (.int ((a + 1 : Nat) : Int)) := by
  rw [Int.natCast_add]
  exact ev_add ha ev_c
theorem sub1 {a : Nat} (ha : Ev fa ρ (.int (a : Nat))) (h : 1 ≤ a) : Ev (mOp gMinus fa (mC (.int 1))) ρ (.int ((a - 1 : Nat) : Int)) := ev_op ha ev_c (by
  show some (S.d (.int ((a : Int) - 1))) = _
  rw [show (a : Int) - 1 = ((a - 1 : Nat) : Int) by omega])
theorem lenO (e : peek ρ i = some (.lst xs)) : Ev (mLenO i) ρ (.int (xs.length : Nat)) := ev_of (by
  unfold mLenO
  rw [e]
  dsimp only
  rw [ok_ok]
  exact ⟨rfl, rfl⟩)
theorem get_erase {α : Type} : ∀ {L : List α} {v : Nat} (hv : v < L.length), (L[v] :: L.eraseIdx v).Perm L
  | [], _, hv => absurd hv (Nat.not_lt_zero _)
  | a :: L, 0, _ => .refl _
  | a :: L, v + 1, hv => by
    have hv' : v < L.length := by simpa using hv
    show (L[v] :: a :: L.eraseIdx v).Perm (a :: L)
    exact (List.Perm.swap _ _ _).trans (List.Perm.cons a (get_erase hv'))
/-- x.append(e), e with effects -/
theorem appM {PF : Fl → En → Prop} (e : ρ[i]? = some (some (.o o (.lst xs)))) (hl : xs.length ≤ 1000000) (h : OK (dv fe ρ) fun y ρ1 => ρ1[i]? = some (some (.o o (.lst xs))) ∧ PF .nx (ρ1.set i (some (.o o (.lst (xs ++ [y])))))) : OK (mDrop (mMeth1 i gApp fe) ρ) PF := by
  rw [ok_drop]
  exact ok_app e (h.imp fun y ρ1 ⟨e1, q⟩ => ⟨e1, decide_eq_true (by omega), q⟩)
theorem perm_pop {α : Type} {L N R : List α} {v : Nat} (h : (N ++ L).Perm R) (hv : v < L.length) : (N ++ [L[v]] ++ L.eraseIdx v).Perm R := by
  refine List.Perm.trans ?_ h
  rw [List.append_assoc]
  refine List.Perm.append_left N ?_
  show (L[v] :: L.eraseIdx v).Perm L
  exact get_erase hv
theorem opR {g : D → D → Option S} {t : Bool} (e : ρ[i]? = some (some (.o o y))) (hc : canFz y = true) (ha : Ev fa ρ x) (eg : g x y = some (.d (.bl t))) : Ev (mOpR g fa i) ρ (.bl t) := by
  unfold Ev
  rw [ok_dv]
  unfold mOpR
  rw [ok_then]
  refine ha.dv ?_
  have el : lendD ρ i = some y := by
    unfold lendD
    rw [e]
    dsimp only
    rw [if_pos hc]
  rw [el]
  dsimp only
  rw [eg]
  dsimp only
  rw [ok_ok]
  exact ⟨_, rfl, rfl, rfl⟩
/-- t[i:i + 2] -/
theorem sl2 {fl fh : M S} {L : List Nat} {i v w : Nat} (ha : Ev fa ρ (.tup (nl L))) (hl : Ev fl ρ (.int (i : Nat))) (hh : Ev fh ρ (.int ((i + 2 : Nat) : Int))) (e1 : L[i]? = some v) (e2 : L[i + 1]? = some w) : Ev (mSl fa (oSome fl) (oSome fh)) ρ (arcD (v, w)) := ev_of (by
  have hi : i + 1 < L.length := (List.getElem?_eq_some_iff.mp e2).1
  refine ok_sl (ha.dv ?_)
  refine ok_osome (hl.dv ⟨_, rfl, ?_⟩)
  refine ok_osome (hh.dv ⟨_, rfl, .d (arcD (v, w)), ?_, rfl, rfl⟩)
  show some (S.d (.tup (cutD (nl L) (some (i : Nat)) (some ((i + 2 : Nat) : Int))))) = _
  have e : cutD (nl L) (some (i : Nat)) (some ((i + 2 : Nat) : Int)) = [.int (v : Nat), .int (w : Nat)] := by
    unfold cutD
    have k1 : HT.sIx (nl L).length 0 (some (i : Int)) = i := by
      show (if (i : Int) < 0 then ((nl L).length + (i : Int)).toNat else min (i : Int).toNat (nl L).length) = _
      rw [if_neg (by omega), nl_len, Int.toNat_natCast, Nat.min_eq_left (by omega)]
    have k2 : HT.sIx (nl L).length (nl L).length (some ((i + 2 : Nat) : Int)) = i + 2 := by
      show (if ((i + 2 : Nat) : Int) < 0 then ((nl L).length + ((i + 2 : Nat) : Int)).toNat else min ((i + 2 : Nat) : Int).toNat (nl L).length) = _
      rw [if_neg (by omega), nl_len, Int.toNat_natCast, Nat.min_eq_left (by omega)]
    rw [k1, k2, show i + 2 - i = 2 by omega, ← List.map_drop, ← List.map_take]
    have e3 : (L.drop i).take 2 = [v, w] := by
      refine List.ext_getElem? fun j => ?_
      rw [List.getElem?_take]
      split
      · rw [List.getElem?_drop]
        rename_i hj
        match j, hj with
        | 0, _ => simpa using e1
        | 1, _ => simpa using e2
      · rename_i hj
        rw [List.getElem?_eq_none (by simp; omega)]
    rw [e3]
    rfl
  rw [e]
  rfl)
theorem lastT {ds : List D} (ha : Ev fa ρ (.tup (ds ++ [x]))) : Ev (mOp gIx fa (mUn gNeg (mC (.int 1)))) ρ x := ev_op ha (ev_un ev_c rfl) (by
  have e : L2.atI (ds ++ [x]) (-1) = some x := by
    have hi : L2.ixN (ds ++ [x]).length (-1) = some ds.length := by
      rw [List.length_append, List.length_singleton]
      unfold L2.ixN
      simp
      try omega
    unfold L2.atI
    rw [hi]
    simp
  show (L2.atI (ds ++ [x]) (-1)).bind ok1 = _
  rw [e]
  rfl)
theorem lastN {L : List Nat} {v : Nat} (ha : Ev fa ρ (.tup (nl L))) (e : L.getLast? = some v) : Ev (mOp gIx fa (mUn gNeg (mC (.int 1)))) ρ (.int (v : Nat)) := by
  obtain ⟨W, rfl⟩ := List.getLast?_eq_some_iff.mp e
  rw [nl_app] at ha
  exact lastT ha
/-- [f(v) for v in nodes] -/
theorem mapI {fI : M (List D)} {L : List Nat} {f : Nat → D} (hI : OK (fI ρ) fun items ρ1 => items = nl L ∧ ρ1 = ρ) (hw : ρ.set k none = ρ) (st : ∀ v ∈ L, Ev fe (ρ.set k (some (.d (.int (v : Nat))))) (f v)) (hs : L.length ≤ 1000000) : Ev (mLc fI (gmName k) mYes fe [k]) ρ (.lst (L.map f)) := by
  unfold Ev
  rw [ok_dv, ok_lc]
  refine hI.imp fun items ρ1 ⟨e1, e2⟩ => ?_
  subst e1
  rw [e2]
  have ew : wipeE ρ [k] = ρ := hw
  rw [ew]
  refine ok_map (f := fun d => match d with | .int i => f i.toNat | _ => .non) hw (fun d hd => ?_) (by rw [nl_len]; omega) ?_
  · obtain ⟨v, hv, rfl⟩ := List.mem_map.mp hd
    refine (st v hv).dv ⟨rfl, ?_⟩
    rw [List.set_set, hw]
  · have e2 : (nl L).map (fun d => match d with | .int i => f i.toNat | _ => .non) = L.map f := by
      rw [List.map_map]
      rfl
    rw [e2]
    exact ⟨_, rfl, rfl, rfl⟩
theorem lenT (h : Ev fa ρ (.tup ds)) : Ev (mCB gLen (aCons fa aNil)) ρ (.int (ds.length : Nat)) := ev_cb (ea_cons h ea_nil) rfl
theorem lenN {L : List Nat} (h : Ev fa ρ (.tup (nl L))) : Ev (mCB gLen (aCons fa aNil)) ρ (.int (L.length : Nat)) := by
  have := lenT h
  rw [nl_len] at this
  exact this
theorem ixN {L : List Nat} {i v : Nat} (ha : Ev fa ρ (.tup (nl L))) (hb : Ev fb ρ (.int (i : Nat))) (e : L[i]? = some v) : Ev (mOp gIx fa fb) ρ (.int (v : Nat)) := ev_ixT ha hb (nl_get e)
theorem uniq_nd {L : List Nat} (nd : L.Nodup) : (Rw.uniq (L.map fun v : Nat => (v : Int))).length = L.length := by
  have s := Rw.srt_uniq (L.map fun v : Nat => (v : Int))
  have p : (Rw.uniq (L.map fun v : Nat => (v : Int))).Perm (L.map fun v : Nat => (v : Int)) := by
    refine (List.perm_ext_iff_of_nodup ?_ ?_).mpr fun a => ?_
    · exact List.Pairwise.imp (fun {a b} h => Int.ne_of_lt h) s.1
    · refine List.pairwise_map.mpr (List.Pairwise.imp (fun {a b} h => ?_) nd)
      exact fun e => h (by omega)
    · exact s.2 a
  rw [p.length_eq, List.length_map]
theorem ints_apart (n : Nat) : (intsFrom 0 n).Pairwise (fun x y => keyEq y x = false) := by
  rw [List.pairwise_iff_getElem]
  intro a b ha hb hab
  rw [intsFrom_length] at ha hb
  have e1 := intsFrom_get n 0 a ha
  have e2 := intsFrom_get n 0 b hb
  rw [List.getElem?_eq_getElem (by rw [intsFrom_length]; exact ha)] at e1
  rw [List.getElem?_eq_getElem (by rw [intsFrom_length]; exact hb)] at e2
  rw [Option.some.inj e1, Option.some.inj e2]
  show decide ((0 : Int) + (b : Int) = 0 + (a : Int)) = false
  rw [decide_eq_false_iff_not]
  omega
end
end Fx.Nl
/-! data of numbers, texts, None alone (no True or False): what is equal is the same -/
namespace Fx
open PySem
mutual
def nb : Nat → D → Bool
  | _, .non => true
  | _, .int _ => true
  | _, .str _ => true
  | n + 1, .tup ds => nbA n ds
  | n + 1, .lst ds => nbA n ds
  | _, _ => false
def nbA : Nat → List D → Bool
  | _, [] => true
  | n, d :: ds => nb n d && nbA n ds
end
end Fx
/-! tables of prefixes: rules, what fits an address, the best -/
namespace Fx.Tb
open PySem Lib Nl
open PySem.W (dataLt)
abbrev Rl := List Nat × Nat
structure Tab (w m : Nat) (R : List Rl) : Prop where
  nd : (R.map (·.1)).Nodup
  nil : [] ∈ R.map (·.1)
  len : ∀ r ∈ R, r.1.length ≤ w
  bit : ∀ r ∈ R, ∀ b ∈ r.1, b ≤ 1
  lt : ∀ r ∈ R, r.2 < m
  small : R.length ≤ 63
def fits (a : List Nat) (r : Rl) : Bool := decide (a.take r.1.length = r.1)
/-- the law's own choice -/
def btR (best : Option Rl) (r : Rl) : Bool := match best with
  | none => true
  | some b => decide (b.1.length < r.1.length)
def stepR (a : List Nat) (best : Option Rl) (r : Rl) : Option Rl := if fits a r && btR best r then some r else best
def bestR (R : List Rl) (a : List Nat) : Option Rl := R.foldl (stepR a) none
def hop (R : List Rl) (a : List Nat) : Nat := match bestR R a with | some r => r.2 | none => 0
theorem Tab.perm {w m : Nat} {R S : List Rl} (t : Tab w m R) (h : R.Perm S) : Tab w m S where
  nd := (h.map _).nodup_iff.mp t.nd
  nil := (h.map _).mem_iff.mp t.nil
  len := fun r hr => t.len r (h.mem_iff.mpr hr)
  bit := fun r hr => t.bit r (h.mem_iff.mpr hr)
  lt := fun r hr => t.lt r (h.mem_iff.mpr hr)
  small := by rw [← h.length_eq]; exact t.small
/-! the pairs (length, hop) of what fits: the greatest is the best rule's -/
end Fx.Tb
/-! dicts from pairs of numbers, as lists of entries -/
namespace Fx.Nl
open PySem Lib
end Fx.Nl
/-! tables on data: loops over rules, dicts of rules, addresses -/
namespace Fx.Tb
open PySem Lib Nl
/-! ### data -/
/-! ### dicts of rules -/
def putR (kv : List Rl) (p : List Nat) (x : Nat) : List Rl := if kv.any (fun e => decide (p = e.1)) then kv.map fun e => (e.1, if p = e.1 then x else e.2) else kv ++ [(p, x)]
/-- what a dict of rules keeps -/
structure Dct (w m : Nat) (kv : List Rl) : Prop where
  nd : (kv.map (·.1)).Nodup
  nil : [] ∈ kv.map (·.1)
  len : ∀ r ∈ kv, r.1.length ≤ w
  bit : ∀ r ∈ kv, ∀ b ∈ r.1, b ≤ 1
  hop : ∀ r ∈ kv, r.2 < m
theorem Dct.put {w m : Nat} {kv : List Rl} (h : Dct w m kv) {p : List Nat} {x : Nat} (hp : p.length ≤ w) (hb : ∀ b ∈ p, b ≤ 1) (hx : x < m) : Dct w m (putR kv p x) ∧ (putR kv p x).length ≤ kv.length + 1 := by
  unfold putR
  split
  · have e : (kv.map fun e => (e.1, if p = e.1 then x else e.2)).map (·.1) = kv.map (·.1) := by
      rw [List.map_map]
      rfl
    refine ⟨⟨by rw [e]; exact h.nd, by rw [e]; exact h.nil, ?_, ?_, ?_⟩, by rw [List.length_map]; omega⟩
    all_goals
      intro r hr
      obtain ⟨e, he, rfl⟩ := List.mem_map.mp hr
    · exact h.len e he
    · exact h.bit e he
    · show (if p = e.1 then x else e.2) < m
      split
      · exact hx
      · exact h.hop e he
  · rename_i hn
    have nm : p ∉ kv.map (·.1) := fun z => by
      obtain ⟨e, he, ee⟩ := List.mem_map.mp z
      exact hn (List.any_eq_true.mpr ⟨e, he, decide_eq_true ee.symm⟩)
    refine ⟨⟨?_, ?_, ?_, ?_, ?_⟩, by rw [List.length_append]; simp⟩
    · rw [List.map_append, List.nodup_append]
      exact ⟨h.nd, by simp, fun a ha b hb e => nm (by
        have : b = p := List.mem_singleton.mp hb
        rw [this] at e
        rw [← e]
        exact ha)⟩
    · rw [List.map_append]
      exact List.mem_append_left _ h.nil
    all_goals
      intro r hr
      rcases List.mem_append.mp hr with hr | hr
    · exact h.len r hr
    · rw [List.mem_singleton.mp hr]; exact hp
    · exact h.bit r hr
    · rw [List.mem_singleton.mp hr]; exact hb
    · exact h.hop r hr
    · rw [List.mem_singleton.mp hr]; exact hx
/-! ### addresses -/
def addrs : Nat → List (List Nat)
  | 0 => [[]]
  | n + 1 => (addrs n).flatMap fun a => [a ++ [0], a ++ [1]]
end Fx.Tb
/-! tables on data: checks, hops, what a law draws -/
/-! tables on data: what a law draws -/
/-! tables on data: first_gap -/
/-! tables: the shortest prefixes that are even -/
namespace Fx.Tb
section
variable {U : List Nat → Bool} {H : List Nat → Nat} {w : Nat}
def blk (U : List Nat → Bool) (H : List Nat → Nat) : Nat → List Nat → List Rl
  | 0, p => [(p, H p)]
  | n + 1, p => if U p then [(p, H p)] else blk U H n (p ++ [0]) ++ blk U H n (p ++ [1])
/-! a walk with a stack -/
def cost (w : Nat) (p : List Nat) : Nat := 2 ^ (w - p.length + 1) - 1
end
end Fx.Tb
/-! try: .. except X as e: the suite knows what e is -/
/-! in the suite: isinstance(e, X), e.f -/
/-! x(lambda: e), the lambda capturing names: x calls it first of all, in try: .. except .. as .. -/
namespace Fx
open PySem PySem.Spec PyProof.Rows L2
open C8 (Cal Mak pe_c pe_mk)
open LamX (Tabs TabS TabB ExtN CodeO codeO_ne GivesTo tLam lamCx lamEnv pe_lamcall)
section
variable {X : Cx} {c : Cfg} {W : WX} {F : Out S → Out S} {fb : M S} {t : XK → TE}
variable {x a : Str} {cc Pt : Addr} {k kk : Nat} {params : Arguments} {body : Expr} {scope : Scope} {p lpos pos : Pos}
/-! a lambda that changes one owned cell that it captures -/
theorem Rep.swap {B : Base} {s1 s2 : S} {v1 v2 : Option V} {T ρ : En} {V : List (Option V)} {σ : L2.St} {H : Hp} (r : Rep c B (some s1 :: some s2 :: T) (v1 :: v2 :: V) ρ σ H) : Rep c B (some s2 :: some s1 :: T) (v2 :: v1 :: V) ρ σ H := by
  obtain ⟨G, o1, o2, k, h1, h2⟩ := r
  obtain ⟨w1, os1, own1, rfl, e1, rfl, h3⟩ := h1.unone
  obtain ⟨w2, os2, own2, rfl, e2, rfl, h4⟩ := h3.unone
  have pm : (os2 ++ (os1 ++ own2) ++ o2).Perm (os1 ++ (os2 ++ own2) ++ o2) := by
    refine List.Perm.append_right _ ?_
    rw [← List.append_assoc, ← List.append_assoc]
    exact List.Perm.append_right _ List.perm_append_comm
  exact ⟨G, os2 ++ (os1 ++ own2), o2, k.subO (fun p hp => pm.subset hp) (pm.nodup_iff.mpr k.nd), Sl.one e2 (Sl.one e1 h4), h2⟩
end
end Fx
/-! C(..), C's __init__ raising; try: one statement / except X as e -/
/-! what ends in an error, on data -/
namespace Fx
open PySem
section
variable {ρ : En} {e : Err} {fa fb fe : M S} {fA : M (List D)} {xs : List D} {x y : D} {b : Bool} {ft : M Bool} {F G : M Fl} {f : Fn}
theorem OK.eq {α : Type} {m : Out α} {P : α → En → Prop} (h : OK m P) : ∃ a ρ, m = .ok a ρ ∧ P a ρ := h.at
theorem EvA.eq (h : EvA fA ρ xs) : fA ρ = .ok xs ρ := by
  obtain ⟨a, ρ1, e1, rfl, rfl⟩ := OK.at h
  exact e1
theorem EvB.eq (h : EvB ft ρ b) : ft ρ = .ok b ρ := by
  obtain ⟨a, ρ1, e1, rfl, rfl⟩ := OK.at h
  exact e1
theorem Ev.eq (h : Ev fe ρ x) : Fx.dv fe ρ = .ok x ρ := by
  obtain ⟨a, ρ1, e1, rfl, rfl⟩ := OK.at h
  exact e1
end
end Fx
/-! graphs refused, on data -/
/-! next hops on data -/
namespace Fx
open PySem
local macro_rules | `(tactic| walk_at "wp") => `(tactic| simp only [okF_runF, okF_runL, ok_seq, ok_ret, ok_retN, ok_andV, ok_orV, ok_notV, ok_cb, ok_cons, ok_nil, ok_test, ok_dv, ok_op, ok_un, ok_c, ok_if, ok_ifS, ok_and, ok_or, ok_not, ok_asg, ok_gname, ok_drop, ok_call, ok_chain, ok_nx, ok_bk, ok_ct, ok_st, ok_yes, ok_tup, ok_ok, ok_stuck, ex_toD, ex_toL, ex_bl, ex_some, ex_bl1, fl_nx, fl_rt, fl_bk, fl_ct, rt_or, nx_or, mVar, ok1, gIsi, mIsi2, gIsi2, isTy2, isTy, Option.bind, bare, e_add, e_sub, e_int, e_lenS, e_lenT, e_lenL, e_lt, e_le, e_gt, e_ge, e_leC, e_ltC, e_isN, e_notN, e_pow,
  List.map_cons, List.map_nil, List.length_cons, List.length_nil, List.replicate_succ, List.replicate_zero, List.cons_append, List.nil_append, List.append_nil, List.getElem?_cons_zero, List.getElem?_cons_succ, List.set_cons_zero, List.set_cons_succ, Nat.reduceAdd, Nat.reduceSub, true_and, and_true, Bool.not_true, Bool.not_false, true_implies, forall_const, not_true_eq_false, false_implies, Bool.false_eq_true, not_false_eq_true, implies_true, eq_self, ne_eq, reduceCtorEq, Fl.rt.injEq, S.d.injEq, D.int.injEq, false_and, exists_false, or_false, false_or, exists_eq_left'])
local macro_rules | `(tactic| walk_at "wt") => `(tactic| simp (config := { contextual := false }) only [ok_row0, ok_row1, ok_row2, ok_row3, ok_put1, ok_put2, ok_put3, e_mod, e_div, e_mul, e_ixS, decide_true, decide_false, *, okF_runF, okF_runL, ok_seq, ok_ret, ok_retN, ok_andV, ok_orV, ok_notV, ok_cb, ok_cons, ok_nil, ok_test, ok_dv, ok_op, ok_un, ok_c, ok_if, ok_ifS, ok_and, ok_or, ok_not, ok_asg, ok_gname, ok_drop, ok_call, ok_chain, ok_nx, ok_bk, ok_ct, ok_st, ok_yes, ok_tup, ok_ok, ok_stuck, ex_toD, ex_toL, ex_bl, ex_some, ex_bl1, fl_nx, fl_rt, fl_bk, fl_ct, rt_or, nx_or, mVar, ok1, gIsi, mIsi2, gIsi2, isTy2, isTy, Option.bind, bare, e_add, e_sub, e_int, e_lenS, e_lenT, e_lenL, e_lt, e_le, e_gt, e_ge, e_leC, e_ltC, e_isN, e_notN, e_pow,
  List.map_cons, List.map_nil, List.length_cons, List.length_nil, List.replicate_succ, List.replicate_zero, List.cons_append, List.nil_append, List.append_nil, List.getElem?_cons_zero, List.getElem?_cons_succ, List.set_cons_zero, List.set_cons_succ, Nat.reduceAdd, Nat.reduceSub, true_and, and_true, Bool.not_true, Bool.not_false, true_implies, forall_const, not_true_eq_false, false_implies, Bool.false_eq_true, not_false_eq_true, implies_true, eq_self, ne_eq, reduceCtorEq, Fl.rt.injEq, S.d.injEq, D.int.injEq, false_and, exists_false, or_false, false_or, exists_eq_left'])
local macro_rules | `(tactic| walk_at "wy") => `(tactic| try walk_at "wp")
local macro_rules | `(tactic| walk_at "we") => `(tactic| first | done | rfl | exact ⟨rfl, rfl⟩ | exact ⟨rfl, rfl, rfl⟩)
section
variable {k : Nat} {fk : M S} {ρ0 : En} {PD : List D × List (List D) → En → Prop}
theorem ints_apart (n : Nat) : (intsFrom 0 n).Pairwise (fun x y => keyEq y x = false) := by
  rw [List.pairwise_iff_getElem]
  intro a b ha hb hab
  rw [intsFrom_length] at ha hb
  have e1 := intsFrom_get n 0 a ha
  have e2 := intsFrom_get n 0 b hb
  rw [List.getElem?_eq_getElem (by rw [intsFrom_length]; exact ha)] at e1
  rw [List.getElem?_eq_getElem (by rw [intsFrom_length]; exact hb)] at e2
  rw [Option.some.inj e1, Option.some.inj e2]
  show decide ((0 : Int) + (b : Int) = 0 + (a : Int)) = false
  rw [decide_eq_false_iff_not]
  omega
end
namespace Lib
def tight (ds : List (Option Int)) (p : (Nat × Nat) × Int) : Bool := match ds[p.1.2]? with
  | some (some x) => decide (ds[p.1.1]? = some (some (x + p.2)))
  | _ => false
theorem hd_app {as bs : List (Nat × Nat)} {v : Nat} : hd (as ++ bs) v = hd as v ++ hd bs v := by
  unfold hd
  rw [List.filter_append, List.map_append]
/-! distances are one -/
theorem Way.le {n g : Nat} {as : List (Nat × Nat)} {ws ws' : List Int} {ds : List (Option Int)} (d : Dist n g as ws ds) (h : ∀ p w', (p, w') ∈ as.zip ws' → ∃ w, w ≤ w' ∧ (p, w) ∈ as.zip ws) : ∀ {v : Nat} {x' : Int}, Way as ws' g v x' → ∃ x, x ≤ x' ∧ ds[v]? = some (some x) := by
  intro v x' hw
  induction hw with
  | nil => exact ⟨0, Int.le_refl _, d.goal⟩
  | step hz _ ih =>
    obtain ⟨x, h1, h2⟩ := ih
    obtain ⟨w, h3, h4⟩ := h _ _ hz
    obtain ⟨y, h5, h6⟩ := d.fix _ _ _ h4 x h2
    exact ⟨y, by omega, h5⟩
theorem Way.some {n g : Nat} {as : List (Nat × Nat)} {ws ws' : List Int} {ds : List (Option Int)} (d : Dist n g as ws ds) (h : ∀ p w', (p, w') ∈ as.zip ws' → ∃ w, (p, w) ∈ as.zip ws) : ∀ {v : Nat} {x' : Int}, Way as ws' g v x' → ∃ x, ds[v]? = .some (.some x) := by
  intro v x' hw
  induction hw with
  | nil => exact ⟨0, d.goal⟩
  | step hz _ ih =>
    obtain ⟨x, h2⟩ := ih
    obtain ⟨w, h4⟩ := h _ _ hz
    obtain ⟨y, h5, _⟩ := d.fix _ _ _ h4 x h2
    exact ⟨y, h5⟩
theorem Dist.one {n g : Nat} {as : List (Nat × Nat)} {ws : List Int} {ds ds' : List (Option Int)} (d : Dist n g as ws ds) (d' : Dist n g as ws ds') : ds' = ds := by
  have key : ∀ {a b : List (Option Int)}, Dist n g as ws a → Dist n g as ws b → ∀ (v : Nat) (x : Int), a[v]? = some (some x) → b[v]? = some (some x) := by
    intro a b da db v x e
    obtain ⟨y, h1, h2⟩ := (da.way v x e).le db fun p w h => ⟨w, Int.le_refl _, h⟩
    obtain ⟨z, h3, h4⟩ := (db.way v y h2).le da fun p w h => ⟨w, Int.le_refl _, h⟩
    rw [e] at h4
    cases h4
    have : x = y := by omega
    rw [this]
    exact h2
  refine List.ext_getElem? fun v => ?_
  by_cases hv : v < n
  · obtain ⟨a, ea⟩ : ∃ a, ds[v]? = some a := ⟨_, List.getElem?_eq_getElem (by rw [d.len]; exact hv)⟩
    obtain ⟨b, eb⟩ : ∃ b, ds'[v]? = some b := ⟨_, List.getElem?_eq_getElem (by rw [d'.len]; exact hv)⟩
    cases b with
    | some x => rw [eb, key d' d v x eb]
    | none =>
      cases a with
      | none => rw [ea, eb]
      | some x =>
        rw [key d d' v x ea] at eb
        cases eb
  · rw [List.getElem?_eq_none (by rw [d'.len]; omega), List.getElem?_eq_none (by rw [d.len]; omega)]
end Lib
end Fx
/-! paths by their weights: paths_to over arcs that need not be few; nearest_paths -/
namespace Fx.Lib
open PySem
local macro_rules | `(tactic| walk_at "wp") => `(tactic| simp only [okF_runF, okF_runL, ok_seq, ok_ret, ok_retN, ok_andV, ok_orV, ok_notV, ok_cb, ok_cons, ok_nil, ok_test, ok_dv, ok_op, ok_un, ok_c, ok_if, ok_ifS, ok_and, ok_or, ok_not, ok_asg, ok_gname, ok_drop, ok_call, ok_chain, ok_nx, ok_bk, ok_ct, ok_st, ok_yes, ok_tup, ok_ok, ok_stuck, ex_toD, ex_toL, ex_bl, ex_some, ex_bl1, fl_nx, fl_rt, fl_bk, fl_ct, rt_or, nx_or, mVar, ok1, gIsi, mIsi2, gIsi2, isTy2, isTy, Option.bind, bare, e_add, e_sub, e_int, e_lenS, e_lenT, e_lenL, e_lt, e_le, e_gt, e_ge, e_leC, e_ltC, e_isN, e_notN, e_pow,
  List.map_cons, List.map_nil, List.length_cons, List.length_nil, List.replicate_succ, List.replicate_zero, List.cons_append, List.nil_append, List.append_nil, List.getElem?_cons_zero, List.getElem?_cons_succ, List.set_cons_zero, List.set_cons_succ, Nat.reduceAdd, Nat.reduceSub, true_and, and_true, Bool.not_true, Bool.not_false, true_implies, forall_const, not_true_eq_false, false_implies, Bool.false_eq_true, not_false_eq_true, implies_true, eq_self, ne_eq, reduceCtorEq, Fl.rt.injEq, S.d.injEq, D.int.injEq, false_and, exists_false, or_false, false_or, exists_eq_left'])
local macro_rules | `(tactic| walk_at "wt") => `(tactic| simp (config := { contextual := false }) only [ok_row0, ok_row1, ok_row2, ok_row3, ok_put1, ok_put2, ok_put3, e_mod, e_div, e_mul, e_ixS, decide_true, decide_false, *, okF_runF, okF_runL, ok_seq, ok_ret, ok_retN, ok_andV, ok_orV, ok_notV, ok_cb, ok_cons, ok_nil, ok_test, ok_dv, ok_op, ok_un, ok_c, ok_if, ok_ifS, ok_and, ok_or, ok_not, ok_asg, ok_gname, ok_drop, ok_call, ok_chain, ok_nx, ok_bk, ok_ct, ok_st, ok_yes, ok_tup, ok_ok, ok_stuck, ex_toD, ex_toL, ex_bl, ex_some, ex_bl1, fl_nx, fl_rt, fl_bk, fl_ct, rt_or, nx_or, mVar, ok1, gIsi, mIsi2, gIsi2, isTy2, isTy, Option.bind, bare, e_add, e_sub, e_int, e_lenS, e_lenT, e_lenL, e_lt, e_le, e_gt, e_ge, e_leC, e_ltC, e_isN, e_notN, e_pow,
  List.map_cons, List.map_nil, List.length_cons, List.length_nil, List.replicate_succ, List.replicate_zero, List.cons_append, List.nil_append, List.append_nil, List.getElem?_cons_zero, List.getElem?_cons_succ, List.set_cons_zero, List.set_cons_succ, Nat.reduceAdd, Nat.reduceSub, true_and, and_true, Bool.not_true, Bool.not_false, true_implies, forall_const, not_true_eq_false, false_implies, Bool.false_eq_true, not_false_eq_true, implies_true, eq_self, ne_eq, reduceCtorEq, Fl.rt.injEq, S.d.injEq, D.int.injEq, false_and, exists_false, or_false, false_or, exists_eq_left'])
local macro_rules | `(tactic| walk_at "wy") => `(tactic| try walk_at "wp")
local macro_rules | `(tactic| walk_at "we") => `(tactic| first | done | rfl | exact ⟨rfl, rfl⟩ | exact ⟨rfl, rfl, rfl⟩)
/-! ranks -/
/-- nearer, or as near and of a lower number -/
def nearer (ds : List (Option Int)) (u v : Nat) : Bool := match ds[u]?, ds[v]? with
  | some (some x), some (some y) => decide (x < y ∨ (x = y ∧ u < v))
  | _, _ => false
def rk (ds : List (Option Int)) (v : Nat) : Nat := ((List.range ds.length).filter fun u => nearer ds u v).length
theorem OkArcs.sub {n : Nat} {as bs : List (Nat × Nat)} (o : OkArcs n as) (h : bs.Sublist as) : OkArcs n bs := ⟨fun p hp => o.rng p (h.subset hp), o.asc.sublist h⟩
end Fx.Lib
/-! spares on data; ways by next hops -/
namespace Fx
open PySem
local macro_rules | `(tactic| walk_at "wp") => `(tactic| simp only [okF_runF, okF_runL, ok_seq, ok_ret, ok_retN, ok_andV, ok_orV, ok_notV, ok_cb, ok_cons, ok_nil, ok_test, ok_dv, ok_op, ok_un, ok_c, ok_if, ok_ifS, ok_and, ok_or, ok_not, ok_asg, ok_gname, ok_drop, ok_call, ok_chain, ok_nx, ok_bk, ok_ct, ok_st, ok_yes, ok_tup, ok_ok, ok_stuck, ex_toD, ex_toL, ex_bl, ex_some, ex_bl1, fl_nx, fl_rt, fl_bk, fl_ct, rt_or, nx_or, mVar, ok1, gIsi, mIsi2, gIsi2, isTy2, isTy, Option.bind, bare, e_add, e_sub, e_int, e_lenS, e_lenT, e_lenL, e_lt, e_le, e_gt, e_ge, e_leC, e_ltC, e_isN, e_notN, e_pow,
  List.map_cons, List.map_nil, List.length_cons, List.length_nil, List.replicate_succ, List.replicate_zero, List.cons_append, List.nil_append, List.append_nil, List.getElem?_cons_zero, List.getElem?_cons_succ, List.set_cons_zero, List.set_cons_succ, Nat.reduceAdd, Nat.reduceSub, true_and, and_true, Bool.not_true, Bool.not_false, true_implies, forall_const, not_true_eq_false, false_implies, Bool.false_eq_true, not_false_eq_true, implies_true, eq_self, ne_eq, reduceCtorEq, Fl.rt.injEq, S.d.injEq, D.int.injEq, false_and, exists_false, or_false, false_or, exists_eq_left'])
local macro_rules | `(tactic| walk_at "wt") => `(tactic| simp (config := { contextual := false }) only [ok_row0, ok_row1, ok_row2, ok_row3, ok_put1, ok_put2, ok_put3, e_mod, e_div, e_mul, e_ixS, decide_true, decide_false, *, okF_runF, okF_runL, ok_seq, ok_ret, ok_retN, ok_andV, ok_orV, ok_notV, ok_cb, ok_cons, ok_nil, ok_test, ok_dv, ok_op, ok_un, ok_c, ok_if, ok_ifS, ok_and, ok_or, ok_not, ok_asg, ok_gname, ok_drop, ok_call, ok_chain, ok_nx, ok_bk, ok_ct, ok_st, ok_yes, ok_tup, ok_ok, ok_stuck, ex_toD, ex_toL, ex_bl, ex_some, ex_bl1, fl_nx, fl_rt, fl_bk, fl_ct, rt_or, nx_or, mVar, ok1, gIsi, mIsi2, gIsi2, isTy2, isTy, Option.bind, bare, e_add, e_sub, e_int, e_lenS, e_lenT, e_lenL, e_lt, e_le, e_gt, e_ge, e_leC, e_ltC, e_isN, e_notN, e_pow,
  List.map_cons, List.map_nil, List.length_cons, List.length_nil, List.replicate_succ, List.replicate_zero, List.cons_append, List.nil_append, List.append_nil, List.getElem?_cons_zero, List.getElem?_cons_succ, List.set_cons_zero, List.set_cons_succ, Nat.reduceAdd, Nat.reduceSub, true_and, and_true, Bool.not_true, Bool.not_false, true_implies, forall_const, not_true_eq_false, false_implies, Bool.false_eq_true, not_false_eq_true, implies_true, eq_self, ne_eq, reduceCtorEq, Fl.rt.injEq, S.d.injEq, D.int.injEq, false_and, exists_false, or_false, false_or, exists_eq_left'])
local macro_rules | `(tactic| walk_at "wy") => `(tactic| try walk_at "wp")
local macro_rules | `(tactic| walk_at "we") => `(tactic| first | done | rfl | exact ⟨rfl, rfl⟩ | exact ⟨rfl, rfl, rfl⟩)
namespace Lib
/-! ways along arcs of least ways -/
/-! the program's spares -/
end Lib
end Fx
/-! the weight of a path, the least ones among the simple paths -/
namespace Fx.Lib
open PySem
/-- the weight of an arc -/
def wof (as : List (Nat × Nat)) (ws : List Int) (a : Nat × Nat) : Int := match as.findIdx? fun p => decide (p = a) with
  | some j => ws.getD j 0
  | none => 0
def cost (as : List (Nat × Nat)) (ws : List Int) (p : List Nat) : Int := ((List.range (p.length - 1)).map fun i => wof as ws (p.getD i 0, p.getD (i + 1) 0)).sum
end Fx.Lib
/-! the laws' least paths, on data -/
namespace Fx
open PySem
open PySem.W (dataLt dataLt_pair dataLt_int alike alike_ints)
local macro_rules | `(tactic| walk_at "wp") => `(tactic| simp only [okF_runF, okF_runL, ok_seq, ok_ret, ok_retN, ok_andV, ok_orV, ok_notV, ok_cb, ok_cons, ok_nil, ok_test, ok_dv, ok_op, ok_un, ok_c, ok_if, ok_ifS, ok_and, ok_or, ok_not, ok_asg, ok_gname, ok_drop, ok_call, ok_chain, ok_nx, ok_bk, ok_ct, ok_st, ok_yes, ok_tup, ok_ok, ok_stuck, ex_toD, ex_toL, ex_bl, ex_some, ex_bl1, fl_nx, fl_rt, fl_bk, fl_ct, rt_or, nx_or, mVar, ok1, gIsi, mIsi2, gIsi2, isTy2, isTy, Option.bind, bare, e_add, e_sub, e_int, e_lenS, e_lenT, e_lenL, e_lt, e_le, e_gt, e_ge, e_leC, e_ltC, e_isN, e_notN, e_pow,
  List.map_cons, List.map_nil, List.length_cons, List.length_nil, List.replicate_succ, List.replicate_zero, List.cons_append, List.nil_append, List.append_nil, List.getElem?_cons_zero, List.getElem?_cons_succ, List.set_cons_zero, List.set_cons_succ, Nat.reduceAdd, Nat.reduceSub, true_and, and_true, Bool.not_true, Bool.not_false, true_implies, forall_const, not_true_eq_false, false_implies, Bool.false_eq_true, not_false_eq_true, implies_true, eq_self, ne_eq, reduceCtorEq, Fl.rt.injEq, S.d.injEq, D.int.injEq, false_and, exists_false, or_false, false_or, exists_eq_left'])
local macro_rules | `(tactic| walk_at "wt") => `(tactic| simp (config := { contextual := false }) only [ok_row0, ok_row1, ok_row2, ok_row3, ok_put1, ok_put2, ok_put3, e_mod, e_div, e_mul, e_ixS, decide_true, decide_false, *, okF_runF, okF_runL, ok_seq, ok_ret, ok_retN, ok_andV, ok_orV, ok_notV, ok_cb, ok_cons, ok_nil, ok_test, ok_dv, ok_op, ok_un, ok_c, ok_if, ok_ifS, ok_and, ok_or, ok_not, ok_asg, ok_gname, ok_drop, ok_call, ok_chain, ok_nx, ok_bk, ok_ct, ok_st, ok_yes, ok_tup, ok_ok, ok_stuck, ex_toD, ex_toL, ex_bl, ex_some, ex_bl1, fl_nx, fl_rt, fl_bk, fl_ct, rt_or, nx_or, mVar, ok1, gIsi, mIsi2, gIsi2, isTy2, isTy, Option.bind, bare, e_add, e_sub, e_int, e_lenS, e_lenT, e_lenL, e_lt, e_le, e_gt, e_ge, e_leC, e_ltC, e_isN, e_notN, e_pow,
  List.map_cons, List.map_nil, List.length_cons, List.length_nil, List.replicate_succ, List.replicate_zero, List.cons_append, List.nil_append, List.append_nil, List.getElem?_cons_zero, List.getElem?_cons_succ, List.set_cons_zero, List.set_cons_succ, Nat.reduceAdd, Nat.reduceSub, true_and, and_true, Bool.not_true, Bool.not_false, true_implies, forall_const, not_true_eq_false, false_implies, Bool.false_eq_true, not_false_eq_true, implies_true, eq_self, ne_eq, reduceCtorEq, Fl.rt.injEq, S.d.injEq, D.int.injEq, false_and, exists_false, or_false, false_or, exists_eq_left'])
local macro_rules | `(tactic| walk_at "wy") => `(tactic| try walk_at "wp")
local macro_rules | `(tactic| walk_at "we") => `(tactic| first | done | rfl | exact ⟨rfl, rfl⟩ | exact ⟨rfl, rfl, rfl⟩)
end Fx
namespace Fx.Lib
open PySem
open PySem.W (dataLt dataLt_pair dataLt_int alike alike_ints)
local macro_rules | `(tactic| walk_at "wp") => `(tactic| simp only [okF_runF, okF_runL, ok_seq, ok_ret, ok_retN, ok_andV, ok_orV, ok_notV, ok_cb, ok_cons, ok_nil, ok_test, ok_dv, ok_op, ok_un, ok_c, ok_if, ok_ifS, ok_and, ok_or, ok_not, ok_asg, ok_gname, ok_drop, ok_call, ok_chain, ok_nx, ok_bk, ok_ct, ok_st, ok_yes, ok_tup, ok_ok, ok_stuck, ex_toD, ex_toL, ex_bl, ex_some, ex_bl1, fl_nx, fl_rt, fl_bk, fl_ct, rt_or, nx_or, mVar, ok1, gIsi, mIsi2, gIsi2, isTy2, isTy, Option.bind, bare, e_add, e_sub, e_int, e_lenS, e_lenT, e_lenL, e_lt, e_le, e_gt, e_ge, e_leC, e_ltC, e_isN, e_notN, e_pow,
  List.map_cons, List.map_nil, List.length_cons, List.length_nil, List.replicate_succ, List.replicate_zero, List.cons_append, List.nil_append, List.append_nil, List.getElem?_cons_zero, List.getElem?_cons_succ, List.set_cons_zero, List.set_cons_succ, Nat.reduceAdd, Nat.reduceSub, true_and, and_true, Bool.not_true, Bool.not_false, true_implies, forall_const, not_true_eq_false, false_implies, Bool.false_eq_true, not_false_eq_true, implies_true, eq_self, ne_eq, reduceCtorEq, Fl.rt.injEq, S.d.injEq, D.int.injEq, false_and, exists_false, or_false, false_or, exists_eq_left'])
local macro_rules | `(tactic| walk_at "wt") => `(tactic| simp (config := { contextual := false }) only [ok_row0, ok_row1, ok_row2, ok_row3, ok_put1, ok_put2, ok_put3, e_mod, e_div, e_mul, e_ixS, decide_true, decide_false, *, okF_runF, okF_runL, ok_seq, ok_ret, ok_retN, ok_andV, ok_orV, ok_notV, ok_cb, ok_cons, ok_nil, ok_test, ok_dv, ok_op, ok_un, ok_c, ok_if, ok_ifS, ok_and, ok_or, ok_not, ok_asg, ok_gname, ok_drop, ok_call, ok_chain, ok_nx, ok_bk, ok_ct, ok_st, ok_yes, ok_tup, ok_ok, ok_stuck, ex_toD, ex_toL, ex_bl, ex_some, ex_bl1, fl_nx, fl_rt, fl_bk, fl_ct, rt_or, nx_or, mVar, ok1, gIsi, mIsi2, gIsi2, isTy2, isTy, Option.bind, bare, e_add, e_sub, e_int, e_lenS, e_lenT, e_lenL, e_lt, e_le, e_gt, e_ge, e_leC, e_ltC, e_isN, e_notN, e_pow,
  List.map_cons, List.map_nil, List.length_cons, List.length_nil, List.replicate_succ, List.replicate_zero, List.cons_append, List.nil_append, List.append_nil, List.getElem?_cons_zero, List.getElem?_cons_succ, List.set_cons_zero, List.set_cons_succ, Nat.reduceAdd, Nat.reduceSub, true_and, and_true, Bool.not_true, Bool.not_false, true_implies, forall_const, not_true_eq_false, false_implies, Bool.false_eq_true, not_false_eq_true, implies_true, eq_self, ne_eq, reduceCtorEq, Fl.rt.injEq, S.d.injEq, D.int.injEq, false_and, exists_false, or_false, false_or, exists_eq_left'])
local macro_rules | `(tactic| walk_at "wy") => `(tactic| try walk_at "wp")
local macro_rules | `(tactic| walk_at "we") => `(tactic| first | done | rfl | exact ⟨rfl, rfl⟩ | exact ⟨rfl, rfl, rfl⟩)
end Fx.Lib
/-! what a taker gives, on data; slices of tuples -/
namespace Fx
open PySem Lib
def got : Out S → Option D
  | .ok (.d x) _ => some x
  | _ => none
end Fx
/-! graphs drawn, in the style of FxNl; costs of two numbers -/
namespace Fx.Nl
open PySem Lib
end Fx.Nl
namespace Fx.Lib
open PySem Nl
end Fx.Lib
/-! paths by their two sums; what is unbeaten -/
namespace Fx.Lib
open PySem Nl PySem.W
/-! ### the sums of a path -/
def s1 (cs : List (Int × Int)) : List Int := cs.map (·.1)
def s2 (cs : List (Int × Int)) : List Int := cs.map (·.2)
theorem zip_range (p : List Nat) : p.zip (p.drop 1) = (List.range (p.length - 1)).map fun i => (p.getD i 0, p.getD (i + 1) 0) := by
  refine List.ext_getElem? fun i => ?_
  rw [List.getElem?_map]
  by_cases hi : i < p.length - 1
  · rw [List.getElem?_range hi]
    refine List.getElem?_zip_eq_some.mpr ⟨?_, ?_⟩
    · show p[i]? = some (p.getD i 0)
      rw [List.getD_eq_getElem?_getD, List.getElem?_eq_getElem (by omega)]
      rfl
    · show (p.drop 1)[i]? = some (p.getD (i + 1) 0)
      rw [List.getElem?_drop, Nat.add_comm 1 i, List.getD_eq_getElem?_getD, List.getElem?_eq_getElem (by omega)]
      rfl
  · rw [List.getElem?_eq_none (by rw [List.length_zip, List.length_drop]; omega), List.getElem?_eq_none (by rw [List.length_range]; omega)]
    rfl
/-- both sums -/
def sm (as : List (Nat × Nat)) (cs : List (Int × Int)) (p : List Nat) : Nat × Nat := ((cost as (s1 cs) p).toNat, (cost as (s2 cs) p).toNat)
/-! ### what is unbeaten -/
structure Front (M : Nat × Nat → Prop) (U : List (Nat × Nat)) : Prop where
  sub : ∀ u ∈ U, M u
  all : ∀ t, M t → ∃ u ∈ U, u.1 ≤ t.1 ∧ u.2 ≤ t.2
  pw : U.Pairwise fun u v => u.1 < v.1 ∧ v.2 < u.2
def leN (u t : Nat × Nat) : Prop := u.1 < t.1 ∨ (u.1 = t.1 ∧ u.2 ≤ t.2)
theorem Front.nil : Front (fun _ => False) [] := ⟨fun u h => by simp at h, fun t h => h.elim, .nil⟩
theorem Front.step {M : Nat × Nat → Prop} {U : List (Nat × Nat)} (f : Front M U) {t : Nat × Nat} (hs : ∀ u, M u → leN u t) : (U = [] ∨ ∃ l, U.getLast? = some l ∧ t.2 < l.2) → Front (fun x => M x ∨ x = t) (U ++ [t]) := by
  intro h
  have lo : ∀ u ∈ U, t.2 < u.2 := by
    rcases h with rfl | ⟨l, hl, ht⟩
    · intro u hu; simp at hu
    · intro u hu
      obtain ⟨V, rfl⟩ : ∃ V, U = V ++ [l] := by
        obtain ⟨V, hV⟩ := List.getLast?_eq_some_iff.mp hl
        exact ⟨V, hV⟩
      rcases List.mem_append.mp hu with hu | hu
      · have := (List.pairwise_append.mp f.pw).2.2 u hu l (List.mem_singleton.mpr rfl)
        omega
      · rw [List.mem_singleton.mp hu]; exact ht
  refine ⟨fun u hu => ?_, fun x hx => ?_, ?_⟩
  · rcases List.mem_append.mp hu with hu | hu
    · exact .inl (f.sub u hu)
    · exact .inr (List.mem_singleton.mp hu)
  · rcases hx with hx | rfl
    · obtain ⟨u, hu, h1⟩ := f.all x hx
      exact ⟨u, List.mem_append_left _ hu, h1⟩
    · exact ⟨x, List.mem_append_right _ (List.mem_singleton.mpr rfl), Nat.le_refl _, Nat.le_refl _⟩
  · refine List.pairwise_append.mpr ⟨f.pw, List.pairwise_singleton _ _, fun u hu v hv => ?_⟩
    rw [List.mem_singleton.mp hv]
    have h1 := lo u hu
    refine ⟨?_, h1⟩
    rcases hs u (f.sub u hu) with z | ⟨_, z⟩
    · exact z
    · omega
theorem Front.skip {M : Nat × Nat → Prop} {U : List (Nat × Nat)} (f : Front M U) {t l : Nat × Nat} (hs : ∀ u, M u → leN u t) (hl : U.getLast? = some l) (h : ¬t.2 < l.2) : Front (fun x => M x ∨ x = t) U := by
  refine ⟨fun u hu => .inl (f.sub u hu), fun x hx => ?_, f.pw⟩
  rcases hx with hx | rfl
  · exact f.all x hx
  · have hm := List.mem_of_getLast? hl
    refine ⟨l, hm, ?_, by omega⟩
    rcases hs l (f.sub l hm) with z | ⟨z, _⟩
    · omega
    · omega
theorem Front.empty {M : Nat × Nat → Prop} {U : List (Nat × Nat)} (f : Front M U) : U = [] ↔ ∀ x, ¬M x := by
  constructor
  · rintro rfl x hx
    obtain ⟨u, hu, _⟩ := f.all x hx
    simp at hu
  · intro h
    cases U with
    | nil => rfl
    | cons u U => exact (h u (f.sub u List.mem_cons_self)).elim
/-! ### the least number of a list -/
end Fx.Lib
/-! readings of pairs of costs -/
namespace Fx.Nl
open PySem Lib
end Fx.Nl
namespace Fx.Lib
open PySem Nl
/-- a list of pairs in order -/
def fI (p : Nat × Nat) : List Int := [(p.1 : Int), (p.2 : Int)]
end Fx.Lib
/-! comprehensions and loops over data of any kind -/
namespace Fx.Nl
open PySem Lib
def EvI (f : M (List D)) (ρ : En) (xs : List D) : Prop := OK (f ρ) fun ys ρ1 => ys = xs ∧ ρ1 = ρ
def EvG (g : D → M Unit) (x : D) (ρ ρ1 : En) : Prop := OK (g x ρ) fun _ ρ2 => ρ2 = ρ1
section
variable {α β : Type} {ρ ρ1 : En} {i j k l : Nat} {x y z : D} {xs : List D} {fs fe fk fv fa fb : M S} {fA : M (List D)} {fI fI1 : M (List D)} {ft ft1 : M Bool} {gm gm1 : D → M Unit} {F : M Fl} {own own1 : List Nat} {PF : Fl → En → Prop}
theorem EvI.ok (h : EvI fI ρ xs) {P : List D → En → Prop} (q : P xs ρ) : OK (fI ρ) P := h.imp fun _ _ ⟨e1, e2⟩ => by rw [e1, e2]; exact q
theorem EvG.ok (h : EvG gm x ρ ρ1) {P : Unit → En → Prop} (q : P () ρ1) : OK (gm x ρ) P := h.imp fun _ _ e => by rw [e]; exact q
theorem ei_seq (h : Ev fs ρ x) (hx : itemsD x = some xs) : EvI (iSeq fs) ρ xs := by
  unfold EvI
  rw [ok_iseq]
  exact h.dv ⟨_, hx, rfl, rfl⟩
theorem eg_name : EvG (gmName i) x ρ (ρ.set i (some (.d x))) := by
  unfold EvG
  rw [ok_gname]
theorem eg_2 : EvG (gmTup 2 (gmCons (gmName i) (gmCons (gmName j) gmNil))) (.tup [x, y]) ρ ((ρ.set i (some (.d x))).set j (some (.d y))) := ok_gtup2 rfl
/-- [e for x in xs if t] -/
theorem lcG {emb : α → D} {ls : List α} {t : α → Bool} {f : α → D} {E : α → En} (hI : EvI fI ρ (ls.map emb)) (hw : wipeE ρ own = ρ) (hg : ∀ a ∈ ls, EvG gm (emb a) ρ (E a)) (tt : ∀ a ∈ ls, EvB ft (E a) (t a)) (ff : ∀ a ∈ ls, t a = true → Ev fe (E a) (f a)) (ww : ∀ a ∈ ls, wipeE (E a) own = ρ) (hs : ls.length ≤ 1000000) :
    Ev (mLc fI gm ft fe own) ρ (.lst ((ls.filter t).map f)) := by
  unfold Ev
  rw [ok_dv, ok_lc]
  refine hI.ok ?_
  rw [hw]
  refine ok_comp (I := fun k a ρ' => a = ((ls.take k).filter t).map f ∧ ρ' = ρ) (k := 0) ⟨by simp, rfl⟩ ?_ ?_
  · rintro k x a ρ' hx ⟨rfl, rfl⟩
    rw [Nat.zero_add]
    obtain ⟨p, hp, rfl⟩ : ∃ p, ls[k]? = some p ∧ emb p = x := by
      rw [List.getElem?_map] at hx
      exact Option.map_eq_some_iff.mp hx
    have hk : k < ls.length := (List.getElem?_eq_some_iff.mp hp).1
    have hle : ((ls.take k).filter t).length ≤ k := Nat.le_trans (List.length_filter_le _ _) (by rw [List.length_take]; omega)
    have e : ((ls.take (k + 1)).filter t).map f = ((ls.take k).filter t).map f ++ (if t p then [f p] else []) := by
      rw [List.take_add_one, hp, List.filter_append, List.map_append]
      congr 1
      show (List.filter t [p]).map f = _
      rw [List.filter_cons, List.filter_nil]
      split <;> rfl
    have hm := List.mem_of_getElem? hp
    refine (hg p hm).ok ((tt p hm).ok ⟨fun h => ?_, fun h => ?_⟩)
    · refine (ff p hm h).dv ⟨?_, ?_, ww p hm⟩
      · rw [List.length_map]
        exact decide_eq_true (by omega)
      · rw [e, if_pos h]
    · refine ⟨?_, ww p hm⟩
      rw [e, if_neg h, List.append_nil]
  · rintro a ρ' ⟨rfl, rfl⟩
    rw [Nat.zero_add, List.length_map, List.take_length]
    exact ⟨_, rfl, rfl, rfl⟩
/-- for x in xs: .. -/
theorem forG {emb : α → D} {ls : List α} {I : Nat → En → Prop} (hI : EvI fI ρ (ls.map emb)) (i0 : I 0 ρ) (st : ∀ k a ρ, ls[k]? = some a → I k ρ → ∃ ρ1, EvG gm (emb a) ρ ρ1 ∧ OK (F ρ1) (LP (I (k + 1)) PF)) (e : ∀ ρ, I ls.length ρ → PF .nx ρ) : OK (mFor fI gm F ρ) PF := by
  rw [ok_for]
  refine hI.ok (ok_loop (I := I) (k := 0) i0 (fun q x ρ hx hI => ?_) fun ρ hI => e ρ (by rw [Nat.zero_add, List.length_map] at hI; exact hI))
  rw [Nat.zero_add] at hI ⊢
  rw [List.getElem?_map] at hx
  obtain ⟨a, ha, rfl⟩ := Option.map_eq_some_iff.mp hx
  obtain ⟨ρ1, g, h⟩ := st q a ρ ha hI
  exact g.ok h
end
end Fx.Nl
/-! two orders of the same data are sorted alike -/
/-! tables on data: blocks -/
namespace Fx.Tb
open PySem Lib Nl
open PySem.W (dataLe alike alike_ints alikeAll)
section
variable {w m : Nat} {R : List Rl}
def hopsP (R : List Rl) (w : Nat) (p : List Nat) : List Int := (addrs (w - p.length)).map fun r => ((hop R (p ++ r) : Nat) : Int)
def un (R : List Rl) (w : Nat) (p : List Nat) : List Int := Rw.uniq (hopsP R w p)
theorem uniq_congr {ns ms : List Int} (h : ∀ k, k ∈ ns ↔ k ∈ ms) : Rw.uniq ns = Rw.uniq ms := Rw.srt_inj (Rw.srt_uniq ns).1 (Rw.srt_uniq ms).1 fun k => by
  rw [(Rw.srt_uniq ns).2, (Rw.srt_uniq ms).2]
  exact h k
end
end Fx.Tb
/-! updates on data: trees, rounds, heads, rings -/
namespace Fx.Up
open PySem Lib Nl Ring
abbrev ntT (p : List Nat) : D := .tup (nl p)
section
variable {T U : List Nat}
/-- an ascending round -/
def Rd (n : Nat) (L : List Nat) : Prop := L.Pairwise (· < ·) ∧ ∀ v ∈ L, 1 ≤ v ∧ v ≤ n
theorem Rd.len {n : Nat} {L : List Nat} (h : Rd n L) : L.length ≤ n := by
  have := nodup_le (n := n) (W := L.map fun v => v - 1) (by
    refine List.pairwise_map.mpr (List.Pairwise.imp_of_mem (fun {a b} ha hb hl e => ?_) h.1)
    have := h.2 a ha
    have := h.2 b hb
    omega) fun v hv => by
      obtain ⟨w, hw, rfl⟩ := List.mem_map.mp hv
      have := h.2 w hw
      omega
  rw [List.length_map] at this
  exact this
/-! heads -/
def two (a b : Nat) : List Nat := if a < b then [a, b] else if b < a then [b, a] else [a]
/-- the nodes to which a node is led at some moments -/
def hd (T U A B : List Nat) (v : Nat) : List Nat := if v = 0 then [] else if v ∈ B then two (nx T v) (nx U v) else [if v ∈ A then nx U v else nx T v]
end
end Fx.Up
/-! updates on data: the heads, rings of rounds, where hops lead -/
/-! updates on data: next hops are drawn -/
namespace Fx.Up
open PySem Lib Nl Ring
/-- what is known while hops are drawn -/
structure Dr (n : Nat) (L R F : List Nat) : Prop where
  perm : (R ++ L).Perm (List.range (n + 1))
  head : R[0]? = some 0
  len : F.length = n
  back : ∀ j v, 1 ≤ j → R[j]? = some v → ∃ i w, i < j ∧ R[i]? = some w ∧ F[v - 1]? = some w
theorem Dr.step {n x i w : Nat} {L R F : List Nat} (h : Dr n L R F) (hx : x < L.length) (hw : R[i]? = some w) : Dr n (L.eraseIdx x) (R ++ [L[x]]) (F.set (L[x] - 1) w) ∧ 1 ≤ L[x] ∧ L[x] ≤ n := by
  have nd := h.perm.nodup_iff.mpr List.nodup_range
  rw [List.nodup_append] at nd
  have hm : L[x] ∈ L := List.getElem_mem hx
  have hr : L[x] < n + 1 := List.mem_range.mp (h.perm.mem_iff.mp (List.mem_append_right _ hm))
  have h0 : (0 : Nat) ∈ R := List.mem_of_getElem? h.head
  have h1 : 1 ≤ L[x] := by
    have := nd.2.2 0 h0 L[x] hm
    omega
  refine ⟨⟨perm_pop h.perm hx, ?_, by rw [List.length_set]; exact h.len, fun j v hj e => ?_⟩, h1, by omega⟩
  · rw [List.getElem?_append_left (List.length_pos_of_mem h0)]
    exact h.head
  · rcases Nat.lt_or_ge j R.length with hl | hl
    · rw [List.getElem?_append_left hl] at e
      obtain ⟨i', w', a1, a2, a3⟩ := h.back j v hj e
      have hv : v ∈ R := List.mem_of_getElem? e
      have ne : v ≠ L[x] := nd.2.2 v hv L[x] hm
      have nv : v ≠ 0 := fun z => by
        have e1 : R[0]? = R[j]? := by rw [h.head, e, z]
        have := (List.getElem?_inj (List.length_pos_of_mem h0) nd.1).mp e1
        omega
      refine ⟨i', w', a1, by rw [List.getElem?_append_left (by omega)]; exact a2, ?_⟩
      rw [List.getElem?_set_ne (by omega)]
      exact a3
    · rw [List.getElem?_append_right hl] at e
      have ej : j - R.length = 0 := by
        have := (List.getElem?_eq_some_iff.mp e).1
        simp at this
        omega
      rw [ej] at e
      obtain rfl : L[x] = v := by simpa using e
      have hi : i < R.length := (List.getElem?_eq_some_iff.mp hw).1
      refine ⟨i, w, by omega, by rw [List.getElem?_append_left hi]; exact hw, ?_⟩
      rw [List.getElem?_set_self (by rw [h.len]; omega)]
end Fx.Up
/-! updates: where a packet is led, moments -/
namespace Fx.Up
open PySem Lib Nl Ring
/-- no hop leads out -/
def Fits (T : List Nat) : Prop := ∀ i v : Nat, T[i]? = some v → v ≤ T.length
section
variable {T U A B : List Nat} {n : Nat}
theorem Fits.le (h : Fits T) {v : Nat} : nx T v ≤ T.length := by
  cases v with
  | zero => exact Nat.zero_le _
  | succ i =>
    show (T[i]?).getD 0 ≤ _
    cases e : T[i]? with
    | none => exact Nat.zero_le _
    | some w => exact h i w e
def its (T : List Nat) (v m : Nat) : List Nat := (List.range m).map fun j => it T j v
theorem its_succ (T : List Nat) (v m : Nat) : its T v (m + 1) = its T v m ++ [it T m v] := by
  unfold its
  rw [List.range_succ, List.map_append]
  rfl
/-- what is known of the way after k turns -/
structure Led (T : List Nat) (v k m : Nat) : Prop where
  le : m ≤ k
  nz : ∀ j, j < m → it T j v ≠ 0
  nd : (its T v m).Nodup
  stop : m = k ∨ it T m v = 0 ∨ it T m v ∈ its T v m
def goB (T : List Nat) (v m : Nat) : Bool := !decide (it T m v = 0) && !decide (it T m v ∈ its T v m)
theorem Led.go {v k m : Nat} (h : Led T v k m) (g : goB T v m = true) : Led T v (k + 1) (m + 1) := by
  unfold goB at g
  simp only [Bool.and_eq_true, Bool.not_eq_true', decide_eq_false_iff_not] at g
  have e : m = k := by
    rcases h.stop with z | z | z
    · exact z
    · exact absurd z g.1
    · exact absurd z g.2
  refine ⟨by have := h.le; omega, fun j hj => ?_, ?_, .inl (by omega)⟩
  · rcases Nat.lt_or_ge j m with z | z
    · exact h.nz j z
    · rw [show j = m by omega]; exact g.1
  · rw [its_succ, List.nodup_append]
    exact ⟨h.nd, by simp, fun a ha b hb z => by rw [List.mem_singleton.mp hb] at z; exact g.2 (z ▸ ha)⟩
/-! moments -/
end
end Fx.Up
/-! updates: moments on data; a ring arises just if some moment leads a node round -/
/-! updates: what the laws draw and judge -/
namespace Fx.Up
open PySem Lib Nl Ring
section
variable {ρ : En} {ns : List Int} {a b c : Int} {o : Option Nat} {n : Nat} {T U A B : List Nat}
theorem ok_gtup4 {i j k l : Nat} {x y z w : D} {P : Unit → En → Prop} (h : P () ((((ρ.set i (some (.d x))).set j (some (.d y))).set k (some (.d z))).set l (some (.d w)))) : OK (gmTup 4 (gmCons (gmName i) (gmCons (gmName j) (gmCons (gmName k) (gmCons (gmName l) gmNil)))) (.tup [x, y, z, w]) ρ) P := ok_of h
/-- rounds that are drawn -/
structure DN (v : Nat) (A B : List Nat) : Prop where
  a : A.Pairwise (· < ·)
  b : B.Pairwise (· < ·)
  la : ∀ x ∈ A, 1 ≤ x ∧ x < v
  lb : ∀ x ∈ B, 1 ≤ x ∧ x < v
  dis : ∀ x ∈ B, x ∉ A
theorem asc_snoc {v : Nat} {L : List Nat} (h : L.Pairwise (· < ·)) (hl : ∀ x ∈ L, 1 ≤ x ∧ x < v) (p : Bool) : (L ++ if p then [v] else []).Pairwise (· < ·) := by
  cases p with
  | false => simpa using h
  | true =>
    rw [if_pos rfl, List.pairwise_append]
    exact ⟨h, List.pairwise_singleton _ _, fun x hx y hy => by rw [List.mem_singleton.mp hy]; exact (hl x hx).2⟩
theorem DN.step {v w : Nat} (h : DN v A B) (hv : 1 ≤ v) : DN (v + 1) (A ++ if decide (w = 0) then [v] else []) (B ++ if decide (w = 1) then [v] else []) := by
  have mem : ∀ {L : List Nat} {p : Bool} {x : Nat}, x ∈ (L ++ if p then [v] else []) → x ∈ L ∨ (p = true ∧ x = v) := fun {L p x} hx => by
    rcases List.mem_append.mp hx with hx | hx
    · exact .inl hx
    · cases p with
      | false => simp at hx
      | true => exact .inr ⟨rfl, by simpa using hx⟩
  refine ⟨asc_snoc h.a h.la _, asc_snoc h.b h.lb _, fun x hx => ?_, fun x hx => ?_, fun x hx hy => ?_⟩
  · rcases mem hx with z | ⟨_, z⟩
    · have := h.la x z; omega
    · omega
  · rcases mem hx with z | ⟨_, z⟩
    · have := h.lb x z; omega
    · omega
  · rcases mem hx with z | ⟨p, z⟩
    · rcases mem hy with z' | ⟨_, z'⟩
      · exact h.dis x z z'
      · have := h.lb x z; omega
    · rcases mem hy with z' | ⟨p', _⟩
      · have := h.la x z'; omega
      · simp only [decide_eq_true_eq] at p p'
        omega
/-- len(set(t)) -/
theorem setLenN {fe : Fx.M Fx.S} {L M : List Nat} (h : Ev fe ρ (ntT L)) (hl : L.length ≤ 1000) (nd : M.Nodup) (same : ∀ v, v ∈ L ↔ v ∈ M) : Ev (mUn gSetL fe) ρ (.int (M.length : Nat)) := by
  have en : ntT L = .tup ((L.map fun v : Nat => (v : Int)).map D.int) := by
    show D.tup (nl L) = _
    rw [List.map_map]
    rfl
  refine ev_un h ?_
  rw [en, setL_ints (by rw [List.length_map]; exact hl)]
  have e1 : Rw.uniq (L.map fun v : Nat => (v : Int)) = Rw.uniq (M.map fun v : Nat => (v : Int)) := Tb.uniq_congr fun k => by
    rw [List.mem_map, List.mem_map]
    exact ⟨fun ⟨v, hv, e⟩ => ⟨v, (same v).mp hv, e⟩, fun ⟨v, hv, e⟩ => ⟨v, (same v).mpr hv, e⟩⟩
  rw [e1, uniq_nd nd]
end
end Fx.Up
/-! dicts whose keys stand for something, as lists of entries -/
namespace Fx.Nl
open PySem Lib
structure KeyF {α : Type} (f : α → D) : Prop where
  is : (∀ a, isKey (f a) = true) ∨ ∀ a, isKeyT (f a) = true
  inj : ∀ a b, keyEq (f a) (f b) = true ↔ a = b
abbrev GL (α : Type) := List (α × D)
section
variable {α : Type} [DecidableEq α] {f : α → D} {kv : GL α} {a b : α} {x y : D}
abbrev gks (f : α → D) (kv : GL α) : List D := kv.map fun e => f e.1
def gD (f : α → D) (kv : GL α) : D := .dct (gks f kv) (kv.map (·.2))
def hasG (kv : GL α) (a : α) : Bool := kv.any fun e => decide (a = e.1)
def putG (kv : GL α) (a : α) (x : D) : GL α := if hasG kv a then kv.map fun e => (e.1, if a = e.1 then x else e.2) else kv ++ [(a, x)]
def getG (kv : GL α) (a : α) : Option D := (kv.find? fun e => decide (a = e.1)).map (·.2)
theorem KeyF.eq (h : KeyF f) : keyEq (f a) (f b) = decide (a = b) := by
  rw [Bool.eq_iff_iff, decide_eq_true_iff]
  exact h.inj a b
theorem homogG (h : KeyF f) : homog (gks f kv) (f a) = true := by
  rcases h.is with k | k
  · exact homog_of (.inl rfl) (by rw [List.all_map, List.all_eq_true]; exact fun e _ => k e.1) (k a)
  · exact homog_of (.inr rfl) (by rw [List.all_map, List.all_eq_true]; exact fun e _ => k e.1) (k a)
theorem anyG (h : KeyF f) : hasKey (gks f kv) (f a) = hasG kv a := by
  unfold hasKey hasG
  rw [List.any_map]
  congr 1
  funext e
  exact h.eq
theorem look_G (h : KeyF f) : look (gks f kv) (f a) (kv.map (·.2)) = getG kv a := by
  unfold look keyAt getG
  rw [List.findIdx?_map]
  have e : (keyEq (f a) ∘ fun e : α × D => f e.1) = fun e => decide (a = e.1) := by
    funext e
    exact h.eq
  rw [e, find_at]
  cases kv.findIdx? fun e => decide (a = e.1) with
  | none => rfl
  | some i =>
    show (kv.map (·.2))[i]? = (kv[i]?).map (·.2)
    rw [List.getElem?_map]
theorem put_G (h : KeyF f) : (putKs (gks f kv) (f a) (gks f kv) (f a)) = gks f (putG kv a x) ∧ putVs (gks f kv) (f a) (kv.map (·.2)) x = (putG kv a x).map (·.2) := by
  unfold putKs putVs putG
  rw [anyG h]
  cases hasG kv a with
  | true =>
    simp only [if_true, List.map_map]
    refine ⟨rfl, ?_⟩
    rw [List.zipWith_map, List.zipWith_self]
    refine List.map_congr_left fun e _ => ?_
    show (if keyEq (f a) (f e.1) = true then x else e.2) = if a = e.1 then x else e.2
    rw [h.eq]
    simp only [decide_eq_true_eq]
  | false =>
    simp only [Bool.false_eq_true, if_false, List.map_append]
    exact ⟨rfl, rfl⟩
variable {ρ : En} {i : Nat} {o : Option Nat} {fa fb fe fx : M S} {PU : Unit → En → Prop} {neg : Bool}
/-- d[k], d a value -/
theorem dgetG (h : KeyF f) (ha : Ev fa ρ (gD f kv)) (hb : Ev fb ρ (f a)) (e : getG kv a = some x) : Ev (mOp gDget fa fb) ρ x := ev_op ha hb (by
  show (if homog (gks f kv) (f a) then (look (gks f kv) (f a) (kv.map (·.2))).bind ok1 else none) = _
  rw [homogG h, look_G h, e]
  rfl)
theorem peekG (e : peek ρ i = some (gD f kv)) : peekD ρ i = true := by
  unfold peekD
  rw [e]
  rfl
/-- k in d, d a name -/
theorem inNG (h : KeyF f) (e : peek ρ i = some (gD f kv)) (ha : Ev fa ρ (f a)) : Ev (mInN neg fa i) ρ (.bl (if neg then !hasG kv a else hasG kv a)) := ev_of (by
  unfold mInN
  rw [ok_then]
  refine ha.dv ?_
  rw [e]
  dsimp only
  rw [show gInD neg (f a) (gD f kv) = some (.d (.bl (if neg then !hasG kv a else hasG kv a))) from by
    show (if homog (gks f kv) (f a) then ok1 (.bl (if neg then !hasKey (gks f kv) (f a) else hasKey (gks f kv) (f a))) else none) = _
    rw [homogG h, anyG h]
    rfl]
  dsimp only
  rw [ok_ok]
  exact ⟨rfl, rfl⟩)
/-- d[k], d a name -/
theorem dgetNG (h : KeyF f) (e : peek ρ i = some (gD f kv)) (hb : Ev fb ρ (f a)) (ex : getG kv a = some x) : Ev (mDgetN i fb) ρ x := ev_of (by
  unfold mDgetN
  rw [if_pos (peekG e), ok_then]
  refine hb.dv ?_
  rw [e]
  dsimp only
  rw [show gDget (gD f kv) (f a) = some (.d x) from by
    show (if homog (gks f kv) (f a) then (look (gks f kv) (f a) (kv.map (·.2))).bind ok1 else none) = _
    rw [homogG h, look_G h, ex]
    rfl]
  dsimp only
  rw [ok_ok]
  exact ⟨rfl, rfl⟩)
/-- d[k] = x, d a name's own -/
theorem gitemG (h : KeyF f) (e1 : ρ[i]? = some (some (.o o (gD f kv)))) (hb : Ev fe ρ (f a)) (hs : kv.length ≤ 1000000) (k : PU () (ρ.set i (some (.o o (gD f (putG kv a x)))))) : OK (gmItemD i fe x ρ) PU := by
  have pk : peekD ρ i = true := peekG (f := f) (kv := kv) (by unfold peek; rw [e1])
  unfold gmItemD
  rw [if_pos pk, ok_then]
  refine hb.dv ?_
  rw [e1]
  have hz : (homog (gks f kv) (f a) && small ((gks f kv).length + 1)) = true := by
    rw [homogG h, List.length_map]
    exact decide_eq_true (by omega)
  show OK (if homog (gks f kv) (f a) && small ((gks f kv).length + 1) then Out.ok () (ρ.set i (some (.o o (.dct (putKs (gks f kv) (f a) (gks f kv) (f a)) (putVs (gks f kv) (f a) (kv.map (·.2)) x))))) else .stuck) PU
  rw [if_pos hz, ok_ok, (put_G (x := x) h).1, (put_G (x := x) h).2]
  exact k
end
/-! keys: numbers; nested tuples -/
theorem keyN : KeyF (fun i : Nat => D.int (i : Nat)) := ⟨.inl fun _ => rfl, fun a b => by
  show decide ((a : Int) = b) = true ↔ _
  rw [decide_eq_true_iff]
  exact Int.ofNat_inj⟩
end Fx.Nl
/-! k95: the moves that are left, the ways, on data -/
namespace Fx.K95
open PySem Lib Nl
def mvD (U : List Ar) (a : Ar) : D := .tup [.int (fr U a : Nat), .int (to U a : Nat), .int (co U a), arcD a]
abbrev onesD (A : List Ar) : D := wsD (List.replicate A.length 1)
section
variable {n : Nat} {A U : List Ar} {ρ : En}
theorem moves_ok (hl : A.length ≤ 1000) (hu : U.length ≤ 1000) : OKF (f_moves [.d (graphD n A), .d (onesD A), .d (.tup (U.map arcD))]) fun s => s = .o none (.lst (A.map (mvD U))) := by
  unfold f_moves
  refine okF_runF.mpr ⟨rfl, ?_⟩
  show OK (b_moves [some (.d (graphD n A)), some (.d (onesD A)), some (.d (.tup (U.map arcD))), none, none, none, none]) _
  unfold b_moves
  refine sq (asgL ea_nil rfl ⟨rfl, ?_⟩)
  simp only [List.set_cons_succ, List.set_cons_zero]
  refine sqI ?_
  rw [ok_for]
  refine ok_izipT (xs := A.map arcD) (ys := (List.replicate A.length (1 : Int)).map D.int) (ev_fld (ev_var 0 rfl) rfl) (ev_var 1 rfl) zipOk_ints ?_
  rw [zipD_map]
  refine ok_loop (I := fun k ρ => ∃ x4 x5 x6, ρ = [some (.d (graphD n A)), some (.d (onesD A)), some (.d (.tup (U.map arcD))), some (.o none (.lst ((A.take k).map (mvD U)))), x4, x5, x6]) (k := 0) ⟨_, _, _, rfl⟩ ?_ ?_
  · rintro k z ρ hz ⟨x4, x5, x6, rfl⟩
    rw [Nat.zero_add]
    rw [List.getElem?_map] at hz
    obtain ⟨⟨a, w⟩, hw, rfl⟩ := Option.map_eq_some_iff.mp hz
    obtain ⟨ha, hw1⟩ := List.getElem?_zip_eq_some.mp hw
    have hw2 : w = 1 := by
      have := List.mem_of_getElem? hw1
      exact (List.mem_replicate.mp this).2
    subst hw2
    refine ok_gtupA ?_
    simp only [List.set_cons_succ, List.set_cons_zero]
    have et : (A.take (k + 1)).map (mvD U) = (A.take k).map (mvD U) ++ [mvD U a] := by
      rw [List.take_add_one, ha, List.map_append]
      rfl
    have ea : Ev (mTup (aCons (mVar 4) (aCons (mVar 5) aNil))) [some (.d (graphD n A)), some (.d (onesD A)), some (.d (.tup (U.map arcD))), some (.o none (.lst ((A.take k).map (mvD U)))), some (.d (.int (a.1 : Nat))), some (.d (.int (a.2 : Nat))), some (.d (.int 1))] (arcD a) := ev_tup (ea_cons (ev_var 4 rfl) (ea_cons (ev_var 5 rfl) ea_nil))
    have htl : ((A.take k).map (mvD U)).length ≤ 1000000 := by
      rw [List.length_map, List.length_take]
      omega
    refine ifB (eb_test (ev_op ea (ev_var (x := .tup (U.map arcD)) 2 rfl) (in_arcs (by omega)))) (fun hb => ?_) fun hb => ?_
    · have hm := of_decide_eq_true hb
      refine appE rfl (x := mvD U a) ?_ htl (fin ⟨_, _, _, by rw [et]; rfl⟩)
      have : mvD U a = .tup [.int (a.2 : Nat), .int (a.1 : Nat), .int (-1), arcD a] := by
        unfold mvD fr to co
        rw [if_pos hm, if_pos hm, if_pos hm]
      rw [this]
      exact ev_tup (ea_cons (ev_var 5 rfl) (ea_cons (ev_var 4 rfl) (ea_cons (ev_un (x := .int 1) (ev_var 6 rfl) rfl) (ea_cons ea ea_nil))))
    · have hm := of_decide_eq_false hb
      refine appE rfl (x := mvD U a) ?_ htl (fin ⟨_, _, _, by rw [et]; rfl⟩)
      have : mvD U a = .tup [.int (a.1 : Nat), .int (a.2 : Nat), .int 1, arcD a] := by
        unfold mvD fr to co
        rw [if_neg hm, if_neg hm, if_neg hm]
      rw [this]
      exact ev_tup (ea_cons (ev_var 4 rfl) (ea_cons (ev_var 5 rfl) (ea_cons (ev_var 6 rfl) (ea_cons ea ea_nil))))
  · rintro ρ ⟨x4, x5, x6, rfl⟩
    have e : (A.zip (List.replicate A.length (1 : Int))).length = A.length := by rw [List.length_zip, List.length_replicate, Nat.min_self]
    rw [List.length_map, e, Nat.zero_add, List.take_length]
    refine .inl ⟨rfl, ?_⟩
    unfold mRetO
    show OK (Out.ok (Fl.rt (Fx.S.o none (.lst (A.map (mvD U))))) _) _
    rw [ok_ok]
    exact .inl ⟨_, rfl, rfl⟩
end
end Fx.K95
/-! k95: the ways on data -/
namespace Fx.K95
open PySem Lib Nl
def wyD (x : Int × List Ar) : D := .tup [.int x.1, .tup (x.2.map arcD)]
def kvW (W : Wy) : GL Nat := W.map fun e => (e.1, wyD e.2)
abbrev kN : Nat → D := fun i => D.int (i : Nat)
def putW (W : Wy) (y : Nat) (x : Int × List Ar) : Wy := if W.any (fun e => decide (y = e.1)) then W.map (fun e => (e.1, if y = e.1 then x else e.2)) else W ++ [(y, x)]
theorem getG_kv : ∀ (W : Wy) (v : Nat), getG (kvW W) v = (getW W v).map wyD
  | [], v => rfl
  | e :: W, v => by
    have ih := getG_kv W v
    unfold getG getW kvW at ih ⊢
    rw [List.map_cons, List.find?_cons, List.find?_cons]
    by_cases h : v = e.1
    · simp [h]
    · simp only [h, decide_false]
      exact ih
theorem has_kv (W : Wy) (v : Nat) : hasG (kvW W) v = (getW W v).isSome := by
  unfold hasG kvW getW
  rw [List.any_map, Option.isSome_map]
  induction W with
  | nil => rfl
  | cons e W ih =>
    rw [List.any_cons, List.find?_cons, ih]
    by_cases h : v = e.1
    · simp [h]
    · simp [h]
theorem putG_kv (W : Wy) (y : Nat) (x : Int × List Ar) : putG (kvW W) y (wyD x) = kvW (putW W y x) := by
  have e : hasG (kvW W) y = W.any (fun e => decide (y = e.1)) := by
    unfold hasG kvW
    rw [List.any_map]
    rfl
  unfold putG putW
  rw [e]
  by_cases h : W.any (fun e => decide (y = e.1)) = true
  · rw [if_pos h, if_pos h]
    unfold kvW
    rw [List.map_map, List.map_map]
    refine List.map_congr_left fun e _ => ?_
    show (e.1, if y = e.1 then wyD x else wyD e.2) = (e.1, wyD (if y = e.1 then x else e.2))
    split <;> rfl
  · rw [if_neg h, if_neg h]
    unfold kvW
    rw [List.map_append]
    rfl
theorem getW_any (W : Wy) (y : Nat) : W.any (fun e => decide (y = e.1)) = (getW W y).isSome := by
  unfold getW
  rw [Option.isSome_map]
  induction W with
  | nil => rfl
  | cons e W ih =>
    rw [List.any_cons, List.find?_cons, ih]
    by_cases h : y = e.1
    · simp [h]
    · simp [h]
theorem getW_put (W : Wy) (y v : Nat) (x : Int × List Ar) : getW (putW W y x) v = upd (getW W) y x v := by
  unfold putW
  by_cases h : W.any (fun e => decide (y = e.1)) = true
  · rw [if_pos h]
    have hs := h
    rw [getW_any] at hs
    unfold upd
    by_cases e : v = y
    · subst e
      rw [if_pos rfl]
      clear hs
      induction W with
      | nil => cases h
      | cons a W ih =>
        unfold getW at ih ⊢
        rw [List.map_cons, List.find?_cons]
        by_cases k : v = a.1
        · simp [k]
        · have : W.any (fun e => decide (v = e.1)) = true := by simpa [k] using h
          simp only [k, decide_false, if_false]
          exact ih this
    · rw [if_neg e]
      clear h hs
      induction W with
      | nil => rfl
      | cons a W ih =>
        unfold getW at ih ⊢
        rw [List.map_cons, List.find?_cons, List.find?_cons]
        by_cases k : v = a.1
        · have : ¬ y = a.1 := fun z => e (k.trans z.symm)
          simp [k, this]
        · simp only [k, decide_false]
          exact ih
  · rw [if_neg h]
    have hn : getW W y = none := by
      cases hg : getW W y with
      | none => rfl
      | some z => rw [getW_any, hg] at h; exact absurd rfl h
    unfold upd
    unfold getW at hn ⊢
    rw [List.find?_append]
    by_cases e : v = y
    · subst e
      rw [if_pos rfl]
      have : W.find? (fun e => decide (v = e.1)) = none := by simpa using hn
      rw [this]
      simp
    · rw [if_neg e]
      cases W.find? (fun e => decide (v = e.1)) with
      | none => simp [e]
      | some z => rfl
/-! how often a way can be bettered -/
def mu (n : Nat) (g : Nat → Option (Int × List Ar)) (v : Nat) : Nat := match g v with
  | none => 2 * n + 1
  | some x => (x.1 + n).toNat
def muS (n : Nat) (g : Nat → Option (Int × List Ar)) : Nat := ((List.range n).map (mu n g)).sum
theorem sum_lt {f h : Nat → Nat} : ∀ {L : List Nat} {y : Nat}, y ∈ L → (∀ v ∈ L, h v ≤ f v) → h y < f y → (L.map h).sum < (L.map f).sum
  | a :: L, y, hy, hle, hlt => by
    have le : ∀ L : List Nat, (∀ v ∈ L, h v ≤ f v) → (L.map h).sum ≤ (L.map f).sum := fun L => by
      induction L with
      | nil => exact fun _ => Nat.le_refl _
      | cons b L ih =>
        intro k
        rw [List.map_cons, List.sum_cons, List.map_cons, List.sum_cons]
        have := ih fun v hv => k v (List.mem_cons_of_mem _ hv)
        have := k b List.mem_cons_self
        omega
    rw [List.map_cons, List.sum_cons, List.map_cons, List.sum_cons]
    rcases List.mem_cons.mp hy with rfl | hy
    · have := le L fun v hv => hle v (List.mem_cons_of_mem _ hv)
      omega
    · have := sum_lt hy (fun v hv => hle v (List.mem_cons_of_mem _ hv)) hlt
      have := hle a List.mem_cons_self
      omega
theorem muS_le (n : Nat) (g : Nat → Option (Int × List Ar)) (h : ∀ v c p, g v = some (c, p) → c ≤ n) : muS n g ≤ n * (2 * n + 1) := by
  unfold muS
  have : ∀ L : List Nat, (L.map (mu n g)).sum ≤ L.length * (2 * n + 1) := fun L => by
    induction L with
    | nil => simp
    | cons a L ih =>
      rw [List.map_cons, List.sum_cons, List.length_cons, Nat.add_mul]
      have : mu n g a ≤ 2 * n + 1 := by
        unfold mu
        cases hg : g a with
        | none => exact Nat.le_refl _
        | some x =>
          have := h a x.1 x.2 hg
          show (x.1 + n).toNat ≤ _
          omega
      omega
  have k := this (List.range n)
  rw [List.length_range] at k
  exact k
section
variable {A U : List Ar} {s n : Nat} {g : Nat → Option (Int × List Ar)}
theorem cost_abs : ∀ p : List Ar, cost U p ≤ p.length ∧ - (p.length : Int) ≤ cost U p
  | [] => ⟨Int.le_refl _, Int.le_refl _⟩
  | a :: p => by
    obtain ⟨h1, h2⟩ := cost_abs p
    rw [cost_cons, List.length_cons]
    have : co U a ≤ 1 ∧ -1 ≤ co U a := by
      unfold co
      split <;> omega
    omega
theorem BF.rng (h : BF A U s g) (hs : s < n) (hA : ∀ a ∈ A, a.1 < n ∧ a.2 < n) {v : Nat} {c : Int} {p : List Ar} (hv : g v = some (c, p)) : p.length < n ∧ c < n ∧ - (n : Int) < c := by
  have nd := h.nd _ _ _ hv
  have hl := Lib.nodup_len (n := n) nd fun i hi => by
    unfold nds at hi
    rcases List.mem_cons.mp hi with rfl | hi
    · exact hs
    · obtain ⟨a, ha, rfl⟩ := List.mem_map.mp hi
      have := hA a (h.sub _ _ _ hv a ha)
      unfold to
      split <;> omega
  unfold nds at hl
  rw [List.length_cons, List.length_map] at hl
  have := cost_abs (U := U) p
  have := h.cost _ _ _ hv
  omega
theorem mu_step (h : BF A U s g) {y : Nat} {x : Int × List Ar} (h2 : BF A U s (upd g y x)) (hs : s < n) (hA : ∀ a ∈ A, a.1 < n ∧ a.2 < n) (hy : y < n) (hlt : ∀ cy py, g y = some (cy, py) → x.1 < cy) : muS n (upd g y x) < muS n g := by
  have hx := h2.rng hs hA (v := y) (c := x.1) (p := x.2) (by unfold upd; exact if_pos rfl)
  refine sum_lt (y := y) (List.mem_range.mpr hy) (fun v _ => ?_) ?_
  · unfold mu upd
    by_cases e : v = y
    · subst e
      rw [if_pos rfl]
      cases hg : g v with
      | none => show (x.1 + n).toNat ≤ 2 * n + 1; omega
      | some z =>
        have := hlt z.1 z.2 hg
        show (x.1 + n).toNat ≤ (z.1 + n).toNat
        omega
    · rw [if_neg e]
      exact Nat.le_refl _
  · unfold mu upd
    rw [if_pos rfl]
    cases hg : g y with
    | none => show (x.1 + n).toNat < 2 * n + 1; omega
    | some z =>
      have := hlt z.1 z.2 hg
      have := h.rng hs hA hg
      show (x.1 + n).toNat < (z.1 + n).toNat
      omega
end
end Fx.K95
/-! nested tuples as keys of dicts -/
namespace Fx.Nl
open PySem
end Fx.Nl
/-! x == y, x an instance whose class has its own __eq__, y one of the same class or a tuple -/
/-! defs of choices and of their laws, on data (as k30 has them) -/
/-! trades on data: drawn -/
namespace Fx.Lib
open PySem Nl
/-- unlike as pairs without order -/
def apart (p q : Nat × Nat) : Prop := ¬(p.1 = q.1 ∧ p.2 = q.2) ∧ ¬(p.1 = q.2 ∧ p.2 = q.1)
theorem apart.symm {p q : Nat × Nat} (h : apart p q) : apart q p := ⟨fun ⟨a, b⟩ => h.1 ⟨a.symm, b.symm⟩, fun ⟨a, b⟩ => h.2 ⟨b.symm, a.symm⟩⟩
structure OkTrade (n : Nat) (C P : List (Nat × Nat)) : Prop where
  rng : ∀ p, p ∈ C ∨ p ∈ P → p.1 < n ∧ p.2 < n ∧ p.1 ≠ p.2
  c : C.Pairwise apart
  p : P.Pairwise apart
  cp : ∀ x ∈ C, ∀ y ∈ P, apart x y
theorem OkTrade.nil {n : Nat} : OkTrade n [] [] := ⟨fun p h => by simp at h, .nil, .nil, fun x h => by simp at h⟩
/-- pairs drawn ahead of (i, j) -/
def ahead (i j : Nat) (p : Nat × Nat) : Prop := (p.1 < p.2 ∧ (p.1 < i ∨ (p.1 = i ∧ p.2 < j))) ∨ (p.2 < p.1 ∧ (p.2 < i ∨ (p.2 = i ∧ p.1 < j)))
theorem ahead.next {i j : Nat} {p : Nat × Nat} (h : ahead i j p) : ahead i (j + 1) p := by
  unfold ahead at h ⊢
  omega
end Fx.Lib
/-! trades on data: made, their kinds -/
namespace Fx.Lib
open PySem Nl
def srt (p : Nat × Nat) : Nat × Nat := if p.1 ≤ p.2 then p else (p.2, p.1)
end Fx.Lib
/-! trades on data: their kinds, providers, rings of customers -/
namespace Fx.Lib
open PySem Nl Ring
end Fx.Lib
/-! defs of the program and of laws, on data -/
namespace Fx.Lib
open PySem PySem.Spec PyProof.Rows L2
end Fx.Lib
/-! trades on data: paths that are paid -/
namespace Fx.Lib
open PySem Nl
theorem getD_at {L : List Nat} {i : Nat} (h : i < L.length) : L[i]? = some (L.getD i 0) := by
  rw [List.getD_eq_getElem?_getD, List.getElem?_eq_getElem h]
  rfl
end Fx.Lib
/-! choices: paths, lists of paths, choices on data -/
namespace Fx.Ch
open PySem Lib Nl
structure OkPath (m v : Nat) (p : List Nat) : Prop where
  two : 2 ≤ p.length
  hd : p[0]? = some v
  lst : p.getLast? = some 0
  nd : p.Nodup
  le : ∀ x ∈ p, x ≤ m
def OkAt (m i : Nat) (P : List (List Nat)) : Prop := P.length ≤ 10 ∧ P.Nodup ∧ ∀ p ∈ P, OkPath m (i + 1) p
structure Fine (m : Nat) (L : List (List (List Nat))) : Prop where
  len : L.length = m
  at_ : ∀ i P, L[i]? = some P → OkAt m i P
theorem OkPath.len {m v : Nat} {p : List Nat} (h : OkPath m v p) : p.length ≤ m + 1 := nodup_len h.nd fun i hi => by have := h.le i hi; omega
/-! ### is_path -/
/-! ### enumerate from a start on -/
end Fx.Ch
/-! choices: choices made, refused -/
/-! choices: states, what a node takes -/
namespace Fx.Ch
open PySem Lib Nl
structure OkSt (L : List (List (List Nat))) (st : List (Option (List Nat))) : Prop where
  len : st.length = L.length
  at_ : ∀ (i : Nat) (p : List Nat), st[i]? = some (some p) → ∃ P : List (List Nat), L[i]? = some P ∧ p ∈ P
def fits (st : List (Option (List Nat))) (p : List Nat) : Bool := decide (p.getD 1 0 = 0) || decide (st.getD (p.getD 1 0 - 1) none = some (p.drop 1))
def takes (st : List (Option (List Nat))) (P : List (List Nat)) : Option (List Nat) := P.find? (fits st)
end Fx.Ch
/-! choices: lists drawn -/
namespace Fx.Ch
open PySem Lib Nl
theorem plA_pathsN {m : Nat} : ∀ (P : List (List Nat)), plA (m + 2) (P.map pathD) = true
  | [] => rfl
  | p :: P => by
    show (pl (m + 2) (pathD p) && plA (m + 2) (P.map pathD)) = true
    rw [plA_pathsN P, Bool.and_true]
    exact plA_nm (m := m) p
theorem pl_paths (P : List (List Nat)) : pl60 (.lst (P.map pathD)) = true := plA_pathsN (m := 57) P
end Fx.Ch
/-! choices: a state drawn, own == -/
namespace Fx.Ch
open PySem Lib Nl
theorem flat_rep {x : D} : ∀ n : Nat, (List.replicate n [x]).flatten = List.replicate n x
  | 0 => rfl
  | n + 1 => by
    rw [List.replicate_succ, List.replicate_succ, List.flatten_cons, flat_rep n]
    rfl
theorem evMulT {ρ : En} {fa fb : Fx.M Fx.S} {x : D} {n : Nat} (ha : Ev fa ρ x) (hb : Ev fb ρ (.int (n : Nat))) (hn : n ≤ 1000) : Ev (mOp gMulT (mTup (aCons fa aNil)) fb) ρ (.tup (List.replicate n x)) := ev_op (ev_tup (ea_cons ha ea_nil)) hb (by
  show (if !([x] : List D).isEmpty && decide (-1000 ≤ ((n : Nat) : Int)) && decide (((n : Nat) : Int) ≤ 1000) && decide (([x] : List D).length ≤ 1000) then ok1 (.tup (List.replicate ((n : Nat) : Int).toNat [x]).flatten) else none) = _
  rw [decide_eq_true (show (-1000 : Int) ≤ ((n : Nat) : Int) by omega), decide_eq_true (show ((n : Nat) : Int) ≤ 1000 by omega), Int.toNat_natCast, flat_rep]
  rfl)
/-! ### own == -/
theorem Fine.small {m : Nat} {L : List (List (List Nat))} (f : Fine m L) (hm : m ≤ 7) : ∀ P ∈ L, P.length ≤ 1000 ∧ ∀ p ∈ P, p.length ≤ 1000 := fun P hP => by
  obtain ⟨i, hi⟩ := List.getElem?_of_mem hP
  have := f.at_ i P hi
  exact ⟨by have := this.1; omega, fun p hp => by have := (this.2.2 p hp).len; omega⟩
end Fx.Ch
/-! disputes, numberings, runs of choices: numbers and lists alone -/
namespace Fx.Ch
abbrev Ls := List (List (List Nat))
abbrev St := List (Option (List Nat))
def at1 (L : Ls) (v : Nat) : List (List Nat) := L.getD (v - 1) []
/-- the disputes of one better path -/
def dispOf (L : Ls) (R : List Nat) : List (Nat × List Nat × List Nat) := ((List.range (R.length - 2)).filter fun c => decide (R.drop (c + 1) ∈ at1 L (R.getD (c + 1) 0))).map fun c => (R.getD (c + 1) 0, R.drop (c + 1), R.take (c + 2))
def disp (L : Ls) (v : Nat) (p : List Nat) : List (Nat × List Nat × List Nat) := ((at1 L v).take ((at1 L v).idxOf p + 1)).flatMap (dispOf L)
def Listed (L : Ls) (v : Nat) (p : List Nat) : Prop := 1 ≤ v ∧ v ≤ L.length ∧ p ∈ at1 L v
section
variable {m : Nat} {L : Ls} {order : List (Nat × List Nat)} {a b st : St}
theorem mem_at1 {i : Nat} {P : List (List Nat)} (e : L[i]? = some P) : at1 L (i + 1) = P := by
  unfold at1
  rw [Nat.add_sub_cancel, List.getD_eq_getElem?_getD, e]
  rfl
theorem Listed.get {v : Nat} {p : List Nat} (h : Listed L v p) : ∃ P, L[v - 1]? = some P ∧ p ∈ P ∧ at1 L v = P := by
  obtain ⟨h1, h2, h3⟩ := h
  refine ⟨L[v - 1]'(by omega), List.getElem?_eq_getElem _, ?_, ?_⟩
  · unfold at1 at h3
    rw [List.getD_eq_getElem?_getD, List.getElem?_eq_getElem (by omega)] at h3
    exact h3
  · unfold at1
    rw [List.getD_eq_getElem?_getD, List.getElem?_eq_getElem (by omega)]
    rfl
theorem Listed.ok (f : Fine m L) {v : Nat} {p : List Nat} (h : Listed L v p) : OkPath m v p := by
  obtain ⟨P, e, hp, _⟩ := h.get
  have := (f.at_ _ _ e).2.2 p hp
  rw [show v - 1 + 1 = v by have := h.1; omega] at this
  exact this
theorem OkSt.getD (h : OkSt L a) {i : Nat} {p : List Nat} (e : a.getD i none = some p) : Listed L (i + 1) p := by
  rw [List.getD_eq_getElem?_getD] at e
  cases ha : a[i]? with
  | none => rw [ha] at e; cases e
  | some o =>
    rw [ha] at e
    have e : o = some p := e
    subst e
    obtain ⟨P, e1, e2⟩ := h.at_ _ _ ha
    refine ⟨by omega, ?_, ?_⟩
    · have := (List.getElem?_eq_some_iff.mp e1).1
      omega
    · rw [mem_at1 e1]
      exact e2
theorem mem_dispOf {R : List Nat} {t : Nat × List Nat × List Nat} : t ∈ dispOf L R ↔ ∃ c, c + 2 < R.length ∧ R.drop (c + 1) ∈ at1 L (R.getD (c + 1) 0) ∧ t = (R.getD (c + 1) 0, R.drop (c + 1), R.take (c + 2)) := by
  unfold dispOf
  simp only [List.mem_map, List.mem_filter, List.mem_range, decide_eq_true_eq]
  constructor
  · rintro ⟨c, ⟨h1, h2⟩, rfl⟩
    exact ⟨c, by omega, h2, rfl⟩
  · rintro ⟨c, h1, h2, rfl⟩
    exact ⟨c, ⟨by omega, h2⟩, rfl⟩
/-- the inner nodes of a path are nodes that take paths -/
theorem inner_pos {v : Nat} {R : List Nat} (h : OkPath m v R) {c : Nat} (hc : c + 2 < R.length) : 1 ≤ R.getD (c + 1) 0 ∧ R.getD (c + 1) 0 ≤ m := by
  have e : R[c + 1]? = some (R.getD (c + 1) 0) := by
    rw [List.getD_eq_getElem?_getD, List.getElem?_eq_getElem (by omega)]
    rfl
  refine ⟨?_, h.le _ (List.mem_of_getElem? e)⟩
  rcases Nat.eq_zero_or_pos (R.getD (c + 1) 0) with h0 | h0
  · rw [h0] at e
    have el : R[R.length - 1]? = some 0 := by
      rw [← List.getLast?_eq_getElem?]
      exact h.lst
    have := (List.getElem?_inj (by omega) h.nd).mp (e.trans el.symm)
    omega
  · exact h0
theorem disp_listed (f : Fine m L) {v : Nat} {p : List Nat} {t : Nat × List Nat × List Nat} (hv : Listed L v p) (h : t ∈ disp L v p) : Listed L t.1 t.2.1 := by
  obtain ⟨P, e, hp, eP⟩ := hv.get
  unfold disp at h
  obtain ⟨R, hR, ht⟩ := List.mem_flatMap.mp h
  have hR' : Listed L v R := ⟨hv.1, hv.2.1, List.mem_of_mem_take hR⟩
  obtain ⟨c, h1, h2, rfl⟩ := mem_dispOf.mp ht
  have := inner_pos (hR'.ok f) h1
  exact ⟨this.1, by rw [f.len]; exact this.2, h2⟩
end
end Fx.Ch
/-! all states of choices in order, and what a search by fixed paths finds: numbers and lists alone -/
namespace Fx.Ch
def opts (P : List (List Nat)) : List (Option (List Nat)) := P.map some ++ [none]
def prodL : Ls → List St
  | [] => [[]]
  | P :: L => (opts P).flatMap fun o => (prodL L).map (o :: ·)
theorem opts_nd {P : List (List Nat)} (h : P.Nodup) : (opts P).Nodup := by
  unfold opts
  rw [List.nodup_append]
  refine ⟨List.nodup_iff_pairwise_ne.mpr ((List.pairwise_map).mpr ((List.nodup_iff_pairwise_ne.mp h).imp fun h e => h (Option.some.inj e))), by simp, fun a ha b hb e => ?_⟩
  obtain ⟨p, _, rfl⟩ := List.mem_map.mp ha
  rw [List.mem_singleton.mp hb] at e
  cases e
/-- of a flatMap over different things only one is left -/
theorem flatMap_one {α β : Type} [DecidableEq α] {g : α → List β} {a : α} : ∀ {l : List α}, l.Nodup → a ∈ l → (∀ x ∈ l, x ≠ a → g x = []) → l.flatMap g = g a
  | [], _, h, _ => by cases h
  | x :: l, nd, h, hg => by
    rw [List.nodup_cons] at nd
    rw [List.flatMap_cons]
    by_cases e : x = a
    · subst e
      rw [List.flatMap_eq_nil_iff.mpr fun y hy => hg y (List.mem_cons_of_mem _ hy) fun z => nd.1 (z ▸ hy), List.append_nil]
    · rw [hg x List.mem_cons_self e, List.nil_append]
      exact flatMap_one nd.2 ((List.mem_cons.mp h).resolve_left fun z => e z.symm) fun y hy => hg y (List.mem_cons_of_mem _ hy)
theorem flatMap_nilL {α β : Type} {g : α → List β} {l : List α} (h : ∀ x ∈ l, g x = []) : l.flatMap g = [] := List.flatMap_eq_nil_iff.mpr h
theorem flatMap_congrL {α β : Type} {f g : α → List β} {l : List α} (h : ∀ x ∈ l, f x = g x) : l.flatMap f = l.flatMap g := by
  induction l with
  | nil => rfl
  | cons x l ih =>
    rw [List.flatMap_cons, List.flatMap_cons, h x List.mem_cons_self, ih fun y hy => h y (List.mem_cons_of_mem _ hy)]
theorem split0 {P : List (List Nat)} {L : Ls} (nd : P.Nodup) (F : St → Bool) {o : Option (List Nat)} (ho : o ∈ opts P) : (prodL (P :: L)).filter (fun s => F s && (s.getD 0 none == o)) = ((prodL L).map (o :: ·)).filter F := by
  show ((opts P).flatMap _).filter _ = _
  rw [List.filter_flatMap, flatMap_one (a := o) (opts_nd nd) ho]
  · refine List.filter_congr fun s hs => ?_
    obtain ⟨t, _, rfl⟩ := List.mem_map.mp hs
    show (F (o :: t) && (o == o)) = _
    rw [beq_self_eq_true, Bool.and_true]
  · intro x _ hx
    refine List.filter_eq_nil_iff.mpr fun s hs e => ?_
    obtain ⟨t, _, rfl⟩ := List.mem_map.mp hs
    have e : (F (x :: t) && (x == o)) = true := e
    rw [Bool.and_eq_true] at e
    exact hx (eq_of_beq e.2)
theorem split : ∀ (i : Nat) {L : Ls} (F : St → Bool), i < L.length → (∀ P ∈ L, P.Nodup) → (∀ s ∈ prodL L, ∀ t ∈ prodL L, F s = true → F t = true → ∀ j, j < i → s.getD j none = t.getD j none) → (prodL L).filter F = (opts (L.getD i [])).flatMap fun o => (prodL L).filter fun s => F s && (s.getD i none == o)
  | _, [], _, hi, _, _ => absurd hi (Nat.not_lt_zero _)
  | 0, P :: L, F, _, nd, _ => by
    show ((opts P).flatMap _).filter F = (opts P).flatMap _
    rw [List.filter_flatMap]
    exact flatMap_congrL fun o ho => (split0 (nd P List.mem_cons_self) F ho).symm
  | i + 1, P :: L, F, hi, nd, h => by
    have hP := nd P List.mem_cons_self
    rw [show (P :: L).getD (i + 1) [] = L.getD i [] from rfl]
    by_cases hx : ∃ s ∈ prodL (P :: L), F s = true
    · obtain ⟨s, hs, hF⟩ := hx
      obtain ⟨c, hc, hs'⟩ := List.mem_flatMap.mp (show s ∈ (opts P).flatMap _ from hs)
      obtain ⟨t, ht, rfl⟩ := List.mem_map.mp hs'
      have one : ∀ G : St → Bool, (∀ u, G u = true → F u = true) → (prodL (P :: L)).filter G = ((prodL L).filter fun u => G (c :: u)).map (c :: ·) := fun G hG => by
        have e1 : (prodL (P :: L)).filter G = (prodL (P :: L)).filter fun u => G u && (u.getD 0 none == c) := List.filter_congr fun u hu => by
          cases hg : G u with
          | false => rfl
          | true =>
            rw [Bool.true_and]
            exact (beq_iff_eq.mpr (h u hu _ hs (hG u hg) hF 0 (by omega))).symm
        rw [e1, split0 hP G hc, List.filter_map]
        rfl
      rw [one F fun u hu => hu]
      have ih := split i (L := L) (fun u => F (c :: u)) (by simpa using hi) (fun Q hQ => nd Q (List.mem_cons_of_mem _ hQ)) fun u hu v hv hFu hFv j hj => by
        have := h (c :: u) (List.mem_flatMap.mpr ⟨c, hc, List.mem_map.mpr ⟨u, hu, rfl⟩⟩) (c :: v) (List.mem_flatMap.mpr ⟨c, hc, List.mem_map.mpr ⟨v, hv, rfl⟩⟩) hFu hFv (j + 1) (by omega)
        exact this
      rw [ih, List.map_flatMap]
      refine flatMap_congrL fun o _ => ?_
      rw [one (fun s => F s && (s.getD (i + 1) none == o)) fun u hu => (Bool.and_eq_true_iff.mp hu).1]
      rfl
    · have e1 : ∀ G : St → Bool, (∀ u, G u = true → F u = true) → (prodL (P :: L)).filter G = [] := fun G hG => List.filter_eq_nil_iff.mpr fun u hu e => hx ⟨u, hu, hG u e⟩
      rw [e1 F fun u hu => hu]
      exact (flatMap_nilL fun o _ => e1 _ fun u hu => (Bool.and_eq_true_iff.mp hu).1).symm
/-! fixed paths -/
abbrev Fxd := List (Nat × Option (List Nat))
def lkp (v : Nat) : Fxd → Option (Option (List Nat))
  | [] => none
  | (u, o) :: f => if u = v then some o else lkp v f
theorem lkp_app : ∀ {f g : Fxd} {v : Nat}, lkp v (f ++ g) = (match lkp v f with | some o => some o | none => lkp v g)
  | [], _, _ => rfl
  | (u, x) :: f, g, v => by
    show (if u = v then some x else lkp v (f ++ g)) = (match (if u = v then some x else lkp v f) with | some o => some o | none => lkp v g)
    by_cases e : u = v
    · rw [if_pos e, if_pos e]
    · rw [if_neg e, if_neg e]
      exact lkp_app
def val (s : St) (v : Nat) : Option (List Nat) := s.getD (v - 1) none
def pl (P : List (List Nat)) : Option (List Nat) → Nat
  | none => P.length
  | some p => P.idxOf p
structure Good (L : Ls) (f : Fxd) : Prop where
  nd : (f.map (·.1)).Nodup
  rng : ∀ v o, (v, o) ∈ f → 1 ≤ v ∧ v ≤ L.length
  ls : ∀ v p, (v, some p) ∈ f → p ∈ at1 L v
  cl : ∀ v p, (v, some p) ∈ f → p.getD 1 0 = 0 ∨ lkp (p.getD 1 0) f = some (some (p.drop 1))
section
variable {m : Nat} {L : Ls} {f g : Fxd} {s : St}
theorem Good.nil : Good L [] := ⟨List.nodup_nil, fun _ _ h => (nomatch h), fun _ _ h => (nomatch h), fun _ _ h => (nomatch h)⟩
theorem Good.none {v : Nat} (h : Good L f) (h1 : 1 ≤ v) (h2 : v ≤ L.length) (hv : v ∉ f.map (·.1)) : Good L (f ++ [(v, none)]) := by
  refine ⟨?_, fun u o hu => ?_, fun u p hu => ?_, fun u p hu => ?_⟩
  · rw [List.map_append, List.nodup_append]
    refine ⟨h.nd, by simp, fun x hx y hy e => ?_⟩
    simp only [List.map_cons, List.map_nil, List.mem_singleton] at hy
    rw [e, hy] at hx
    exact hv hx
  · rcases List.mem_append.mp hu with q | q
    · exact h.rng u o q
    · cases List.mem_singleton.mp q
      exact ⟨h1, h2⟩
  · rcases List.mem_append.mp hu with q | q
    · exact h.ls u p q
    · cases List.mem_singleton.mp q
  · rcases List.mem_append.mp hu with q | q
    · refine (h.cl u p q).imp_right fun e => ?_
      rw [lkp_app, e]
    · cases List.mem_singleton.mp q
end
end Fx.Ch
/-! the search, step by step -/
namespace Fx.Ch
def stB (L : Ls) (s : St) : Bool := (List.range L.length).all fun i => takes s (L.getD i []) == s.getD i none
def extB (f : Fxd) (s : St) : Bool := f.all fun x => val s x.1 == x.2
def goal (L : Ls) (f : Fxd) : List St := (prodL L).filter fun s => extB f s && stB L s
section
variable {m : Nat} {L : Ls} {f g : Fxd} {s : St}
theorem Fine.nd (fi : Fine m L) : ∀ P ∈ L, P.Nodup := fun P hP => by
  obtain ⟨i, e⟩ := List.getElem?_of_mem hP
  exact (fi.at_ _ _ e).2.1
/-! how far a search goes -/
def free (m : Nat) (f : Fxd) : List Nat := (List.range m).filterMap fun i => if i + 1 ∈ f.map (·.1) then none else some (i + 1)
end
end Fx.Ch
/-! more defs of choices and of their laws, on data -/
/-! disputes, on data -/
/-! the stripping of pairs without a dispute: lists alone -/
namespace Fx.Ch
abbrev Pr := Nat × List Nat
def enumL : Nat → Ls → List (Nat × List (List Nat))
  | _, [] => []
  | k, P :: L => (k, P) :: enumL (k + 1) L
def prs (L : Ls) : List Pr := (enumL 1 L).flatMap fun q => q.2.map fun p => (q.1, p)
def goes (L : Ls) (S : List Pr) (q : Pr) : List (Nat × List Nat × List Nat) := (disp L q.1 q.2).filter fun t => decide ((t.1, t.2.1) ∈ S)
def rdy (L : Ls) (S : List Pr) : List Pr := S.filter fun q => (goes L S q).isEmpty
def stay (L : Ls) (S : List Pr) : List Pr := S.filter fun q => !decide (q ∈ rdy L S)
theorem mem_enumL : ∀ {L : Ls} {k v : Nat} {P : List (List Nat)}, (v, P) ∈ enumL k L ↔ k ≤ v ∧ L[v - k]? = some P
  | [], k, v, P => by simp [enumL]
  | Q :: L, k, v, P => by
    unfold enumL
    rw [List.mem_cons, mem_enumL]
    constructor
    · rintro (e | ⟨h1, h2⟩)
      · cases e
        refine ⟨Nat.le_refl _, ?_⟩
        rw [Nat.sub_self]
        rfl
      · refine ⟨by omega, ?_⟩
        rw [show v - k = v - (k + 1) + 1 by omega]
        exact h2
    · rintro ⟨h1, h2⟩
      rcases Nat.eq_or_lt_of_le h1 with e | e
      · left
        subst e
        rw [Nat.sub_self] at h2
        cases h2
        rfl
      · right
        refine ⟨e, ?_⟩
        rw [show v - k = v - (k + 1) + 1 by omega] at h2
        exact h2
theorem mem_prs {L : Ls} {v : Nat} {p : List Nat} : (v, p) ∈ prs L ↔ Listed L v p := by
  unfold prs
  rw [List.mem_flatMap]
  constructor
  · rintro ⟨⟨u, P⟩, h1, h2⟩
    obtain ⟨q, hq, e⟩ := List.mem_map.mp h2
    cases e
    obtain ⟨h3, h4⟩ := mem_enumL.mp h1
    have hl := (List.getElem?_eq_some_iff.mp h4).1
    refine ⟨h3, by omega, ?_⟩
    unfold at1
    rw [List.getD_eq_getElem?_getD, h4]
    exact hq
  · intro h
    obtain ⟨P, e, hp, _⟩ := h.get
    exact ⟨(v, P), mem_enumL.mpr ⟨h.1, e⟩, List.mem_map.mpr ⟨p, hp, rfl⟩⟩
theorem enumL_lt : ∀ {L : Ls} {k : Nat}, (enumL k L).Pairwise fun a b => a.1 < b.1
  | [], _ => List.Pairwise.nil
  | P :: L, k => by
    unfold enumL
    refine List.Pairwise.cons (fun b hb => ?_) enumL_lt
    have := (mem_enumL.mp (show (b.1, b.2) ∈ _ from hb)).1
    exact this
theorem prs_nd {m : Nat} {L : Ls} (f : Fine m L) : (prs L).Nodup := by
  unfold prs
  rw [List.nodup_iff_pairwise_ne, List.pairwise_flatMap]
  refine ⟨fun q hq => List.pairwise_map.mpr ?_, enumL_lt.imp fun {a b} hab x hx y hy e => ?_⟩
  · have h4 := (mem_enumL.mp (show (q.1, q.2) ∈ _ from hq)).2
    exact (List.nodup_iff_pairwise_ne.mp (f.at_ _ _ h4).2.1).imp fun h e => h (Prod.ext_iff.mp e).2
  · obtain ⟨_, _, rfl⟩ := List.mem_map.mp hx
    obtain ⟨_, _, rfl⟩ := List.mem_map.mp hy
    have := (Prod.ext_iff.mp e).1
    dsimp only at this
    omega
theorem mem_rdy {L : Ls} {S : List Pr} {q : Pr} : q ∈ rdy L S ↔ q ∈ S ∧ ∀ t ∈ disp L q.1 q.2, (t.1, t.2.1) ∉ S := by
  unfold rdy goes
  rw [List.mem_filter, List.isEmpty_iff, List.filter_eq_nil_iff]
  simp
structure Str (L : Ls) (S o : List Pr) : Prop where
  nd : (o ++ S).Nodup
  mem : ∀ q, q ∈ o ++ S ↔ q ∈ prs L
  back : ∀ (k v : Nat) (p : List Nat), o[k]? = some (v, p) → ∀ t ∈ disp L v p, ∃ j : Nat, j < k ∧ o[j]? = some (t.1, t.2.1)
  sub : S.Sublist (prs L)
theorem Str.step {m : Nat} {L : Ls} {S o : List Pr} (f : Fine m L) (h : Str L S o) : Str L (stay L S) (o ++ rdy L S) := by
  have nd := List.nodup_append.mp h.nd
  have hmem : ∀ q, q ∈ rdy L S ∨ q ∈ stay L S ↔ q ∈ S := fun q => by
    unfold stay
    rw [List.mem_filter]
    constructor
    · rintro (a | a)
      · exact (mem_rdy.mp a).1
      · exact a.1
    · intro a
      by_cases b : q ∈ rdy L S
      · exact .inl b
      · exact .inr ⟨a, by simp [b]⟩
  refine ⟨?_, fun q => ?_, fun k v p hk t ht => ?_, List.Sublist.trans List.filter_sublist h.sub⟩
  · rw [List.append_assoc, List.nodup_append, List.nodup_append]
    refine ⟨nd.1, ⟨List.Nodup.sublist List.filter_sublist nd.2.1, List.Nodup.sublist List.filter_sublist nd.2.1, fun x hx y hy e => ?_⟩, fun x hx y hy => nd.2.2 x hx y ((hmem y).mp (List.mem_append.mp hy))⟩
    subst e
    have := (List.mem_filter.mp hy).2
    simp [hx] at this
  · rw [List.append_assoc, List.mem_append, List.mem_append, hmem, ← h.mem q, List.mem_append]
  · have hin : ∀ k' v' p', o[k']? = some (v', p') → (o ++ rdy L S)[k']? = some (v', p') := fun k' v' p' e => by
      rw [List.getElem?_append_left (List.getElem?_eq_some_iff.mp e).1]
      exact e
    by_cases hlt : k < o.length
    · rw [List.getElem?_append_left hlt] at hk
      obtain ⟨j, hj, e⟩ := h.back k v p hk t ht
      exact ⟨j, hj, hin _ _ _ e⟩
    · rw [List.getElem?_append_right (by omega)] at hk
      obtain ⟨hS, hn⟩ := mem_rdy.mp (List.mem_of_getElem? hk)
      have hl : Listed L v p := mem_prs.mp ((h.mem _).mp (List.mem_append_right _ hS))
      have ht' := disp_listed f hl ht
      have := (h.mem _).mpr (mem_prs.mpr ht')
      rcases List.mem_append.mp this with z | z
      · obtain ⟨j, hj⟩ := List.getElem?_of_mem z
        exact ⟨j, by have := (List.getElem?_eq_some_iff.mp hj).1; omega, hin _ _ _ hj⟩
      · exact absurd z (hn t ht)
theorem Str.one {m : Nat} {L : Ls} (f : Fine m L) : Str L (prs L) [] := ⟨prs_nd f, fun q => by rw [List.nil_append], fun k v p e => by simp at e, List.Sublist.refl _⟩
end Fx.Ch
/-! pairs and their numbering, on data -/
namespace Fx.Nl
open PySem
/-- what is answered, as a value -/
def Ret (o : Out S) (x : D) : Prop := OKF o fun s => toD s = some x
theorem Ret.d {o : Out S} {x : D} (h : OKF o fun s => s = .d x) : Ret o x := h.imp fun s e => by rw [e]; rfl
theorem Ret.o {o : Out S} {x : D} (h : OKF o fun s => s = .o none x) (hc : canFz x = true) : Ret o x := h.imp fun s e => by
  rw [e]
  show (if canFz x then some x else none) = _
  rw [if_pos hc]
end Fx.Nl
/-! wheels, on data -/
namespace Fx.Nl
open PySem
end Fx.Nl
namespace Fx.Ch
open PySem Lib Nl
abbrev Tr := Nat × List Nat × List Nat
/-- the first dispute that goes on among what is left -/
def fst (L : Ls) (S : List Pr) (q : Pr) : Tr := (goes L S q).headD (0, [], [])
end Fx.Ch
/-! the search for stable states, on data -/
namespace Fx.Nl
open PySem
open PySem.W (dataLt dataLt_int alike)
section
variable {ρ : En} {fe fd fa fb fr : M S} {fA : M (List D)} {xs ys : List D}
theorem ea_star {x : D} (h : Ev fa ρ x) (hx : itemsD x = some xs) (k : EvA fA ρ ys) : EvA (aStar fa fA) ρ (xs ++ ys) := by
  unfold EvA aStar
  rw [ok_then]
  refine h.dv ?_
  rw [hx]
  dsimp only
  rw [ok_then]
  refine k.ok ?_
  rw [ok_ok]
  exact ⟨rfl, rfl⟩
end
end Fx.Nl
/-! k95: the ways are found, on data -/
namespace Fx.K95
open PySem Lib Nl
theorem putW_len (W : Wy) (y : Nat) (x : Int × List Ar) : (putW W y x).length ≤ W.length + 1 := by
  unfold putW
  split
  · rw [List.length_map]
    omega
  · rw [List.length_append]
    exact Nat.le_refl _
theorem hkl {g : Nat → Option (Int × List Ar)} {n : Nat} (W : Wy) (h : W.length + muS n g ≤ 1000) : (kvW W).length ≤ 1000000 := by
  have : (kvW W).length = W.length := List.length_map _
  omega
section
variable {n s : Nat} {A U : List Ar} {φ : Nat → Int} {ρ : En}
/-- may a way be bettered along an arc -/
def btr (W : Wy) (U : List Ar) (a : Ar) : Bool := match getW W (fr U a) with
  | none => false
  | some x => match getW W (to U a) with
    | none => true
    | some y => decide (x.1 + co U a < y.1)
theorem ways_ok (o : OkArcs n A) (hl : A.length ≤ 1000) (hu : U.length ≤ 1000) (hφ : Pot A U φ) (hs : s < n) (hn : n ≤ 7) : OKF (f_ways [.d (graphD n A), .d (onesD A), .d (.tup (U.map arcD)), .d (.int (s : Nat))]) fun r => ∃ W : Wy, r = .o none (gD kN (kvW W)) ∧ BF A U s (getW W) ∧ Done A U (getW W) := by
  have hA : ∀ a ∈ A, a.1 < n ∧ a.2 < n := fun a ha => ⟨(o.rng a ha).1, (o.rng a ha).2.1⟩
  have hto : ∀ a ∈ A, to U a < n := fun a ha => by
    have := hA a ha
    unfold to
    split <;> omega
  unfold f_ways
  refine okF_runF.mpr ⟨rfl, ?_⟩
  show OK (b_ways [some (.d (graphD n A)), some (.d (onesD A)), some (.d (.tup (U.map arcD))), some (.d (.int (s : Nat))), none, none, none, none, none, none, none]) _
  unfold b_ways
  refine sq (asg (ev_callZ (x := .lst (A.map (mvD U))) (ea_cons (ev_var (x := graphD n A) 0 rfl) (ea_cons (ev_var (x := onesD A) 1 rfl) (ea_cons (ev_var (x := .tup (U.map arcD)) 2 rfl) ea_nil))) rfl (moves_ok hl hu)) ⟨rfl, ?_⟩)
  simp only [List.set_cons_succ, List.set_cons_zero]
  refine sq ?_
  rw [ok_asgO]
  unfold mDis1
  rw [ok_then]
  refine (ev_var (x := .int (s : Nat)) 3 rfl).dv ?_
  rw [ok_then]
  refine (ev_tup (ea_cons (x := .int 0) ev_c (ea_cons (x := .tup []) (ev_tup ea_nil) ea_nil))).dv ?_
  rw [if_pos (show homog [] (.int (s : Nat)) = true from rfl), ok_ok]
  refine .inl ⟨gD kN (kvW [(s, (0, []))]), rfl, rfl, ?_⟩
  simp only [List.set_cons_succ, List.set_cons_zero]
  refine sq (asg ev_c ⟨rfl, ?_⟩)
  simp only [List.set_cons_succ, List.set_cons_zero]
  have g0 : BF A U s (getW [(s, (0, []))]) := by
    have e : getW [(s, ((0 : Int), ([] : List Ar)))] = fun v => if v = s then some (0, []) else none := by
      funext v
      unfold getW
      rw [List.find?_cons]
      by_cases h : v = s
      · simp [h]
      · simp [h]
    rw [e]
    exact BF.init trivial
  have m0 : muS n (getW [(s, (0, []))]) + 1 < 1000 := by
    have := muS_le n (getW [(s, (0, []))]) fun v c p hv => by
      have := g0.rng hs hA hv
      omega
    have : n * (2 * n + 1) ≤ 7 * 15 := Nat.mul_le_mul hn (by omega)
    omega
  refine sqI (ok_while (I := fun m ρ => ∃ (W : Wy) (b : Bool) (x7 x8 x9 x10 : Option Fx.S), ρ = [some (.d (graphD n A)), some (.d (onesD A)), some (.d (.tup (U.map arcD))), some (.d (.int (s : Nat))), some (.d (.lst (A.map (mvD U)))), some (.o none (gD kN (kvW W))), some (.d (.bl b)), x7, x8, x9, x10] ∧ BF A U s (getW W) ∧ W.length + muS n (getW W) ≤ 1000 ∧ m = (if b then muS n (getW W) + 1 else 0) ∧ (b = false → Done A U (getW W))) ?_ (m := muS n (getW [(s, (0, []))]) + 1) m0 ⟨_, true, _, _, _, _, rfl, g0, by show 1 + _ ≤ _; omega, rfl, fun z => (nomatch z)⟩)
  rintro m ρ ⟨W, b, x7, x8, x9, x10, rfl, hb, hW, rfl, hd⟩
  refine (eb_truth (b := b) (ev_var (x := .bl b) 6 rfl) rfl).ok ⟨fun hbt => ?_, fun hbf => ?_⟩
  · subst hbt
    rw [if_pos rfl]
    refine sq (asg ev_c ⟨rfl, ?_⟩)
    simp only [List.set_cons_succ, List.set_cons_zero]
    refine forL (ds := A.map (mvD U)) (x := .lst (A.map (mvD U))) (I := fun k ρ => ∃ (W' : Wy) (b : Bool) (x7 x8 x9 x10 : Option Fx.S), ρ = [some (.d (graphD n A)), some (.d (onesD A)), some (.d (.tup (U.map arcD))), some (.d (.int (s : Nat))), some (.d (.lst (A.map (mvD U)))), some (.o none (gD kN (kvW W'))), some (.d (.bl b)), x7, x8, x9, x10] ∧ BF A U s (getW W') ∧ W'.length + muS n (getW W') ≤ 1000 ∧ (b = true → muS n (getW W') < muS n (getW W)) ∧ (b = false → W' = W ∧ ∀ a ∈ A.take k, btr W U a = false)) (ev_var 4 rfl) rfl ⟨W, false, _, _, _, _, rfl, hb, hW, fun z => (nomatch z), fun _ => ⟨rfl, fun a h => by simp at h⟩⟩ ?_ ?_
    · rintro k y ρ hy ⟨W', b, x7, x8, x9, x10, rfl, hb', hW', h1, h2⟩
      rw [List.getElem?_map] at hy
      obtain ⟨a, ha, rfl⟩ := Option.map_eq_some_iff.mp hy
      have hmA := List.mem_of_getElem? ha
      refine Up.ok_gtup4 ?_
      simp only [List.set_cons_succ, List.set_cons_zero]
      have i7 := inNG (neg := false) keyN (a := fr U a) (kv := kvW W') (i := 5) (ρ := [some (.d (graphD n A)), some (.d (onesD A)), some (.d (.tup (U.map arcD))), some (.d (.int (s : Nat))), some (.d (.lst (A.map (mvD U)))), some (.o none (gD kN (kvW W'))), some (.d (.bl b)), some (.d (.int (fr U a : Nat))), some (.d (.int (to U a : Nat))), some (.d (.int (co U a))), some (.d (arcD a))]) rfl (ev_var (x := .int (fr U a : Nat)) 7 rfl)
      have i8 := inNG (neg := true) keyN (a := to U a) (kv := kvW W') (i := 5) (ρ := [some (.d (graphD n A)), some (.d (onesD A)), some (.d (.tup (U.map arcD))), some (.d (.int (s : Nat))), some (.d (.lst (A.map (mvD U)))), some (.o none (gD kN (kvW W'))), some (.d (.bl b)), some (.d (.int (fr U a : Nat))), some (.d (.int (to U a : Nat))), some (.d (.int (co U a))), some (.d (arcD a))]) rfl (ev_var (x := .int (to U a : Nat)) 8 rfl)
      rw [if_neg (by decide), has_kv] at i7
      rw [if_pos rfl, has_kv] at i8
      have g7 : ∀ x, getW W' (fr U a) = some x → Ev (mDgetN 5 (mVar 7)) [some (.d (graphD n A)), some (.d (onesD A)), some (.d (.tup (U.map arcD))), some (.d (.int (s : Nat))), some (.d (.lst (A.map (mvD U)))), some (.o none (gD kN (kvW W'))), some (.d (.bl b)), some (.d (.int (fr U a : Nat))), some (.d (.int (to U a : Nat))), some (.d (.int (co U a))), some (.d (arcD a))] (wyD x) := fun x hx => dgetNG keyN (a := fr U a) (kv := kvW W') rfl (ev_var (x := .int (fr U a : Nat)) 7 rfl) (by rw [getG_kv, hx]; rfl)
      have g8 : ∀ x, getW W' (to U a) = some x → Ev (mDgetN 5 (mVar 8)) [some (.d (graphD n A)), some (.d (onesD A)), some (.d (.tup (U.map arcD))), some (.d (.int (s : Nat))), some (.d (.lst (A.map (mvD U)))), some (.o none (gD kN (kvW W'))), some (.d (.bl b)), some (.d (.int (fr U a : Nat))), some (.d (.int (to U a : Nat))), some (.d (.int (co U a))), some (.d (arcD a))] (wyD x) := fun x hx => dgetNG keyN (a := to U a) (kv := kvW W') rfl (ev_var (x := .int (to U a : Nat)) 8 rfl) (by rw [getG_kv, hx]; rfl)
      have bt : EvB (mAnd (mTest (mInN false (mVar 7) 5)) (mOr (mTest (mInN true (mVar 8) 5)) (mTest (mOp gLt (mOp gAdd (mOp gIx (mDgetN 5 (mVar 7)) (mC (.int 0))) (mVar 9)) (mOp gIx (mDgetN 5 (mVar 8)) (mC (.int 0))))))) [some (.d (graphD n A)), some (.d (onesD A)), some (.d (.tup (U.map arcD))), some (.d (.int (s : Nat))), some (.d (.lst (A.map (mvD U)))), some (.o none (gD kN (kvW W'))), some (.d (.bl b)), some (.d (.int (fr U a : Nat))), some (.d (.int (to U a : Nat))), some (.d (.int (co U a))), some (.d (arcD a))] (btr W' U a) := by
        unfold btr
        cases hx : getW W' (fr U a) with
        | none =>
          rw [hx] at i7
          exact eb_and (p := false) (q := false) (eb_test i7) fun z => (nomatch z)
        | some x =>
          rw [hx] at i7
          cases hy : getW W' (to U a) with
          | none =>
            rw [hy] at i8
            exact eb_and (p := true) (q := true) (eb_test i7) fun _ => eb_or (p := true) (q := true) (eb_test i8) fun z => (nomatch z)
          | some y =>
            rw [hy] at i8
            have c1 := ev_ixT (i := 0) (x := .int x.1) (g7 x hx) ev_c rfl
            have c2 := ev_ixT (i := 0) (x := .int y.1) (g8 y hy) ev_c rfl
            have c3 := ev_op (z := .int (x.1 + co U a)) c1 (ev_var (x := .int (co U a)) 9 rfl) (g := gAdd) rfl
            have c4 := ev_op (z := .bl (decide (x.1 + co U a < y.1))) c3 c2 (g := gLt) rfl
            exact eb_and (p := true) (q := decide (x.1 + co U a < y.1)) (eb_test i7) fun _ => by
              have := eb_or (p := false) (q := decide (x.1 + co U a < y.1)) (eb_test i8) fun _ => eb_test c4
              rw [Bool.false_or] at this
              exact this
      refine ifB bt (fun hbt => ?_) fun hbf => ?_
      · unfold btr at hbt
        cases hx : getW W' (fr U a) with
        | none => rw [hx] at hbt; cases hbt
        | some x =>
          rw [hx] at hbt
          obtain ⟨cx, px⟩ := x
          have hlt : ∀ cy py, getW W' (to U a) = some (cy, py) → cx + co U a < cy := fun cy py hy => by
            rw [hy] at hbt
            exact of_decide_eq_true hbt
          have hb2 := hb'.step hφ hmA hx hlt
          have hmu := mu_step (n := n) hb' hb2 hs hA (hto a hmA) hlt
          have hpx := (hb'.rng hs hA hx).1
          have hg : getW (putW W' (to U a) (cx + co U a, px ++ [a])) = upd (getW W') (to U a) (cx + co U a, px ++ [a]) := funext fun v => getW_put W' (to U a) v _
          have c1 := ev_ixT (i := 0) (x := .int cx) (g7 (cx, px) hx) ev_c rfl
          have c2 := ev_ixT (i := 1) (x := .tup (px.map arcD)) (g7 (cx, px) hx) ev_c rfl
          have c3 := ev_op (z := .int (cx + co U a)) c1 (ev_var (x := .int (co U a)) 9 rfl) (g := gAdd) rfl
          have c4 := ev_tup (ea_star c2 rfl (ea_cons (ev_var (x := arcD a) 10 rfl) ea_nil)) (decide_eq_true (by rw [List.length_append, List.length_map]; show _ + 1 ≤ 16777216; omega))
          have c5 := ev_tup (ea_cons c3 (ea_cons c4 ea_nil))
          have ew : D.tup [.int (cx + co U a), .tup (px.map arcD ++ [arcD a])] = wyD (cx + co U a, px ++ [a]) := by
            unfold wyD
            rw [List.map_append]
            rfl
          rw [ew] at c5
          refine sq ?_
          rw [ok_asg]
          refine c5.dv ?_
          refine gitemG keyN (a := to U a) (kv := kvW W') (o := none) rfl (ev_var (x := .int (to U a : Nat)) 8 rfl) (hkl W' hW') ?_
          rw [putG_kv]
          refine ⟨rfl, ?_⟩
          simp only [List.set_cons_succ, List.set_cons_zero]
          refine asg ev_c (fin ⟨putW W' (to U a) (cx + co U a, px ++ [a]), true, _, _, _, _, rfl, ?_, ?_, fun _ => ?_, fun z => (nomatch z)⟩)
          · rw [hg]; exact hb2
          · rw [hg]
            have := putW_len W' (to U a) (cx + co U a, px ++ [a])
            omega
          · rw [hg]
            cases b with
            | true => exact Nat.lt_trans hmu (h1 rfl)
            | false =>
              obtain ⟨e, _⟩ := h2 rfl
              subst e
              exact hmu
      · rw [ok_nx]
        refine fin ⟨W', b, _, _, _, _, rfl, hb', hW', h1, fun z => ?_⟩
        obtain ⟨e, h3⟩ := h2 z
        refine ⟨e, fun c hc => ?_⟩
        rw [List.take_add_one, ha] at hc
        rcases List.mem_append.mp hc with hc | hc
        · exact h3 c hc
        · have : c = a := List.mem_singleton.mp hc
          rw [this, ← e]
          exact hbf
    · rintro ρ ⟨W', b, x7, x8, x9, x10, rfl, hb', hW', h1, h2⟩
      refine ⟨rfl, if b then muS n (getW W') + 1 else 0, ?_, W', b, _, _, _, _, rfl, hb', hW', rfl, fun z => ?_⟩
      · cases b with
        | true => have := h1 rfl; simp only [if_true]; omega
        | false => simp
      · obtain ⟨e, h3⟩ := h2 z
        subst e
        rw [List.length_map, List.take_length] at h3
        intro a ha cx px hx
        have hz := h3 a ha
        unfold btr at hz
        rw [hx] at hz
        cases hy : getW W' (to U a) with
        | none => rw [hy] at hz; cases hz
        | some y =>
          rw [hy] at hz
          have := of_decide_eq_false hz
          exact ⟨y.1, y.2, rfl, by omega⟩
  · have : b = false := by simpa using hbf
    subst this
    refine .inl ⟨rfl, ?_⟩
    unfold mRetO
    show OK (Out.ok (Fl.rt (Fx.S.o none (gD kN (kvW W)))) _) _
    rw [ok_ok]
    exact .inl ⟨_, rfl, W, rfl, hb, hd rfl⟩
end
end Fx.K95
/-! k95: a flow taken apart into paths (no data) -/
namespace Fx.K95
/-- the arcs of a path -/
def prs (p : List Nat) : List Ar := p.zip (p.drop 1)
theorem prs_cons (x y : Nat) (r : List Nat) : prs (x :: y :: r) = (x, y) :: prs (y :: r) := rfl
theorem prs_snoc : ∀ (q : List Nat) (y w : Nat), prs (q ++ [y] ++ [w]) = prs (q ++ [y]) ++ [(y, w)]
  | [], y, w => rfl
  | [x], y, w => rfl
  | x :: z :: q, y, w => by
    have ih := prs_snoc (z :: q) y w
    show (x, z) :: prs (z :: q ++ [y] ++ [w]) = ((x, z) :: prs (z :: q ++ [y])) ++ _
    rw [ih]
    rfl
theorem prs_len (p : List Nat) : (prs p).length = p.length - 1 := by
  unfold prs
  rw [List.length_zip, List.length_drop]
  omega
theorem val_app (L M : List Ar) (v : Nat) : val (L ++ M) v = val L v + val M v := by
  unfold val
  rw [List.map_append, List.sum_append]
theorem val_perm {L M : List Ar} (h : L.Perm M) (v : Nat) : val L v = val M v := perm_sum (h.map _)
abbrev dt (u v : Nat) : Int := if u = v then 1 else 0
theorem val_prs : ∀ {p : List Nat} {s y : Nat} (v : Nat), p.head? = some s → p.getLast? = some y → val (prs p) v = dt s v - dt y v
  | [], s, y, v, h, _ => by cases h
  | [x], s, y, v, h, k => by
    cases h
    have k : x = y := Option.some.inj k
    subst k
    show (0 : Int) = _
    omega
  | x :: z :: r, s, y, v, h, k => by
    cases h
    rw [List.getLast?_cons_cons] at k
    have ih := val_prs v (p := z :: r) rfl k
    rw [prs_cons]
    unfold val at ih ⊢
    rw [List.map_cons, List.sum_cons, ih]
    unfold dl
    show (dt x v - dt z v) + (dt z v - dt y v) = _
    omega
theorem val_flat {s t : Nat} (v : Nat) : ∀ {Ps : List (List Nat)}, (∀ p ∈ Ps, p.head? = some s ∧ p.getLast? = some t) → val (Ps.map prs).flatten v = Ps.length * (dt s v - dt t v)
  | [], _ => by
    show (0 : Int) = ((0 : Nat) : Int) * _
    simp
  | p :: Ps, h => by
    obtain ⟨h1, h2⟩ := h p List.mem_cons_self
    rw [List.map_cons, List.flatten_cons, val_app, val_prs v h1 h2, val_flat v fun q hq => h q (List.mem_cons_of_mem _ hq), List.length_cons]
    have : ((Ps.length + 1 : Nat) : Int) = (Ps.length : Int) + 1 := by omega
    rw [this, Int.add_mul]
    omega
theorem asc_of {φ : Nat → Int} : ∀ {p : List Nat}, (∀ a ∈ prs p, φ a.1 + 1 ≤ φ a.2) → p.Pairwise fun x y => φ x < φ y
  | [], _ => .nil
  | [x], _ => List.pairwise_singleton _ _
  | x :: z :: r, h => by
    have ih := asc_of (p := z :: r) fun a ha => h a (by rw [prs_cons]; exact List.mem_cons_of_mem _ ha)
    have h0 := h (x, z) (by rw [prs_cons]; exact List.mem_cons_self)
    refine List.pairwise_cons.mpr ⟨fun y hy => ?_, ih⟩
    rcases List.mem_cons.mp hy with rfl | hy
    · exact Int.lt_of_lt_of_le (Int.lt_add_one_of_le (Int.le_refl _)) h0
    · have := (List.pairwise_cons.mp ih).1 y hy
      have : φ x + 1 ≤ φ z := h0
      omega
theorem asc_nd {φ : Nat → Int} {p : List Nat} (h : p.Pairwise fun x y => φ x < φ y) : p.Nodup := h.imp fun {a b} h e => by
  subst e
  omega
abbrev hd (R : List Ar) (v : Nat) : List Nat := (R.filter fun a => decide (a.1 = v)).map (·.2)
/-- the last arc that leaves a node -/
theorem hd_last {v : Nat} : ∀ {R : List Ar}, hd R v ≠ [] → ∃ L M w, R = L ++ (v, w) :: M ∧ hd R v = hd L v ++ [w] ∧ hd M v = []
  | [], h => absurd rfl h
  | a :: R, h => by
    by_cases e : hd R v = []
    · have ha : a.1 = v := Classical.byContradiction fun z => h (by
        unfold hd at e ⊢
        rw [List.filter_cons, if_neg (by simpa using z)]
        exact e)
      refine ⟨[], R, a.2, ?_, ?_, e⟩
      · rw [← ha]
        rfl
      · unfold hd at e ⊢
        rw [List.filter_cons, if_pos (by simpa using ha), List.map_cons, e]
        rfl
    · obtain ⟨L, M, w, e1, e2, e3⟩ := hd_last e
      refine ⟨a :: L, M, w, by rw [e1]; rfl, ?_, e3⟩
      unfold hd at e2 ⊢
      rw [List.filter_cons, List.filter_cons]
      by_cases ha : a.1 = v
      · rw [if_pos (by simpa using ha), if_pos (by simpa using ha), List.map_cons, List.map_cons, e2]
        rfl
      · rw [if_neg (by simpa using ha), if_neg (by simpa using ha)]
        exact e2
theorem hd_app (L M : List Ar) (v : Nat) : hd (L ++ M) v = hd L v ++ hd M v := by
  unfold hd
  rw [List.filter_append, List.map_append]
/-- what is left of the heads -/
theorem hd_rest {L M : List Ar} {v w : Nat} (h : hd M v = []) (u : Nat) : hd (L ++ M) u = if u = v then hd L v else hd (L ++ (v, w) :: M) u := by
  by_cases e : u = v
  · subst e
    rw [if_pos rfl, hd_app, h, List.append_nil]
  · rw [if_neg e, hd_app, hd_app]
    have : hd ((v, w) :: M) u = hd M u := by
      unfold hd
      rw [List.filter_cons, if_neg]
      simpa using fun z => e z.symm
    rw [this]
theorem hd_ne {R : List Ar} {v : Nat} (h : 0 < val R v) : hd R v ≠ [] := fun z => by
  obtain ⟨a, ha, e⟩ := leaves h
  unfold hd at z
  rw [List.map_eq_nil_iff, List.filter_eq_nil_iff] at z
  exact z a ha (by simpa using e)
section
variable {A U : List Ar} {φ : Nat → Int} {s t : Nat} {k : Int}
/-- the least by a measure -/
theorem exists_least (f : Ar → Int) : ∀ {L : List Ar}, L ≠ [] → ∃ a ∈ L, ∀ b ∈ L, f a ≤ f b
  | [], h => absurd rfl h
  | [a], _ => ⟨a, List.mem_cons_self, fun b hb => by rw [List.mem_singleton.mp hb]; exact Int.le_refl _⟩
  | a :: c :: L, _ => by
    obtain ⟨m, hm, hl⟩ := exists_least f (L := c :: L) (by simp)
    by_cases h : f a ≤ f m
    · refine ⟨a, List.mem_cons_self, fun b hb => ?_⟩
      rcases List.mem_cons.mp hb with rfl | hb
      · exact Int.le_refl _
      · exact Int.le_trans h (hl b hb)
    · refine ⟨m, List.mem_cons_of_mem _ hm, fun b hb => ?_⟩
      rcases List.mem_cons.mp hb with rfl | hb
      · omega
      · exact hl b hb
/-- where nothing comes, all leaves -/
theorem val_out {R : List Ar} {v : Nat} (h : ∀ a ∈ R, a.2 ≠ v) : val R v = (hd R v).length := by
  induction R with
  | nil => rfl
  | cons a R ih =>
    have k := ih fun b hb => h b (List.mem_cons_of_mem _ hb)
    have e : dl v a = if a.1 = v then 1 else 0 := by
      unfold dl
      rw [if_neg (h a List.mem_cons_self)]
      omega
    unfold val hd at k ⊢
    rw [List.map_cons, List.sum_cons, k, e, List.filter_cons]
    by_cases z : a.1 = v
    · rw [if_pos z, if_pos (by simpa using z), List.map_cons, List.length_cons]
      omega
    · rw [if_neg z, if_neg (by simpa using z)]
      omega
/-- nothing comes to where a flow begins -/
theorem no_in (hφ : Pot A U φ) (hU : Part A U) (h : ∀ v, val U v = k * (dt s v - dt t v)) (hk : 0 ≤ k) : ∀ a ∈ U, a.2 ≠ s := fun a ha e => by
  obtain ⟨m, hm, hl⟩ := exists_least (fun a => φ a.1) (L := U) (fun z => by rw [z] at ha; cases ha)
  have no : ∀ b ∈ U, b.2 ≠ m.1 := fun b hb z => by
    have g := grows hφ hU hb
    have := hl b hb
    rw [z] at g
    have : φ m.1 ≤ φ b.1 := this
    omega
  have v1 := val_out no
  have hin : m.2 ∈ hd U m.1 := List.mem_map.mpr ⟨m, List.mem_filter.mpr ⟨hm, by simp⟩, rfl⟩
  have hp := List.length_pos_of_mem hin
  rw [h m.1] at v1
  have hs : s = m.1 := by
    refine Classical.byContradiction fun z => ?_
    have e1 : dt s m.1 = 0 := if_neg z
    have e2 : 0 ≤ dt t m.1 := by
      show (0 : Int) ≤ if t = m.1 then 1 else 0
      split <;> omega
    rw [e1] at v1
    have := Int.mul_nonneg hk e2
    rw [Int.mul_sub, Int.mul_zero] at v1
    omega
  exact no a ha (e.trans hs)
/-- what has been taken of a flow -/
structure Tk (U : List Ar) (s t : Nat) (Ps : List (List Nat)) (R : List Ar) : Prop where
  pm : ((Ps.map prs).flatten ++ R).Perm U
  ends : ∀ p ∈ Ps, p.head? = some s ∧ p.getLast? = some t
theorem Tk.val (h : Tk U s t Ps R) (hf : ∀ v, val U v = k * (dt s v - dt t v)) (v : Nat) : val R v = (k - Ps.length) * (dt s v - dt t v) := by
  have := val_perm h.pm v
  rw [val_app, val_flat v h.ends, hf v] at this
  rw [Int.sub_mul]
  omega
/-- and a path on its way -/
structure Tw (U : List Ar) (s t : Nat) (Ps : List (List Nat)) (p : List Nat) (R : List Ar) : Prop where
  pm : ((Ps.map prs).flatten ++ (prs p ++ R)).Perm U
  ends : ∀ p ∈ Ps, p.head? = some s ∧ p.getLast? = some t
  st : p.head? = some s
theorem Tw.sub (h : Tw U s t Ps p R) : ∀ a ∈ prs p, a ∈ U := fun a ha => h.pm.subset (List.mem_append_right _ (List.mem_append_left _ ha))
theorem Tw.subR (h : Tw U s t Ps p R) : ∀ a ∈ R, a ∈ U := fun a ha => h.pm.subset (List.mem_append_right _ (List.mem_append_right _ ha))
theorem Tw.asc (h : Tw U s t Ps p R) (hφ : Pot A U φ) (hU : Part A U) : p.Pairwise fun x y => φ x < φ y := asc_of fun a ha => grows hφ hU (h.sub a ha)
theorem Tw.val (h : Tw U s t Ps p R) (hf : ∀ v, val U v = k * (dt s v - dt t v)) {y : Nat} (hy : p.getLast? = some y) (v : Nat) : val R v = (k - Ps.length) * (dt s v - dt t v) - (dt s v - dt y v) := by
  have := val_perm h.pm v
  rw [val_app, val_app, val_flat v h.ends, val_prs v h.st hy, hf v] at this
  rw [Int.sub_mul]
  omega
/-- on the way there is always an arc that leads on -/
theorem Tw.on (h : Tw U s t Ps (q ++ [y]) R) (hφ : Pot A U φ) (hU : Part A U) (hf : ∀ v, K95.val U v = k * (dt s v - dt t v)) (h0 : q ≠ []) (hy : y ≠ t) : hd R y ≠ [] := by
  have hs : s ≠ y := fun z => by
    have k := h.asc hφ hU
    have e := h.st
    cases q with
    | nil => exact h0 rfl
    | cons x q =>
      have e : x = s := Option.some.inj e
      have := (List.pairwise_cons.mp k).1 y (List.mem_append_right _ List.mem_cons_self)
      rw [e, z] at this
      omega
  refine hd_ne ?_
  rw [h.val hf (y := y) (by simp) y]
  have e1 : dt s y = 0 := if_neg hs
  have e2 : dt t y = 0 := if_neg fun z => hy z.symm
  have e3 : dt y y = 1 := if_pos rfl
  rw [e1, e2, e3]
  simp
theorem Tw.step {Ps : List (List Nat)} {q : List Nat} {y w : Nat} {L M : List Ar} (h : Tw U s t Ps (q ++ [y]) (L ++ (y, w) :: M)) : Tw U s t Ps (q ++ [y] ++ [w]) (L ++ M) := by
  refine ⟨?_, h.ends, ?_⟩
  · rw [prs_snoc]
    refine List.Perm.trans (List.Perm.append_left _ ?_) h.pm
    rw [List.append_assoc]
    refine List.Perm.append_left _ ?_
    show ((y, w) :: (L ++ M)).Perm _
    exact List.perm_middle.symm
  · have := h.st
    cases q with
    | nil => exact this
    | cons x q => exact this
theorem Tw.fin (h : Tw U s t Ps (q ++ [t]) R) : Tk U s t (Ps ++ [q ++ [t]]) R := by
  refine ⟨?_, ?_⟩
  · have := h.pm
    rw [← List.append_assoc] at this
    rw [List.map_append, List.flatten_append]
    simpa using this
  · intro p hp
    rcases List.mem_append.mp hp with hp | hp
    · exact h.ends p hp
    · rw [List.mem_singleton.mp hp]
      exact ⟨h.st, by simp⟩
/-- at the end there are as many paths as the flow is worth -/
theorem Tk.len (h : Tk U s t Ps R) (hφ : Pot A U φ) (hU : Part A U) (hf : ∀ v, K95.val U v = k * (dt s v - dt t v)) (hk : 0 ≤ k) (hst : s ≠ t) (he : hd R s = []) : (Ps.length : Int) = k := by
  have v := h.val hf s
  rw [val_out fun a ha => no_in hφ hU hf hk a (h.pm.subset (List.mem_append_right _ ha)), he] at v
  have e1 : dt s s = 1 := if_pos rfl
  have e2 : dt t s = 0 := if_neg fun z => hst z.symm
  rw [e1, e2] at v
  simp at v
  omega
/-- what the paths are -/
structure Pth (n : Nat) (A : List Ar) (s t : Nat) (T : List (List Nat)) : Prop where
  nd : (T.map prs).flatten.Nodup
  sub : ∀ a ∈ (T.map prs).flatten, a ∈ A
  ends : ∀ p ∈ T, p.head? = some s ∧ p.getLast? = some t
  simp : ∀ p ∈ T, p.Nodup
theorem Tk.pth (h : Tk U s t Ps R) (nA : A.Nodup) (hφ : Pot A U φ) (hU : Part A U) : Pth n A s t Ps := by
  have hUA : ∀ a ∈ U, a ∈ A := fun a ha => by
    rw [hU] at ha
    exact (List.mem_filter.mp ha).1
  have nU : U.Nodup := by
    rw [hU]
    exact nA.sublist List.filter_sublist
  have nd := h.pm.nodup_iff.mpr nU
  have sub : ∀ a ∈ (Ps.map prs).flatten, a ∈ U := fun a ha => h.pm.subset (List.mem_append_left _ ha)
  refine ⟨(List.nodup_append.mp nd).1, fun a ha => hUA a (sub a ha), h.ends, fun p hp => asc_nd (asc_of fun a ha => grows hφ hU (sub a ?_))⟩
  exact List.mem_flatten.mpr ⟨_, List.mem_map_of_mem hp, ha⟩
theorem Pth.perm {T S : List (List Nat)} (h : Pth n A s t T) (pm : S.Perm T) : Pth n A s t S := by
  have p2 : (S.map prs).flatten.Perm (T.map prs).flatten := (pm.map prs).flatten
  exact ⟨p2.nodup_iff.mpr h.nd, fun a ha => h.sub a (p2.subset ha), fun p hp => h.ends p (pm.subset hp), fun p hp => h.simp p (pm.subset hp)⟩
end
end Fx.K95
/-! k95: the paths taken out of a flow, on data -/
namespace Fx.K95
open PySem Lib Nl
section
variable {k : Nat} {gm : D → M Unit} {ft : M Bool} {fk fv : M S} {ρ0 : En} {PD : List D × List (List D) → En → Prop} {vf : D → List D}
/-- {x: [..] for x in xs}, the xs keys, each once, each list new -/
theorem ok_dcompF : ∀ {items ks : List D} {dss : List (List D)}, (∀ x ∈ items, isKey x = true) → (∀ x ∈ items, ks.any (keyEq x) = false) → items.Pairwise (fun x y => keyEq y x = false) → ks.length + items.length ≤ 16777216 →
    (∀ x ∈ items, Ev fk (ρ0.set k (some (.d x))) x) → (∀ x ∈ items, OK (fv (ρ0.set k (some (.d x)))) fun s ρ1 => s = .o none (.lst (vf x)) ∧ ρ1 = ρ0.set k (some (.d x))) → (∀ x, (ρ0.set k (some (S.d x))).set k none = ρ0) → PD (ks ++ items, dss ++ items.map vf) ρ0 → OK (mDCompQ (gmName k) mYes fk fv [k] items ks dss ρ0) PD
  | [], ks, dss, _, _, _, _, _, _, _, q => by
    unfold mDCompQ
    rw [ok_ok]
    rw [List.append_nil, List.map_nil, List.append_nil] at q
    exact q
  | x :: xs, ks, dss, h1, h2, h3, h4, h5, hv, h6, q => by
    unfold mDCompQ
    rw [ok_then, ok_calm, ok_gname, ok_then, ok_calm, ok_yes, if_pos rfl, ok_then, ok_calm]
    refine (h5 x List.mem_cons_self).dv ?_
    rw [ok_then, ok_calm]
    refine (hv x List.mem_cons_self).imp fun s ρ1 ⟨e1, e2⟩ => ?_
    rw [e1, e2]
    dsimp only
    rw [List.pairwise_cons] at h3
    rw [List.length_cons] at h4
    have hz : (isKey x && !ks.any (keyEq x) && small (ks.length + 1)) = true := by
      rw [h1 x List.mem_cons_self, h2 x List.mem_cons_self]
      exact decide_eq_true (by omega)
    rw [if_pos hz]
    have ew : wipeE (ρ0.set k (some (S.d x))) [k] = ρ0 := h6 x
    rw [ew]
    refine ok_dcompF (fun z hz => h1 z (List.mem_cons_of_mem _ hz)) (fun z hz => ?_) h3.2 (by rw [List.length_append]; simp only [List.length_cons, List.length_nil]; omega) (fun z hz => h5 z (List.mem_cons_of_mem _ hz)) (fun z hz => hv z (List.mem_cons_of_mem _ hz)) h6 ?_
    · rw [List.any_append, h2 z (List.mem_cons_of_mem _ hz)]
      simp [h3.1 z hz]
    · rw [List.append_assoc, List.append_assoc]
      exact q
/-- d[k].pop() -/
theorem ok_popQ {i n : Nat} {g : Nat} {ks : List D} {dss : List (List D)} {ds : List D} {x : D} {ρ : En} {P : S → En → Prop} (e1 : ρ[i]? = some (some (.q ks dss))) (hk : Ev fk ρ (.int (n : Nat))) (e2 : keyAt ks (.int (n : Nat)) = some g) (e3 : dss[g]? = some (ds ++ [x])) (q : P (.d x) (ρ.set i (some (.q ks (dss.set g ds))))) : OK (mMethQ0 i fk gPop ρ) P := by
  have hq : isQ ρ i = true := by
    unfold isQ
    rw [e1]
  unfold mMethQ0
  rw [if_pos hq, ok_then]
  refine hk.dv ?_
  rw [e1]
  dsimp only
  rw [if_pos (show isKey (D.int (n : Nat)) = true from rfl), e2]
  dsimp only
  rw [e3]
  have hg : gPop (ds ++ [x]) = some (x, ds) := by
    unfold gPop
    have : (ds ++ [x])[(ds ++ [x]).length - 1]? = some x := by simp
    rw [this, List.dropLast_concat]
  dsimp only
  rw [hg]
  dsimp only
  rw [ok_ok]
  exact q
/-- while d[k]: -/
theorem eb_truQ {i n : Nat} {g : Nat} {ks : List D} {dss : List (List D)} {ds : List D} {ρ : En} (e1 : ρ[i]? = some (some (.q ks dss))) (hk : Ev fk ρ (.int (n : Nat))) (e2 : keyAt ks (.int (n : Nat)) = some g) (e3 : dss[g]? = some ds) : EvB (mTruthQ i fk) ρ (!ds.isEmpty) := by
  have hq : isQ ρ i = true := by
    unfold isQ
    rw [e1]
  unfold EvB mTruthQ
  rw [if_pos hq, ok_then]
  refine hk.dv ?_
  rw [e1]
  dsimp only
  rw [if_pos (show isKey (D.int (n : Nat)) = true from rfl), e2]
  dsimp only
  rw [e3, ok_ok]
  exact ⟨rfl, rfl⟩
end
section
variable {n s t : Nat} {A U : List Ar} {φ : Nat → Int} {k : Int}
theorem qAt {v : Nat} (hv : v < n) : keyAt (intsFrom 0 n) (.int (v : Nat)) = some v := by
  have := keyAt_ints (n := n) (i := v) (lo := 0) hv
  rw [Nat.zero_add] at this
  exact this
def hds (n : Nat) (R : List Ar) : List (List D) := (List.range n).map fun v => nl (hd R v)
theorem hds_at {v : Nat} (hv : v < n) (R : List Ar) : (hds n R)[v]? = some (nl (hd R v)) := by
  unfold hds
  rw [List.getElem?_map, List.getElem?_range hv]
  rfl
theorem hds_pop {L M : List Ar} {v w : Nat} (hv : v < n) (h : hd M v = []) : (hds n (L ++ (v, w) :: M)).set v (nl (hd L v)) = hds n (L ++ M) := by
  refine List.ext_getElem? fun i => ?_
  by_cases hi : i < n
  · rw [hds_at hi, hd_rest (w := w) h]
    by_cases e : v = i
    · subst e
      rw [List.getElem?_set_self (by unfold hds; rw [List.length_map, List.length_range]; exact hv), if_pos rfl]
    · rw [List.getElem?_set_ne e, hds_at hi, if_neg fun z => e z.symm]
  · rw [List.getElem?_eq_none (by rw [List.length_set]; unfold hds; rw [List.length_map, List.length_range]; omega), List.getElem?_eq_none (by unfold hds; rw [List.length_map, List.length_range]; omega)]
theorem sortP {R : List (List Nat)} (h : ∀ p ∈ R, p ≠ []) : ∃ T : List (List Nat), gSortA [.lst (R.map pathD)] = some (.o none (.lst (T.map pathD))) ∧ T.Perm R ∧ gSortA [.tup (T.map pathD)] = some (.o none (.lst (T.map pathD))) := by
  let f : List Nat → List Int := fun p => p.map fun i : Nat => (i : Int)
  let g : List Int → List Nat := fun l => l.map Int.toNat
  have gf : ∀ p, g (f p) = p := fun p => by
    show (p.map fun i : Nat => (i : Int)).map Int.toNat = p
    rw [List.map_map]
    conv => rhs; rw [← List.map_id p]
    exact List.map_congr_left fun i _ => Int.toNat_natCast i
  have tp : ∀ p, tpD (f p) = pathD p := fun p => by
    show D.tup ((p.map fun i : Nat => (i : Int)).map D.int) = D.tup (p.map fun i : Nat => D.int (i : Nat))
    rw [List.map_map]
    rfl
  have ne : ∀ {Q : List (List Nat)}, (∀ p ∈ Q, p ≠ []) → ∀ p ∈ Q.map f, p ≠ [] := fun {Q} h p hp => by
    obtain ⟨q, hq, rfl⟩ := List.mem_map.mp hp
    exact fun z => h q hq (List.map_eq_nil_iff.mp z)
  have em : ∀ Q : List (List Nat), (Q.map f).map tpD = Q.map pathD := fun Q => by
    rw [List.map_map]
    exact List.map_congr_left fun q _ => tp q
  have s1 := gSortA_tps (ne h)
  rw [em] at s1
  have hperm := isortL_perm (R.map f)
  have back : ((isortL (R.map f)).map g).map f = isortL (R.map f) := by
    rw [List.map_map]
    conv => rhs; rw [← List.map_id (isortL (R.map f))]
    refine List.map_congr_left fun l hl => ?_
    obtain ⟨q, _, rfl⟩ := List.mem_map.mp (hperm.subset hl)
    show f (g (f q)) = f q
    rw [gf]
  have pm : ((isortL (R.map f)).map g).Perm R := by
    have := hperm.map g
    rw [List.map_map] at this
    have e : R.map (g ∘ f) = R := by
      conv => rhs; rw [← List.map_id R]
      exact List.map_congr_left fun q _ => gf q
    rw [e] at this
    exact this
  have e1 : (isortL (R.map f)).map tpD = ((isortL (R.map f)).map g).map pathD := by
    rw [← em, back]
  have h2 : ∀ p ∈ (isortL (R.map f)).map g, p ≠ [] := fun p hp => h p (pm.subset hp)
  have s2 := gSortA_tps (ne h2)
  rw [em, back] at s2
  have i2 : isortL (isortL (R.map f)) = isortL (R.map f) := (isortL_eq (List.Perm.refl _) (isortL_pw _)).symm
  rw [i2] at s2
  rw [e1] at s1 s2
  refine ⟨_, s1, pm, ?_⟩
  cases hq : (isortL (R.map f)).map g with
  | nil => rfl
  | cons p ps =>
    rw [hq] at s2
    exact s2
end
end Fx.K95
/-! k95: paths_of on data -/
namespace Fx.K95
open PySem Lib Nl
section
variable {n s t : Nat} {A U : List Ar} {φ : Nat → Int} {k : Int}
theorem ltA_nd (o : OkArcs n A) : A.Nodup := o.asc.imp fun {a b} h e => by
  subst e
  unfold ltA at h
  omega
theorem heads_ok (hn : n ≤ 1000) (hl : U.length ≤ 1000000) {P : Fl → En → Prop} (q : P .nx [some (.d (graphD n A)), some (.d (.tup (U.map arcD))), some (.d (.int (s : Nat))), some (.d (.int (t : Nat))), some (.q (intsFrom 0 n) (hds n U)), none, none, none, none, none]) : OK (mSetDcQ 4 (iSeq (mFldE "Graph" 0 (mVar 0))) (gmName 7) mYes (mVar 7) (mLc (iSeq (mVar 1)) (gmTup 2 (gmCons (gmName 5) (gmCons (gmName 6) gmNil))) (mTest (mOp gEq (mVar 5) (mVar 7))) (mVar 6) [5, 6]) [7] [some (.d (graphD n A)), some (.d (.tup (U.map arcD))), some (.d (.int (s : Nat))), some (.d (.int (t : Nat))), none, none, none, none, none, none]) P := by
  have at_ : ∀ x ∈ intsFrom 0 n, ∃ j : Nat, x = .int j ∧ j < n := fun x hx => by
    obtain ⟨j, hj⟩ := List.getElem?_of_mem hx
    obtain ⟨rfl, h⟩ := intsFrom_at hj
    exact ⟨j, rfl, h⟩
  unfold mSetDcQ
  rw [ok_then, ok_iseq]
  refine (ev_fld (n := "Graph") (i := 0) (ev_var 0 rfl) rfl).dv ⟨_, rfl, ?_⟩
  rw [ok_then]
  show OK (mDCompQ (gmName 7) mYes (mVar 7) (mLc (iSeq (mVar 1)) (gmTup 2 (gmCons (gmName 5) (gmCons (gmName 6) gmNil))) (mTest (mOp gEq (mVar 5) (mVar 7))) (mVar 6) [5, 6]) [7] (intsFrom 0 n) [] [] [some (.d (graphD n A)), some (.d (.tup (U.map arcD))), some (.d (.int (s : Nat))), some (.d (.int (t : Nat))), none, none, none, none, none, none]) _
  refine ok_dcompF (vf := fun x => match x with | .int i => nl (hd U i.toNat) | _ => []) (fun x hx => ?_) (fun _ _ => rfl) (ints_apart n) (by rw [intsFrom_length, List.length_nil]; omega) (fun x hx => ev_var 7 rfl) (fun x hx => ?_) (fun x => rfl) ?_
  · obtain ⟨j, rfl, _⟩ := at_ x hx
    rfl
  · obtain ⟨j, rfl, hj⟩ := at_ x hx
    show OK ((mLc (iSeq (mVar 1)) (gmTup 2 (gmCons (gmName 5) (gmCons (gmName 6) gmNil))) (mTest (mOp gEq (mVar 5) (mVar 7))) (mVar 6) [5, 6]) [some (.d (graphD n A)), some (.d (.tup (U.map arcD))), some (.d (.int (s : Nat))), some (.d (.int (t : Nat))), none, none, none, some (.d (.int (j : Nat))), none, none]) _
    rw [ok_lc, ok_iseq]
    refine (ev_var (x := .tup (U.map arcD)) 1 rfl).dv ⟨_, rfl, ?_⟩
    have e0 : U.map arcD = (U.map fun p => ((D.int (p.1 : Nat), D.int (p.2 : Nat)) : D × D)).map fun p => D.tup [p.1, p.2] := by
      rw [List.map_map]
      rfl
    show OK (mComp (gmTup 2 (gmCons (gmName 5) (gmCons (gmName 6) gmNil))) (mTest (mOp gEq (mVar 5) (mVar 7))) (mVar 6) [5, 6] (U.map arcD) [] [some (.d (graphD n A)), some (.d (.tup (U.map arcD))), some (.d (.int (s : Nat))), some (.d (.int (t : Nat))), none, none, none, some (.d (.int (j : Nat))), none, none]) fun ds ρ2 => S.o none (.lst ds) = _ ∧ ρ2 = [some (.d (graphD n A)), some (.d (.tup (U.map arcD))), some (.d (.int (s : Nat))), some (.d (.int (t : Nat))), none, none, none, some (.d (.int (j : Nat))), none, none]
    generalize some (S.d (D.tup (U.map arcD))) = X
    rw [e0]
    refine ok_mapP (t := fun p => match p.1 with | .int a => decide (a = (j : Int)) | _ => false) (f := fun p => p.2) (by rw [List.length_map]; omega) ?_ ?_
    · intro p hp
      obtain ⟨q, _, rfl⟩ := List.mem_map.mp hp
      refine (eb_test (ev_eq (ev_var 5 rfl) (ev_var 7 rfl))).ok ⟨rfl, fun _ => ?_, fun _ => rfl⟩
      exact (ev_var 6 rfl).dv ⟨rfl, rfl⟩
    · refine ⟨?_, rfl⟩
      show S.o none (D.lst _) = S.o none (D.lst (nl (hd U ((j : Nat) : Int).toNat)))
      rw [Int.toNat_natCast]
      unfold nl hd
      rw [List.filter_map, List.map_map, List.map_map]
      congr 2
      have ef : (U.filter ((fun p : D × D => match p.1 with | .int a => decide (a = (j : Int)) | _ => false) ∘ fun p => ((D.int (p.1 : Nat), D.int (p.2 : Nat)) : D × D))) = U.filter fun p => decide (p.1 = j) := by
        refine List.filter_congr fun p _ => ?_
        show decide (((p.1 : Nat) : Int) = (j : Int)) = decide (p.1 = j)
        rw [decide_eq_decide]
        omega
      rw [ef]
      rfl
  · rw [ok_ok]
    have e : (intsFrom 0 n).map (fun x => match x with | .int i => nl (hd U i.toNat) | _ => []) = hds n U := by
      rw [ints_nl, List.map_map]
      rfl
    rw [e]
    exact q
theorem paths_of_ok (o : OkArcs n A) (hn : n ≤ 7) (hs : s < n) (ht : t < n) (hst : s ≠ t) (hU : Part A U) (hφ : Pot A U φ) (hf : ∀ v, val U v = k * (dt s v - dt t v)) (hk : 0 ≤ k) : OKF (f_paths_of [.d (graphD n A), .d (.tup (U.map arcD)), .d (.int (s : Nat)), .d (.int (t : Nat))]) fun r => ∃ T, r = .d (.tup (T.map pathD)) ∧ Pth n A s t T ∧ (T.length : Int) = k ∧ gSortA [.tup (T.map pathD)] = some (.o none (.lst (T.map pathD))) := by
  have hA2 := o.len
  have hz : n * n ≤ 7 * 7 := Nat.mul_le_mul hn hn
  have hUA : ∀ a ∈ U, a ∈ A := fun a ha => by
    rw [hU] at ha
    exact (List.mem_filter.mp ha).1
  have hUl : U.length ≤ 49 := by
    have : U.length ≤ A.length := by
      rw [hU]
      exact List.length_filter_le _ _
    omega
  unfold f_paths_of
  refine okF_runF.mpr ⟨rfl, ?_⟩
  show OK (b_paths_of [some (.d (graphD n A)), some (.d (.tup (U.map arcD))), some (.d (.int (s : Nat))), some (.d (.int (t : Nat))), none, none, none, none, none, none]) _
  unfold b_paths_of
  refine sq (heads_ok (by omega) (by omega) ⟨rfl, ?_⟩)
  refine sq (asgL ea_nil rfl ⟨rfl, ?_⟩)
  simp only [List.set_cons_succ, List.set_cons_zero]
  refine sq (ok_while (I := fun m ρ => ∃ (Ps : List (List Nat)) (R : List Ar) (x9 : Option Fx.S), m = R.length ∧ Tk U s t Ps R ∧ Ps.length + R.length ≤ U.length ∧ ρ = [some (.d (graphD n A)), some (.d (.tup (U.map arcD))), some (.d (.int (s : Nat))), some (.d (.int (t : Nat))), some (.q (intsFrom 0 n) (hds n R)), none, none, none, some (.o none (.lst (Ps.map pathD))), x9]) ?_ (m := U.length) (by omega) ⟨[], U, none, rfl, ⟨List.Perm.refl _, fun p hp => (nomatch hp)⟩, by show 0 + _ ≤ _; omega, rfl⟩)
  rintro m ρ ⟨Ps, R, x9, rfl, tk, hl, rfl⟩
  refine (eb_truQ (i := 4) (n := s) (g := s) (ds := nl (hd R s)) rfl (ev_var (x := .int (s : Nat)) 2 rfl) (qAt hs) (hds_at hs R)).ok ⟨fun hb => ?_, fun hb => ?_⟩
  · have hne : hd R s ≠ [] := fun z => by
      rw [z] at hb
      cases hb
    refine sq (asgL (ea_cons (ev_var (x := .int (s : Nat)) 2 rfl) ea_nil) rfl ⟨rfl, ?_⟩)
    simp only [List.set_cons_succ, List.set_cons_zero]
    refine sq (ok_while (I := fun m ρ => ∃ (q : List Nat) (y : Nat) (R' : List Ar), m = R'.length ∧ Tw U s t Ps (q ++ [y]) R' ∧ y < n ∧ (q = [] → y = s ∧ hd R' s ≠ []) ∧ R'.length + q.length = R.length ∧ ρ = [some (.d (graphD n A)), some (.d (.tup (U.map arcD))), some (.d (.int (s : Nat))), some (.d (.int (t : Nat))), some (.q (intsFrom 0 n) (hds n R')), none, none, none, some (.o none (.lst (Ps.map pathD))), some (.o none (.lst (nl (q ++ [y]))))]) ?_ (m := R.length) (by omega) ⟨[], s, R, rfl, ⟨tk.pm, tk.ends, rfl⟩, hs, fun _ => ⟨rfl, hne⟩, rfl, rfl⟩)
    · rintro m ρ ⟨q, y, R', rfl, tw, hy, h0, hq, rfl⟩
      have lst : ∀ {x4 x8 : Option Fx.S}, Ev (mIxO 9 (mUn gNeg (mC (.int 1)))) [some (.d (graphD n A)), some (.d (.tup (U.map arcD))), some (.d (.int (s : Nat))), some (.d (.int (t : Nat))), x4, none, none, none, x8, some (.o none (.lst (nl (q ++ [y]))))] (.int (y : Nat)) := fun {x4 x8} => by
        have e : nl (q ++ [y]) = nl q ++ [.int (y : Nat)] := nl_app q [y]
        rw [e]
        exact lastO (peekO rfl)
      refine (eb_test (ev_ne lst (ev_var (x := .int (t : Nat)) 3 rfl))).ok ⟨fun hb => ?_, fun hb => ?_⟩
      · have hyt : y ≠ t := fun z => by
          rw [z] at hb
          simp at hb
        have hh : hd R' y ≠ [] := by
          by_cases hq0 : q = []
          · obtain ⟨e1, e2⟩ := h0 hq0
            rw [e1]
            exact e2
          · exact tw.on hφ hU hf hq0 hyt
        obtain ⟨L, M, w, e1, e2, e3⟩ := hd_last hh
        subst e1
        have hw : w < n := (o.rng (y, w) (hUA _ (tw.subR _ (List.mem_append_right _ List.mem_cons_self)))).2.1
        have hlen : (nl (q ++ [y])).length ≤ 1000000 := by
          rw [nl_len, List.length_append]
          show _ + 1 ≤ _
          omega
        refine appM (i := 9) (o := none) (xs := nl (q ++ [y])) rfl hlen ?_
        rw [ok_dv]
        refine ok_popQ (i := 4) (n := y) (g := y) (ds := nl (hd L y)) (x := .int (w : Nat)) rfl lst (qAt hy) (by rw [hds_at hy, e2, nl_app]; rfl) ?_
        rw [hds_pop hy e3]
        refine ⟨_, rfl, rfl, rfl, _, ?_, q ++ [y], w, L ++ M, rfl, tw.step, hw, fun z => by simp at z, ?_, ?_⟩
        · rw [List.length_append, List.length_append]
          show _ < _ + (_ + 1)
          omega
        · rw [List.length_append, List.length_append]
          rw [List.length_append, List.length_cons] at hq
          show _ + (_ + 1) = _
          omega
        · simp only [List.set_cons_succ, List.set_cons_zero]
          have e : nl (q ++ [y] ++ [w]) = nl (q ++ [y]) ++ [.int (w : Nat)] := nl_app (q ++ [y]) [w]
          rw [e]
      · have hyt : t = y := Eq.symm <| Classical.byContradiction fun z => hb (by
          rw [Bool.not_eq_true', decide_eq_false_iff_not]
          omega)
        subst hyt
        have hq0 : q ≠ [] := fun z => hst (h0 z).1.symm
        have hqp := List.length_pos_iff.mpr hq0
        refine ⟨rfl, ?_⟩
        have fz : mDrop (mMeth1 8 gApp (mCB gTuple (aCons (mVar 9) aNil))) [some (.d (graphD n A)), some (.d (.tup (U.map arcD))), some (.d (.int (s : Nat))), some (.d (.int (t : Nat))), some (.q (intsFrom 0 n) (hds n R')), none, none, none, some (.o none (.lst (Ps.map pathD))), some (.o none (.lst (nl (q ++ [t]))))] = mDrop (mMeth1 8 gApp (mCB gTuple (aCons (mVar 9) aNil))) [some (.d (graphD n A)), some (.d (.tup (U.map arcD))), some (.d (.int (s : Nat))), some (.d (.int (t : Nat))), some (.q (intsFrom 0 n) (hds n R')), none, none, none, some (.o none (.lst (Ps.map pathD))), some (.d (.lst (nl (q ++ [t]))))] := rfl
        rw [fz]
        refine appE (i := 8) (b := none) (xs := Ps.map pathD) (x := pathD (q ++ [t])) rfl (ev_cb (ea_cons (ev_var (x := .lst (nl (q ++ [t]))) 9 rfl) ea_nil) rfl) (by rw [List.length_map]; omega) ⟨rfl, R'.length, ?_, Ps ++ [q ++ [t]], R', some (.d (.lst (nl (q ++ [t])))), rfl, tw.fin, ?_, ?_⟩
        · omega
        · rw [List.length_append]
          show _ + 1 + _ ≤ _
          omega
        · simp only [List.set_cons_succ, List.set_cons_zero]
          rw [List.map_append]
          rfl
  · have he : hd R s = [] := by
      cases hz : hd R s with
      | nil => rfl
      | cons x l => rw [hz] at hb; exact absurd rfl hb
    refine ⟨rfl, ?_⟩
    have pth := tk.pth (n := n) (ltA_nd o) hφ hU
    obtain ⟨T, s1, pm, s2⟩ := sortP (R := Ps) fun p hp z => by
      have := (pth.ends p hp).1
      rw [z] at this
      cases this
    rw [ok_ret, ok_cb, ok_cons, ok_dv, ok_cb, ok_cons, ok_dv]
    refine ok_varZ (i := 8) (x := .lst (Ps.map pathD)) rfl rfl ⟨_, rfl, ?_⟩
    rw [ok_nil]
    refine ⟨_, s1, .lst (T.map pathD), rfl, ?_⟩
    rw [ok_nil]
    refine ⟨.d (.tup (T.map pathD)), rfl, .inl ⟨_, rfl, T, rfl, pth.perm pm, ?_, s2⟩⟩
    rw [pm.length_eq]
    exact tk.len hφ hU hf hk hst he
end
end Fx.K95
/-! k95: least_used and disjoint_paths on data -/
namespace Fx.K95
open PySem Lib Nl
section
variable {n s t : Nat} {A U : List Ar} {φ : Nat → Int}
theorem val_le (R : List Ar) (v : Nat) : val R v ≤ (hd R v).length := by
  induction R with
  | nil => exact Int.le_refl _
  | cons a R ih =>
    have e : dl v a ≤ if a.1 = v then 1 else 0 := by
      unfold dl
      split <;> split <;> omega
    unfold val hd at ih ⊢
    rw [List.map_cons, List.sum_cons, List.filter_cons]
    by_cases z : a.1 = v
    · rw [if_pos z] at e
      rw [if_pos (by simpa using z), List.map_cons, List.length_cons]
      omega
    · rw [if_neg z] at e
      rw [if_neg (by simpa using z)]
      omega
theorem out_lt (o : OkArcs n A) (hs : s < n) (hU : Part A U) : val U s < n := by
  have hUA : ∀ a ∈ U, a ∈ A := fun a ha => by
    rw [hU] at ha
    exact (List.mem_filter.mp ha).1
  have nU : U.Nodup := by
    rw [hU]
    exact (ltA_nd o).sublist List.filter_sublist
  have h1 := val_le U s
  have nd : (s :: hd U s).Nodup := by
    refine List.nodup_cons.mpr ⟨fun h => ?_, ?_⟩
    · obtain ⟨a, ha, e⟩ := List.mem_map.mp h
      obtain ⟨ha, e2⟩ := List.mem_filter.mp ha
      exact (o.rng a (hUA a ha)).2.2 ((of_decide_eq_true e2).trans e.symm)
    · unfold hd
      refine List.pairwise_map.mpr ((nU.sublist List.filter_sublist).imp_of_mem fun {a b} ha hb h e => h ?_)
      have h1 := of_decide_eq_true (List.mem_filter.mp ha).2
      have h2 := of_decide_eq_true (List.mem_filter.mp hb).2
      exact Prod.ext (h1.trans h2.symm) e
  have hl := Lib.nodup_len (n := n) nd fun i hi => by
    rcases List.mem_cons.mp hi with rfl | hi
    · exact hs
    · obtain ⟨a, ha, rfl⟩ := List.mem_map.mp hi
      exact (o.rng a (hUA a (List.mem_filter.mp ha).1)).2.1
  rw [List.length_cons] at hl
  omega
/-- nothing leads on to the goal -/
def NoW (A U : List Ar) (s t : Nat) : Prop := ∀ p, (∀ a ∈ p, a ∈ A) → endOf U s p ≠ some t
theorem noW {g : Nat → Option (Int × List Ar)} (h : BF A U s g) (dn : Done A U g) (ht : g t = none) : NoW A U s t := fun p hp e => by
  obtain ⟨q, hq⟩ := h.start
  obtain ⟨c, r, hr, _⟩ := done_walk dn hq hp e
  rw [ht] at hr
  cases hr
theorem NoW.none {g : Nat → Option (Int × List Ar)} (no : NoW A U s t) (h : BF A U s g) : g t = none := by
  cases hg : g t with
  | none => rfl
  | some x => exact absurd (h.walk t x.1 x.2 hg) (no _ (h.sub t x.1 x.2 hg))
structure Best (A U : List Ar) (s t : Nat) (k : Nat) : Prop where
  part : Part A U
  pot : ∃ φ, Pot A U φ
  flow : ∀ v, val U v = (k : Int) * (dt s v - dt t v)
theorem ne_bb {ρ : En} {fa fb : Fx.M Fx.S} {p q : Bool} (ha : Ev fa ρ (.bl p)) (hb : Ev fb ρ (.bl q)) : Ev (mOp gNe fa fb) ρ (.bl (!(p == q))) := ev_op ha hb (by
  cases p <;> cases q <;> rfl)
theorem least_ok (o : OkArcs n A) (hn : n ≤ 7) (hs : s < n) (ht : t < n) (hst : s ≠ t) : OKF (f_least_used [.d (graphD n A), .d (onesD A), .d (.int (s : Nat)), .d (.int (t : Nat)), .d (.int (n : Nat))]) fun r => ∃ U k, r = .d (.tup (U.map arcD)) ∧ Best A U s t k ∧ NoW A U s t := by
  have hA2 := o.len
  have hz : n * n ≤ 7 * 7 := Nat.mul_le_mul hn hn
  have len_of : ∀ {U}, Part A U → U.length ≤ A.length := fun {U} h => by
    rw [h]
    exact List.length_filter_le _ _
  unfold f_least_used
  refine okF_runF.mpr ⟨rfl, ?_⟩
  show OK (b_least_used [some (.d (graphD n A)), some (.d (onesD A)), some (.d (.int (s : Nat))), some (.d (.int (t : Nat))), some (.d (.int (n : Nat))), none, none, none, none]) _
  unfold b_least_used
  refine sq (asg (ev_tup ea_nil) ⟨rfl, ?_⟩)
  simp only [List.set_cons_succ, List.set_cons_zero]
  refine sqI (forR (n := n) (I := fun k ρ => ∃ (U : List Ar) (x6 x7 : Option Fx.S), Best A U s t k ∧ ρ = [some (.d (graphD n A)), some (.d (onesD A)), some (.d (.int (s : Nat))), some (.d (.int (t : Nat))), some (.d (.int (n : Nat))), some (.d (.tup (U.map arcD))), x6, x7, none]) (ea_cons (ev_var (x := .int (n : Nat)) 4 rfl) ea_nil) (by omega) ⟨[], none, none, ⟨?_, ⟨fun _ => 0, fun a _ => ?_⟩, fun v => ?_⟩, rfl⟩ ?_ ?_)
  · unfold Part
    symm
    rw [List.filter_eq_nil_iff]
    intro a _ z
    exact absurd (of_decide_eq_true z) (by simp)
  · unfold co
    rw [if_neg (by simp)]
    show (0 : Int) ≤ 0 + 1
    omega
  · show (0 : Int) = ((0 : Nat) : Int) * _
    simp
  · rintro k ρ hk ⟨U, x6, x7, b, rfl⟩
    obtain ⟨hU, ⟨φ, hφ⟩, hf⟩ := b
    have hUl := len_of hU
    simp only [List.set_cons_succ, List.set_cons_zero]
    refine sqI ?_
    rw [ok_asg, ok_dv, ok_call]
    refine (ea_cons (ev_var (x := graphD n A) 0 rfl) (ea_cons (ev_var (x := onesD A) 1 rfl) (ea_cons (ev_var (x := .tup (U.map arcD)) 5 rfl) (ea_cons (ev_var (x := .int (s : Nat)) 2 rfl) ea_nil)))).ok ?_
    refine (ways_ok o (by omega) (by omega) hφ hs hn).imp fun r ⟨W, e, bf, dn⟩ => ?_
    subst e
    refine ⟨rfl, gD kN (kvW W), rfl, ?_⟩
    rw [ok_gname]
    refine .inl ⟨rfl, ?_⟩
    simp only [List.set_cons_succ, List.set_cons_zero]
    have i3 := inNG (neg := true) keyN (a := t) (kv := kvW W) (i := 7) (fa := mVar 3) (ρ := [some (.d (graphD n A)), some (.d (onesD A)), some (.d (.int (s : Nat))), some (.d (.int (t : Nat))), some (.d (.int (n : Nat))), some (.d (.tup (U.map arcD))), some (.d (.int (k : Nat))), some (.d (gD kN (kvW W))), none]) rfl (ev_var (x := .int (t : Nat)) 3 rfl)
    rw [if_pos rfl, has_kv] at i3
    refine sqI (ifB (eb_test i3) (fun hb => ?_) fun hb => ?_)
    · have hn : getW W t = none := by
        cases hg : getW W t with
        | none => rfl
        | some x => rw [hg] at hb; cases hb
      refine retE (ev_var (x := .tup (U.map arcD)) 5 rfl) fun s' hs' => .inr ⟨fun z => (nomatch z), finR (.inr ⟨fun z => (nomatch z), ?_⟩)⟩
      have e := toD_back hs' rfl
      exact .inl ⟨s', rfl, U, k, e, ⟨hU, ⟨φ, hφ⟩, hf⟩, noW bf dn hn⟩
    · obtain ⟨x, hx⟩ : ∃ x, getW W t = some x := by
        cases hg : getW W t with
        | none => rw [hg] at hb; cases hb
        | some x => exact ⟨x, rfl⟩
      obtain ⟨c, p⟩ := x
      rw [ok_nx]
      refine .inl ⟨rfl, ?_⟩
      have hpA := bf.sub _ _ _ hx
      have hpn := (bf.rng hs (fun a ha => ⟨(o.rng a ha).1, (o.rng a ha).2.1⟩) hx).1
      have npn : p.Nodup := by
        have := bf.nd _ _ _ hx
        unfold nds at this
        exact (List.pairwise_map.mp (List.nodup_cons.mp this).2).imp fun {a b} h e => h (by rw [e])
      have lc := lcG (emb := arcD) (ls := A) (t := fun a => !(decide (a ∈ U) == decide (a ∈ p))) (f := arcD) (ρ := [some (.d (graphD n A)), some (.d (onesD A)), some (.d (.int (s : Nat))), some (.d (.int (t : Nat))), some (.d (.int (n : Nat))), some (.d (.tup (U.map arcD))), some (.d (.int (k : Nat))), some (.d (gD kN (kvW W))), none]) (fI := iSeq (mFldE "Graph" 1 (mVar 0))) (gm := gmName 8) (ft := mTest (mOp gNe (mOp gIn (mVar 8) (mVar 5)) (mOp gIn (mVar 8) (mOp gIx (mOp gDget (mVar 7) (mVar 3)) (mC (.int 1)))))) (fe := mVar 8) (own := [8]) (E := fun a => [some (.d (graphD n A)), some (.d (onesD A)), some (.d (.int (s : Nat))), some (.d (.int (t : Nat))), some (.d (.int (n : Nat))), some (.d (.tup (U.map arcD))), some (.d (.int (k : Nat))), some (.d (gD kN (kvW W))), some (.d (arcD a))]) (ei_seq (ev_fld (ev_var 0 rfl) rfl) rfl) rfl (fun a ha => eg_name) (fun a ha => by
        have c1 := dgetG (fa := mVar 7) (fb := mVar 3) keyN (a := t) (kv := kvW W) (ρ := [some (.d (graphD n A)), some (.d (onesD A)), some (.d (.int (s : Nat))), some (.d (.int (t : Nat))), some (.d (.int (n : Nat))), some (.d (.tup (U.map arcD))), some (.d (.int (k : Nat))), some (.d (gD kN (kvW W))), some (.d (arcD a))]) (ev_var 7 rfl) (ev_var (x := .int (t : Nat)) 3 rfl) (by rw [getG_kv, hx]; rfl)
        have c2 := ev_ixT (i := 1) (x := .tup (p.map arcD)) c1 ev_c rfl
        exact eb_test (ne_bb (ev_op (ev_var (x := arcD a) 8 rfl) (ev_var (x := .tup (U.map arcD)) 5 rfl) (in_arcs (by omega))) (ev_op (ev_var (x := arcD a) 8 rfl) c2 (in_arcs (by omega))))) (fun a ha _ => ev_var 8 rfl) (fun a ha => rfl) (by omega)
      have ef : (A.filter fun a => !(decide (a ∈ U) == decide (a ∈ p))) = flip A U p := by
        unfold flip
        refine List.filter_congr fun a _ => ?_
        by_cases h1 : a ∈ U <;> by_cases h2 : a ∈ p <;> simp [h1, h2]
      rw [ef] at lc
      refine asg (ev_cb (z := .tup ((flip A U p).map arcD)) (ea_cons lc ea_nil) rfl) (fin ⟨flip A U p, _, _, ⟨flip_part p, pot_flip hφ bf dn hx, fun v => ?_⟩, rfl⟩)
      rw [val_flip (ltA_nd o) hU npn hpA (bf.walk _ _ _ hx) v, hf v]
      have e : ((k + 1 : Nat) : Int) = (k : Int) + 1 := by omega
      rw [e, Int.add_mul]
      show _ + (dt s v - dt t v) = _
      omega
  · rintro ρ ⟨U, x6, x7, b, rfl⟩
    exfalso
    have h1 := out_lt o hs b.part
    have h2 := b.flow s
    have e1 : dt s s = 1 := if_pos rfl
    have e2 : dt t s = 0 := if_neg fun z => hst z.symm
    rw [e1, e2] at h2
    simp at h2
    omega
/-- what disjoint_paths tells -/
structure Told (n : Nat) (A : List Ar) (s t : Nat) (T : List (List Nat)) (R : List Nat) : Prop where
  pth : Pth n A s t T
  srt : gSortA [.tup (T.map pathD)] = some (.o none (.lst (T.map pathD)))
  len : T.length = (cutOf A R).length
  le : T.length < n
  hs : s ∈ R
  ht : t ∉ R
theorem e_cg : f_check_graph = Lib.f_check_graph := rfl
theorem e_cn : f_check_node = Lib.f_check_node := rfl
theorem unlike_ok (hst : s ≠ t) : OKF (f_check_unlike [.d (.int (s : Nat)), .d (.int (t : Nat))]) fun r => r = .d .non := by
  unfold f_check_unlike
  refine okF_runF.mpr ⟨rfl, ?_⟩
  unfold b_check_unlike
  show OK (mIfS _ _ _ [some (.d (.int (s : Nat))), some (.d (.int (t : Nat)))]) _
  refine ifN (eb_test ?_) (.inr ⟨rfl, rfl⟩)
  have := ev_eq (ρ := [some (.d (.int (s : Nat))), some (.d (.int (t : Nat)))]) (fa := mVar 0) (fb := mVar 1) (ev_var 0 rfl) (ev_var 1 rfl)
  have e : decide ((s : Int) = (t : Int)) = false := decide_eq_false (by omega)
  rw [e] at this
  exact this
theorem disjoint_ok (o : OkArcs n A) (hn : n ≤ 7) (hs : s < n) (ht : t < n) (hst : s ≠ t) : OKF (f_disjoint_paths [.d (graphD n A), .d (.int (s : Nat)), .d (.int (t : Nat))]) fun r => ∃ T R, r = .d (.tup [.tup (T.map pathD), .tup ((cutOf A R).map arcD)]) ∧ Told n A s t T R := by
  have hA2 := o.len
  have hz : n * n ≤ 7 * 7 := Nat.mul_le_mul hn hn
  unfold f_disjoint_paths
  refine okF_runF.mpr ⟨rfl, ?_⟩
  show OK (b_disjoint_paths [some (.d (graphD n A)), some (.d (.int (s : Nat))), some (.d (.int (t : Nat))), none, none, none, none, none, none]) _
  unfold b_disjoint_paths
  rw [e_cg, e_cn]
  refine sq (dropE (ev_call (x := .non) (ea_cons (ev_var (x := graphD n A) 0 rfl) ea_nil) check_graph) ⟨rfl, ?_⟩)
  refine sq (dropE (ev_call (x := .non) (ea_cons (ev_var (x := graphD n A) 0 rfl) (ea_cons (ev_var (x := .int (s : Nat)) 1 rfl) ea_nil)) (check_node hs)) ⟨rfl, ?_⟩)
  refine sq (dropE (ev_call (x := .non) (ea_cons (ev_var (x := graphD n A) 0 rfl) (ea_cons (ev_var (x := .int (t : Nat)) 2 rfl) ea_nil)) (check_node ht)) ⟨rfl, ?_⟩)
  refine sq (dropE (ev_call (x := .non) (ea_cons (ev_var (x := .int (s : Nat)) 1 rfl) (ea_cons (ev_var (x := .int (t : Nat)) 2 rfl) ea_nil)) (unlike_ok hst)) ⟨rfl, ?_⟩)
  have el : (A.map arcD).length = A.length := List.length_map _
  have ln : Ev (mCB gLen (aCons (mFldE "Graph" 1 (mVar 0)) aNil)) [some (.d (graphD n A)), some (.d (.int (s : Nat))), some (.d (.int (t : Nat))), none, none, none, none, none, none] (.int (A.length : Nat)) := by
    have := lenT (fa := mFldE "Graph" 1 (mVar 0)) (ρ := [some (.d (graphD n A)), some (.d (.int (s : Nat))), some (.d (.int (t : Nat))), none, none, none, none, none, none]) (ds := A.map arcD) (ev_fld (ev_var 0 rfl) rfl)
    rw [el] at this
    exact this
  have on := Ch.evMulT (fa := mC (.int 1)) (x := .int 1) ev_c ln (by omega)
  have eo : D.tup (List.replicate A.length (.int 1)) = onesD A := by
    show _ = D.tup ((List.replicate A.length (1 : Int)).map D.int)
    rw [List.map_replicate]
  rw [eo] at on
  refine sq (asg on ⟨rfl, ?_⟩)
  simp only [List.set_cons_succ, List.set_cons_zero]
  have ln2 : Ev (mCB gLen (aCons (mFldE "Graph" 0 (mVar 0)) aNil)) [some (.d (graphD n A)), some (.d (.int (s : Nat))), some (.d (.int (t : Nat))), some (.d (onesD A)), none, none, none, none, none] (.int (n : Nat)) := by
    have := lenT (fa := mFldE "Graph" 0 (mVar 0)) (ρ := [some (.d (graphD n A)), some (.d (.int (s : Nat))), some (.d (.int (t : Nat))), some (.d (onesD A)), none, none, none, none, none]) (ds := intsFrom 0 n) (ev_fld (ev_var 0 rfl) rfl)
    rw [intsFrom_length] at this
    exact this
  refine sq ?_
  rw [ok_asg, ok_dv, ok_call]
  refine (ea_cons (ev_var (x := graphD n A) 0 rfl) (ea_cons (ev_var (x := onesD A) 3 rfl) (ea_cons (ev_var (x := .int (s : Nat)) 1 rfl) (ea_cons (ev_var (x := .int (t : Nat)) 2 rfl) (ea_cons ln2 ea_nil))))).ok ?_
  refine (least_ok o hn hs ht hst).imp fun r ⟨U, k, e, b, no⟩ => ?_
  subst e
  refine ⟨rfl, _, rfl, ?_⟩
  rw [ok_gname]
  refine ⟨rfl, ?_⟩
  simp only [List.set_cons_succ, List.set_cons_zero]
  obtain ⟨hU, ⟨φ, hφ⟩, hf⟩ := b
  have hUl : U.length ≤ A.length := by
    rw [hU]
    exact List.length_filter_le _ _
  refine sq ?_
  rw [ok_asg, ok_dv, ok_call]
  refine (ea_cons (ev_var (x := graphD n A) 0 rfl) (ea_cons (ev_var (x := onesD A) 3 rfl) (ea_cons (ev_var (x := .tup (U.map arcD)) 4 rfl) (ea_cons (ev_var (x := .int (s : Nat)) 1 rfl) ea_nil)))).ok ?_
  refine (ways_ok o (by omega) (by omega) hφ hs hn).imp fun r ⟨W, e, bf, dn⟩ => ?_
  subst e
  refine ⟨rfl, gD kN (kvW W), rfl, ?_⟩
  rw [ok_gname]
  refine ⟨rfl, ?_⟩
  simp only [List.set_cons_succ, List.set_cons_zero]
  let R : List Nat := (List.range n).filter fun v => (getW W v).isSome
  have mR : ∀ v, v < n → (v ∈ R ↔ (getW W v).isSome = true) := fun v hv => by
    show v ∈ (List.range n).filter _ ↔ _
    rw [List.mem_filter, List.mem_range]
    exact ⟨fun h => h.2, fun h => ⟨hv, h⟩⟩
  have lc := lcG (emb := arcD) (ls := A) (t := fun a => decide (a.1 ∈ R) && decide (a.2 ∉ R)) (f := arcD) (ρ := [some (.d (graphD n A)), some (.d (.int (s : Nat))), some (.d (.int (t : Nat))), some (.d (onesD A)), some (.d (.tup (U.map arcD))), some (.d (gD kN (kvW W))), none, none, none]) (fI := iSeq (mFldE "Graph" 1 (mVar 0))) (gm := gmTup 2 (gmCons (gmName 7) (gmCons (gmName 8) gmNil))) (ft := mAnd (mTest (mInN false (mVar 7) 5)) (mTest (mInN true (mVar 8) 5))) (fe := mTup (aCons (mVar 7) (aCons (mVar 8) aNil))) (own := [7, 8]) (E := fun a => [some (.d (graphD n A)), some (.d (.int (s : Nat))), some (.d (.int (t : Nat))), some (.d (onesD A)), some (.d (.tup (U.map arcD))), some (.d (gD kN (kvW W))), none, some (.d (.int (a.1 : Nat))), some (.d (.int (a.2 : Nat)))]) (ei_seq (ev_fld (ev_var 0 rfl) rfl) rfl) rfl (fun a ha => eg_2) (fun a ha => by
    have r1 := (o.rng a ha).1
    have r2 := (o.rng a ha).2.1
    have i7 := inNG (neg := false) keyN (a := a.1) (kv := kvW W) (i := 5) (fa := mVar 7) (ρ := [some (.d (graphD n A)), some (.d (.int (s : Nat))), some (.d (.int (t : Nat))), some (.d (onesD A)), some (.d (.tup (U.map arcD))), some (.d (gD kN (kvW W))), none, some (.d (.int (a.1 : Nat))), some (.d (.int (a.2 : Nat)))]) rfl (ev_var (x := .int (a.1 : Nat)) 7 rfl)
    have i8 := inNG (neg := true) keyN (a := a.2) (kv := kvW W) (i := 5) (fa := mVar 8) (ρ := [some (.d (graphD n A)), some (.d (.int (s : Nat))), some (.d (.int (t : Nat))), some (.d (onesD A)), some (.d (.tup (U.map arcD))), some (.d (gD kN (kvW W))), none, some (.d (.int (a.1 : Nat))), some (.d (.int (a.2 : Nat)))]) rfl (ev_var (x := .int (a.2 : Nat)) 8 rfl)
    rw [if_neg (by decide), has_kv] at i7
    rw [if_pos rfl, has_kv] at i8
    have e7 : decide (a.1 ∈ R) = (getW W a.1).isSome := by rw [Bool.eq_iff_iff, decide_eq_true_iff, mR _ r1]
    have e8 : decide (a.2 ∉ R) = !(getW W a.2).isSome := by rw [Bool.eq_iff_iff, decide_eq_true_iff, mR _ r2]; simp
    rw [e7, e8]
    exact eb_and (eb_test i7) fun _ => eb_test i8) (fun a ha _ => ev_tup (ea_cons (ev_var 7 rfl) (ea_cons (ev_var 8 rfl) ea_nil))) (fun a ha => rfl) (by omega)
  have lc : Ev _ _ (.lst ((cutOf A R).map arcD)) := lc
  refine sq (asg lc ⟨rfl, ?_⟩)
  simp only [List.set_cons_succ, List.set_cons_zero]
  have hsR : s ∈ R := (mR s hs).mpr (by obtain ⟨p, hp⟩ := bf.start; rw [hp]; rfl)
  have htR : t ∉ R := fun z => by
    have := (mR t ht).mp z
    rw [no.none bf] at this
    cases this
  have cl := cut_len (s := s) (t := t) (k := (k : Int)) hU (R := R) (List.nodup_range.sublist List.filter_sublist) (fun a ha h => by
    have r1 := (o.rng a ha).1
    have r2 := (o.rng a ha).2.1
    have hfr : fr U a < n := by unfold fr; split <;> omega
    have hto : to U a < n := by unfold to; split <;> omega
    have h := (mR _ hfr).mp h
    cases hg : getW W (fr U a) with
    | none => rw [hg] at h; cases h
    | some x =>
      obtain ⟨cy, py, hy, _⟩ := dn a ha x.1 x.2 hg
      exact (mR _ hto).mpr (by rw [hy]; rfl)) hf hsR htR
  have hkn : k < n := by
    have h1 := out_lt o hs hU
    have h2 := hf s
    have e1 : dt s s = 1 := if_pos rfl
    have e2 : dt t s = 0 := if_neg fun z => hst z.symm
    rw [e1, e2] at h2
    simp at h2
    omega
  rw [ok_ret, ok_tup, ok_cons, ok_dv, ok_call]
  refine (ea_cons (ev_var (x := graphD n A) 0 rfl) (ea_cons (ev_var (x := .tup (U.map arcD)) 4 rfl) (ea_cons (ev_var (x := .int (s : Nat)) 1 rfl) (ea_cons (ev_var (x := .int (t : Nat)) 2 rfl) ea_nil)))).ok ?_
  refine (paths_of_ok o hn hs ht hst hU hφ hf (by omega)).imp fun r ⟨T, e, pth, hl, srt⟩ => ?_
  subst e
  refine ⟨rfl, _, rfl, ?_⟩
  refine (ea_cons (ev_cb (g := gTuple) (z := .tup ((cutOf A R).map arcD)) (ea_cons (ev_var (x := .lst ((cutOf A R).map arcD)) 6 rfl) ea_nil) rfl) ea_nil).ok ⟨rfl, .inl ⟨_, rfl, T, R, rfl, pth, srt, ?_, ?_, hsR, htR⟩⟩
  · omega
  · omega
end
end Fx.K95
/-! k95: the law on data -/
namespace Fx.K95
open PySem Lib Nl
theorem e_graph : f_law_graph = Lib.f_law_graph := rfl
theorem e_init : f_Graph_init = Lib.f_Graph_init := rfl
theorem e_taken : f_law_taken = Lib.f_law_taken := rfl
theorem in_ok {p : Ar} {as : List Ar} (hl : as.length ≤ 1000000) : (pl60 (arcD p) && plA 60 (as.map arcD)) = true ∧ inD (arcD p) (as.map arcD) = decide (p ∈ as) := by
  have h := in_arcs (p := p) hl
  change (if (pl60 (arcD p) && plA 60 (as.map arcD)) = true then ok1 (.bl (inD (arcD p) (as.map arcD))) else none) = _ at h
  split at h
  · rename_i k
    refine ⟨k, ?_⟩
    injection h with h
    injection h with h
    injection h with h
  · cases h
theorem notin_arcs {p : Ar} {as : List Ar} (hl : as.length ≤ 1000000) : gNotIn (arcD p) (.tup (as.map arcD)) = some (.d (.bl (!decide (p ∈ as)))) := by
  obtain ⟨h1, h2⟩ := in_ok (p := p) hl
  show (if (pl60 (arcD p) && plA 60 (as.map arcD)) = true then ok1 (.bl (!inD (arcD p) (as.map arcD))) else none) = _
  rw [if_pos h1, h2]
  rfl
theorem in_arcsL {p : Ar} {as : List Ar} (hl : as.length ≤ 1000000) : gIn (arcD p) (.lst (as.map arcD)) = some (.d (.bl (decide (p ∈ as)))) := by
  obtain ⟨h1, h2⟩ := in_ok (p := p) hl
  show (if (pl60 (arcD p) && plA 60 (as.map arcD)) = true then ok1 (.bl (inD (arcD p) (as.map arcD))) else none) = _
  rw [if_pos h1, h2]
  rfl
theorem par2DO {ρ : En} {i j : Nat} {fe fa : Fx.M Fx.S} {x y : D} {PF : Fl → En → Prop} (h : Ev fe ρ x) (k : Ev fa ρ y) (q : PF .nx ((ρ.set j (some (.o none (.lst [y])))).set i (some (.d x)))) : OK (mPar2 i false j true (psCons fe (psCons (mLst (aCons fa aNil)) psNil)) ρ) PF := by
  refine ok_par2 ?_
  rw [ok_psCons]
  refine h.raw.imp fun s1 ρ1 ⟨e1, e2⟩ => ?_
  subst e2
  rw [ok_psCons, ok_lst]
  refine (ea_cons k ea_nil).ok ⟨rfl, ?_⟩
  rw [ok_psNil]
  refine ⟨_, _, .d x, .o none (.lst [y]), rfl, ?_, rfl, q⟩
  show (toD s1).map S.d = some (.d x)
  rw [e1]
  rfl
theorem nd1 (a : Nat) : [a].Nodup := by simp
/-- the arcs that are not cut -/
def lft (A : List Ar) (R : List Nat) : List Ar := A.filter fun a => !decide (a ∈ cutOf A R)
theorem flat_take {T : List (List Nat)} {k : Nat} {p : List Nat} (h : T[k]? = some p) : ((T.take (k + 1)).map prs).flatten = ((T.take k).map prs).flatten ++ prs p := by
  rw [List.take_add_one, h, List.map_append, List.flatten_append]
  simp
theorem not_before {T : List (List Nat)} (nd : (T.map prs).flatten.Nodup) {k : Nat} {p : List Nat} (h : T[k]? = some p) {x : Ar} (hx : x ∈ prs p) : x ∉ ((T.take k).map prs).flatten := fun hy => by
  have e : (T.map prs).flatten = ((T.take (k + 1)).map prs).flatten ++ ((T.drop (k + 1)).map prs).flatten := by
    rw [← List.flatten_append, ← List.map_append, List.take_append_drop]
  rw [e, flat_take h, List.append_assoc] at nd
  obtain ⟨_, _, h3⟩ := List.nodup_append.mp nd
  exact h3 x hy x (List.mem_append_left _ hx) rfl
theorem flat_le {T : List (List Nat)} {A : List Ar} (nA : A.Nodup) (nd : (T.map prs).flatten.Nodup) (sub : ∀ a ∈ (T.map prs).flatten, a ∈ A) (k : Nat) : ((T.take k).map prs).flatten.length ≤ A.length := by
  have e : (T.map prs).flatten = ((T.take k).map prs).flatten ++ ((T.drop k).map prs).flatten := by
    rw [← List.flatten_append, ← List.map_append, List.take_append_drop]
  have pm : (A.filter fun a => decide (a ∈ (T.map prs).flatten)).Perm (T.map prs).flatten := (List.perm_ext_iff_of_nodup (nA.sublist List.filter_sublist) nd).mpr fun a => by
    rw [List.mem_filter, decide_eq_true_iff]
    exact ⟨fun h => h.2, fun h => ⟨sub a h, h⟩⟩
  have h := List.length_filter_le (fun a => decide (a ∈ (T.map prs).flatten)) A
  rw [pm.length_eq] at h
  rw [e, List.length_append] at h
  omega
theorem law_pure (ns : List Int) (hns : ns.length ≤ 63) : ∃ ρ, f_law [.d (.scr ns)] = .ok (.d (.bl true)) ρ := by
  have key : OK (f_law [.d (.scr ns)]) fun s _ => s = .d (.bl true) := by
    unfold f_law
    refine ok_runF rfl ?_
    show OK (b_law [some (.d (.scr ns)), none, none, none, none, none, none, none, none, none, none, none, none, none, none, none, none, none, none, none, none]) _
    unfold b_law
    rw [e_graph, e_taken, e_init]
    refine sq (F := mAsgO 1 _) ?_
    · rw [ok_asgO, ok_lst]
      refine (ea_cons (ev_var (x := .scr ns) 0 rfl) (ea_cons ev_c (ea_cons ev_c (ea_cons ev_c ea_nil)))).ok ⟨rfl, .inl ⟨_, rfl, rfl, ?_⟩⟩
      simp only [List.set_cons_succ, List.set_cons_zero]
      refine sqI (forR (n := 3) (I := fun k ρ => ∃ a b c x2 x3 x4 x5 x6 x7 x8 x9 x11 x12 x13 x15 x16 x17 x18 x19 x20, RowOk a b c ∧ ρ = [some (.d (.scr ns)), rowS none ns a b c, x2, x3, x4, x5, x6, x7, x8, x9, none, x11, x12, x13, none, x15, x16, x17, x18, x19, x20]) (ea_cons ev_c ea_nil) (by omega) ⟨0, 3595, 0, _, _, _, _, _, _, _, _, _, _, _, _, _, _, _, _, _, by unfold RowOk; decide, rfl⟩ ?_ ?_)
      rotate_left
      · rintro ρ ⟨a, b, c, x2, x3, x4, x5, x6, x7, x8, x9, x11, x12, x13, x15, x16, x17, x18, x19, x20, h, rfl⟩
        exact .inl ⟨rfl, retE ev_c fun s hs => .inl ⟨s, rfl, toD_back hs rfl⟩⟩
      rintro k ρ hk ⟨a, b, c, x2, x3, x4, x5, x6, x7, x8, x9, x11, x12, x13, x15, x16, x17, x18, x19, x20, h, rfl⟩
      simp only [List.set_cons_succ, List.set_cons_zero]
      generalize some (S.d (D.int (k : Nat))) = x2
      refine sq ?_
      rw [ok_asg, ok_dv]
      refine ok_rowF (r := 1) (o := none) (ns := ns) (a := a) (b := b) (c := c) (ds := [.int 7]) (Pv := fun s => ∃ (n : Nat) (as : List (Nat × Nat)) (ws : List Int), s = .d (.tup [.int n, .tup (as.map arcD), wsD ws]) ∧ 2 ≤ n ∧ n ≤ 7 ∧ OkArcs n as ∧ OkW as ws) rfl ((ea_cons ev_c ea_nil).ok ⟨rfl, rfl⟩) ((law_graph (most := 7) h (by decide) (by decide)).imp ?_) ?_
      · rintro s ρ' ⟨n, as, ws, a, b, c, rfl, n1, n2, o, w1, w2, h, ρ2, rfl⟩
        exact ⟨⟨n, as, ws, rfl, n1, by omega, o, w1, w2⟩, rfl, a, b, c, h, ρ2, rfl⟩
      rintro _ a b c ⟨n, A, ws, rfl, n1, n2, o, w⟩ h
      refine ⟨_, rfl, ?_⟩
      refine @ok_gtup3 _ _ _ _ _ _ _ _ ?_
      refine ⟨rfl, ?_⟩
      simp only [List.set_cons_succ, List.set_cons_zero]
      have hA2 := o.len
      have hz : n * n ≤ 7 * 7 := Nat.mul_le_mul n2 n2
      refine sq ?_
      refine ok_par2 ?_
      rw [ok_psCons]
      refine ok_taken (m := n) (a := a) (b := b) (c := c) (ns := ns) (o := none) rfl h ((ev_var 3 rfl).dv ⟨rfl, rfl⟩) (by omega) (by omega) fun u a b c u0 u1 h => ?_
      rw [ok_psCons]
      refine ok_taken (m := n) (a := a) (b := b) (c := c) (ns := ns) (o := none) rfl h ((ev_var 3 rfl).dv ⟨rfl, rfl⟩) (by omega) (by omega) fun v a b c v0 v1 h => ?_
      rw [ok_psNil]
      obtain ⟨s, rfl⟩ := Int.eq_ofNat_of_zero_le u0
      obtain ⟨t, rfl⟩ := Int.eq_ofNat_of_zero_le v0
      refine ⟨_, _, _, _, rfl, rfl, rfl, rfl, ?_⟩
      simp only [List.set_cons_succ, List.set_cons_zero]
      have hs : s < n := by omega
      have ht : t < n := by omega
      refine ifB (eb_test (ev_ne (ev_var (x := .int (s : Nat)) 6 rfl) (ev_var (x := .int (t : Nat)) 7 rfl))) (fun hb => ?_) fun hb => ?_
      rotate_left
      · rw [ok_nx]
        exact fin ⟨a, b, c, _, _, _, _, _, _, _, _, _, _, _, _, _, _, _, _, _, h, rfl⟩
      have hst : s ≠ t := fun z => by
        rw [z] at hb
        simp at hb
      have mk : Ev (mMake "Graph" 2 Lib.f_Graph_init (aCons (mVar 3) (aCons (mVar 4) aNil))) [some (.d (.scr ns)), rowS none ns a b c, x2, some (.d (.int (n : Nat))), some (.d (.tup (A.map arcD))), some (.d (wsD ws)), some (.d (.int (s : Nat))), some (.d (.int (t : Nat))), x8, x9, none, x11, x12, x13, none, x15, x16, x17, x18, x19, x20] (graphD n A) := by
        unfold Ev
        rw [ok_dv]
        refine ok_make ?_
        refine (ea_cons (ev_var (x := .int (n : Nat)) 3 rfl) (ea_cons (ev_var (x := .tup (A.map arcD)) 4 rfl) ea_nil)).ok ?_
        exact (madeG o (by omega) (by omega)).imp fun s ρ' ⟨e1, e2⟩ => ⟨e1, _, e2, rfl, _, rfl, rfl, rfl⟩
      refine sq ?_
      rw [ok_asg, ok_dv, ok_call]
      refine (ea_cons mk (ea_cons (ev_var (x := .int (s : Nat)) 6 rfl) (ea_cons (ev_var (x := .int (t : Nat)) 7 rfl) ea_nil))).ok ?_
      refine (disjoint_ok o n2 hs ht hst).imp fun r ⟨T, R, e, told⟩ => ?_
      subst e
      refine ⟨rfl, _, rfl, ?_⟩
      refine ok_gtup2 ?_
      refine ⟨rfl, ?_⟩
      simp only [List.set_cons_succ, List.set_cons_zero]
      obtain ⟨pth, srt, hlen, hle, hsR, htR⟩ := told
      have hcl : (cutOf A R).length ≤ A.length := List.length_filter_le _ _
      have hTl : T.length ≤ 7 := by omega
      refine sq ?_
      have t1 : Ev (mCB gIsi (aCons (mVar 8) (aCons (mC (.ty "tuple")) aNil))) [some (.d (.scr ns)), rowS none ns a b c, x2, some (.d (.int (n : Nat))), some (.d (.tup (A.map arcD))), some (.d (wsD ws)), some (.d (.int (s : Nat))), some (.d (.int (t : Nat))), some (.d (.tup (T.map pathD))), some (.d (.tup ((cutOf A R).map arcD))), none, x11, x12, x13, none, x15, x16, x17, x18, x19, x20] (.bl true) := ev_cb (ea_cons (ev_var (x := .tup (T.map pathD)) 8 rfl) (ea_cons ev_c ea_nil)) rfl
      have t2 : Ev (mOp gNe (mCB gList (aCons (mVar 8) aNil)) (mCB gSortA (aCons (mVar 8) aNil))) [some (.d (.scr ns)), rowS none ns a b c, x2, some (.d (.int (n : Nat))), some (.d (.tup (A.map arcD))), some (.d (wsD ws)), some (.d (.int (s : Nat))), some (.d (.int (t : Nat))), some (.d (.tup (T.map pathD))), some (.d (.tup ((cutOf A R).map arcD))), none, x11, x12, x13, none, x15, x16, x17, x18, x19, x20] (.bl false) := ev_op (x := .lst (T.map pathD)) (y := .lst (T.map pathD)) (cbZ (ea_cons (ev_var (x := .tup (T.map pathD)) 8 rfl) ea_nil) rfl rfl) (cbZ (ea_cons (ev_var (x := .tup (T.map pathD)) 8 rfl) ea_nil) srt rfl) (gNe_self (Ch.pl_paths T))
      have t3 : Ev (mOp gNe (mCB gLen (aCons (mVar 8) aNil)) (mCB gLen (aCons (mVar 9) aNil))) [some (.d (.scr ns)), rowS none ns a b c, x2, some (.d (.int (n : Nat))), some (.d (.tup (A.map arcD))), some (.d (wsD ws)), some (.d (.int (s : Nat))), some (.d (.int (t : Nat))), some (.d (.tup (T.map pathD))), some (.d (.tup ((cutOf A R).map arcD))), none, x11, x12, x13, none, x15, x16, x17, x18, x19, x20] (.bl false) := by
        have l1 := lenT (fa := mVar 8) (ds := T.map pathD) (ρ := [some (.d (.scr ns)), rowS none ns a b c, x2, some (.d (.int (n : Nat))), some (.d (.tup (A.map arcD))), some (.d (wsD ws)), some (.d (.int (s : Nat))), some (.d (.int (t : Nat))), some (.d (.tup (T.map pathD))), some (.d (.tup ((cutOf A R).map arcD))), none, x11, x12, x13, none, x15, x16, x17, x18, x19, x20]) (ev_var 8 rfl)
        have l2 := lenT (fa := mVar 9) (ds := (cutOf A R).map arcD) (ρ := [some (.d (.scr ns)), rowS none ns a b c, x2, some (.d (.int (n : Nat))), some (.d (.tup (A.map arcD))), some (.d (wsD ws)), some (.d (.int (s : Nat))), some (.d (.int (t : Nat))), some (.d (.tup (T.map pathD))), some (.d (.tup ((cutOf A R).map arcD))), none, x11, x12, x13, none, x15, x16, x17, x18, x19, x20]) (ev_var 9 rfl)
        rw [List.length_map] at l1 l2
        have l3 := ev_ne l1 l2
        have e : decide ((T.length : Int) = ((cutOf A R).length : Int)) = true := decide_eq_true (by omega)
        rw [e] at l3
        exact l3
      have t4 : Ev (mOp gNe (mLc (iSeq (mVar 9)) (gmName 10) (mTest (mOp gNotIn (mVar 10) (mVar 4))) (mVar 10) [10]) (mLst aNil)) [some (.d (.scr ns)), rowS none ns a b c, x2, some (.d (.int (n : Nat))), some (.d (.tup (A.map arcD))), some (.d (wsD ws)), some (.d (.int (s : Nat))), some (.d (.int (t : Nat))), some (.d (.tup (T.map pathD))), some (.d (.tup ((cutOf A R).map arcD))), none, x11, x12, x13, none, x15, x16, x17, x18, x19, x20] (.bl false) := by
        have lc := lcG (emb := arcD) (ls := cutOf A R) (t := fun a => !decide (a ∈ A)) (f := arcD) (ρ := [some (.d (.scr ns)), rowS none ns a b c, x2, some (.d (.int (n : Nat))), some (.d (.tup (A.map arcD))), some (.d (wsD ws)), some (.d (.int (s : Nat))), some (.d (.int (t : Nat))), some (.d (.tup (T.map pathD))), some (.d (.tup ((cutOf A R).map arcD))), none, x11, x12, x13, none, x15, x16, x17, x18, x19, x20]) (fI := iSeq (mVar 9)) (gm := gmName 10) (ft := mTest (mOp gNotIn (mVar 10) (mVar 4))) (fe := mVar 10) (own := [10]) (E := fun z => [some (.d (.scr ns)), rowS none ns a b c, x2, some (.d (.int (n : Nat))), some (.d (.tup (A.map arcD))), some (.d (wsD ws)), some (.d (.int (s : Nat))), some (.d (.int (t : Nat))), some (.d (.tup (T.map pathD))), some (.d (.tup ((cutOf A R).map arcD))), some (.d (arcD z)), x11, x12, x13, none, x15, x16, x17, x18, x19, x20]) (ei_seq (ev_var (x := .tup ((cutOf A R).map arcD)) 9 rfl) rfl) rfl (fun a ha => eg_name) (fun a ha => eb_test (ev_op (ev_var (x := arcD a) 10 rfl) (ev_var (x := .tup (A.map arcD)) 4 rfl) (notin_arcs (by omega)))) (fun a ha _ => ev_var 10 rfl) (fun a ha => rfl) (by omega)
        have e : ((cutOf A R).filter fun a => !decide (a ∈ A)) = [] := List.filter_eq_nil_iff.mpr fun a ha => by
          have : a ∈ A := (List.mem_filter.mp ha).1
          simp [this]
        rw [e] at lc
        exact ev_op lc (ev_lst ea_nil) rfl
      refine ifN ?_ ⟨rfl, ?_⟩
      · have := eb_or (eb_not (eb_test t1)) fun _ => eb_or (eb_test t2) fun _ => eb_or (eb_test t3) fun _ => eb_test t4
        exact this
      refine sq (asg (ev_lst ea_nil) ⟨rfl, ?_⟩)
      simp only [List.set_cons_succ, List.set_cons_zero]
      refine sqI (forG (emb := pathD) (ls := T) (I := fun k ρ => ∃ x12 x13, ρ = [some (.d (.scr ns)), rowS none ns a b c, x2, some (.d (.int (n : Nat))), some (.d (.tup (A.map arcD))), some (.d (wsD ws)), some (.d (.int (s : Nat))), some (.d (.int (t : Nat))), some (.d (.tup (T.map pathD))), some (.d (.tup ((cutOf A R).map arcD))), none, some (.d (.lst (((T.take k).map prs).flatten.map arcD))), x12, x13, none, x15, x16, x17, x18, x19, x20]) (ei_seq (ev_var (x := .tup (T.map pathD)) 8 rfl) rfl) ⟨_, _, rfl⟩ ?_ ?_)
      · rintro k p ρ hp ⟨x12, x13, rfl⟩
        refine ⟨_, eg_name, ?_⟩
        simp only [List.set_cons_succ, List.set_cons_zero]
        have hpm := List.mem_of_getElem? hp
        obtain ⟨hd1, hd2⟩ := pth.ends p hpm
        have npd := pth.simp p hpm
        have hsub : ∀ a ∈ prs p, a ∈ A := fun a ha => pth.sub a (List.mem_flatten.mpr ⟨_, List.mem_map_of_mem hpm, ha⟩)
        have hf1 := flat_le (ltA_nd o) pth.nd pth.sub k
        have hf2 := flat_le (ltA_nd o) pth.nd pth.sub (k + 1)
        rw [flat_take hp, List.length_append, prs_len] at hf2
        have hp0 : p ≠ [] := fun z => by rw [z] at hd1; cases hd1
        have hpl : 1 ≤ p.length := List.length_pos_iff.mpr hp0
        have st : Ev (mLc (iRange1 (aCons (mOp gMinus (mCB gLen (aCons (mVar 12) aNil)) (mC (.int 1))) aNil)) (gmName 14) mYes (mSl (mVar 12) (oSome (mVar 14)) (oSome (mOp gAdd (mVar 14) (mC (.int 2))))) [14]) [some (.d (.scr ns)), rowS none ns a b c, x2, some (.d (.int (n : Nat))), some (.d (.tup (A.map arcD))), some (.d (wsD ws)), some (.d (.int (s : Nat))), some (.d (.int (t : Nat))), some (.d (.tup (T.map pathD))), some (.d (.tup ((cutOf A R).map arcD))), none, some (.d (.lst (((T.take k).map prs).flatten.map arcD))), some (.d (pathD p)), x13, none, x15, x16, x17, x18, x19, x20] (.lst ((prs p).map arcD)) := by
          have := mapI (L := List.range (p.length - 1)) (k := 14) (fI := iRange1 (aCons (mOp gMinus (mCB gLen (aCons (mVar 12) aNil)) (mC (.int 1))) aNil)) (f := fun i => arcD (p.getD i 0, p.getD (i + 1) 0)) (ρ := [some (.d (.scr ns)), rowS none ns a b c, x2, some (.d (.int (n : Nat))), some (.d (.tup (A.map arcD))), some (.d (wsD ws)), some (.d (.int (s : Nat))), some (.d (.int (t : Nat))), some (.d (.tup (T.map pathD))), some (.d (.tup ((cutOf A R).map arcD))), none, some (.d (.lst (((T.take k).map prs).flatten.map arcD))), some (.d (pathD p)), x13, none, x15, x16, x17, x18, x19, x20]) (fe := mSl (mVar 12) (oSome (mVar 14)) (oSome (mOp gAdd (mVar 14) (mC (.int 2))))) (range1 (n := p.length - 1) (ea_cons (sub1 (lenN (L := p) (ev_var 12 rfl)) (by omega)) ea_nil) (by omega) ⟨ints_nl _, rfl⟩) rfl (fun i hi => by
            have hi := List.mem_range.mp hi
            exact sl2 (L := p) (ev_var 12 rfl) (ev_var (x := .int (i : Nat)) 14 rfl) (addN (c := 2) (ev_var (x := .int (i : Nat)) 14 rfl) ev_c) (getD_at (by omega)) (getD_at (by omega))) (by rw [List.length_range]; omega)
          have e : (prs p).map arcD = (List.range (p.length - 1)).map fun i => arcD (p.getD i 0, p.getD (i + 1) 0) := by
            unfold prs
            rw [zip_range, List.map_map]
            rfl
          rw [e]
          exact this
        refine sq (asg st ⟨rfl, ?_⟩)
        simp only [List.set_cons_succ, List.set_cons_zero]
        refine sq ?_
        have c1 : Ev (mOp gNe (mOp gIx (mVar 12) (mC (.int 0))) (mVar 6)) [some (.d (.scr ns)), rowS none ns a b c, x2, some (.d (.int (n : Nat))), some (.d (.tup (A.map arcD))), some (.d (wsD ws)), some (.d (.int (s : Nat))), some (.d (.int (t : Nat))), some (.d (.tup (T.map pathD))), some (.d (.tup ((cutOf A R).map arcD))), none, some (.d (.lst (((T.take k).map prs).flatten.map arcD))), some (.d (pathD p)), some (.d (.lst ((prs p).map arcD))), none, x15, x16, x17, x18, x19, x20] (.bl false) := by
          have i0 := ixN (L := p) (i := 0) (v := s) (fa := mVar 12) (fb := mC (.int 0)) (ρ := [some (.d (.scr ns)), rowS none ns a b c, x2, some (.d (.int (n : Nat))), some (.d (.tup (A.map arcD))), some (.d (wsD ws)), some (.d (.int (s : Nat))), some (.d (.int (t : Nat))), some (.d (.tup (T.map pathD))), some (.d (.tup ((cutOf A R).map arcD))), none, some (.d (.lst (((T.take k).map prs).flatten.map arcD))), some (.d (pathD p)), some (.d (.lst ((prs p).map arcD))), none, x15, x16, x17, x18, x19, x20]) (ev_var 12 rfl) ev_c (by rw [← List.head?_eq_getElem?]; exact hd1)
          have := ev_ne i0 (ev_var (x := .int (s : Nat)) 6 rfl)
          simpa using this
        have c2 : Ev (mOp gNe (mOp gIx (mVar 12) (mUn gNeg (mC (.int 1)))) (mVar 7)) [some (.d (.scr ns)), rowS none ns a b c, x2, some (.d (.int (n : Nat))), some (.d (.tup (A.map arcD))), some (.d (wsD ws)), some (.d (.int (s : Nat))), some (.d (.int (t : Nat))), some (.d (.tup (T.map pathD))), some (.d (.tup ((cutOf A R).map arcD))), none, some (.d (.lst (((T.take k).map prs).flatten.map arcD))), some (.d (pathD p)), some (.d (.lst ((prs p).map arcD))), none, x15, x16, x17, x18, x19, x20] (.bl false) := by
          have i0 := lastN (L := p) (v := t) (fa := mVar 12) (ρ := [some (.d (.scr ns)), rowS none ns a b c, x2, some (.d (.int (n : Nat))), some (.d (.tup (A.map arcD))), some (.d (wsD ws)), some (.d (.int (s : Nat))), some (.d (.int (t : Nat))), some (.d (.tup (T.map pathD))), some (.d (.tup ((cutOf A R).map arcD))), none, some (.d (.lst (((T.take k).map prs).flatten.map arcD))), some (.d (pathD p)), some (.d (.lst ((prs p).map arcD))), none, x15, x16, x17, x18, x19, x20]) (ev_var 12 rfl) hd2
          have := ev_ne i0 (ev_var (x := .int (t : Nat)) 7 rfl)
          simpa using this
        have c3 : Ev (mOp gNe (mUn gSetL (mVar 12)) (mCB gLen (aCons (mVar 12) aNil))) [some (.d (.scr ns)), rowS none ns a b c, x2, some (.d (.int (n : Nat))), some (.d (.tup (A.map arcD))), some (.d (wsD ws)), some (.d (.int (s : Nat))), some (.d (.int (t : Nat))), some (.d (.tup (T.map pathD))), some (.d (.tup ((cutOf A R).map arcD))), none, some (.d (.lst (((T.take k).map prs).flatten.map arcD))), some (.d (pathD p)), some (.d (.lst ((prs p).map arcD))), none, x15, x16, x17, x18, x19, x20] (.bl false) := by
          have l1 := Up.setLenN (L := p) (M := p) (fe := mVar 12) (ρ := [some (.d (.scr ns)), rowS none ns a b c, x2, some (.d (.int (n : Nat))), some (.d (.tup (A.map arcD))), some (.d (wsD ws)), some (.d (.int (s : Nat))), some (.d (.int (t : Nat))), some (.d (.tup (T.map pathD))), some (.d (.tup ((cutOf A R).map arcD))), none, some (.d (.lst (((T.take k).map prs).flatten.map arcD))), some (.d (pathD p)), some (.d (.lst ((prs p).map arcD))), none, x15, x16, x17, x18, x19, x20]) (ev_var 12 rfl) (by omega) npd fun v => Iff.rfl
          have := ev_ne l1 (lenN (L := p) (fa := mVar 12) (ev_var 12 rfl))
          simpa using this
        have c4 : Ev (mOp gNe (mLc (iSeq (mVar 13)) (gmName 10) (mOr (mTest (mOp gNotIn (mVar 10) (mVar 4))) (mTest (mOp gIn (mVar 10) (mVar 11)))) (mVar 10) [10]) (mLst aNil)) [some (.d (.scr ns)), rowS none ns a b c, x2, some (.d (.int (n : Nat))), some (.d (.tup (A.map arcD))), some (.d (wsD ws)), some (.d (.int (s : Nat))), some (.d (.int (t : Nat))), some (.d (.tup (T.map pathD))), some (.d (.tup ((cutOf A R).map arcD))), none, some (.d (.lst (((T.take k).map prs).flatten.map arcD))), some (.d (pathD p)), some (.d (.lst ((prs p).map arcD))), none, x15, x16, x17, x18, x19, x20] (.bl false) := by
          have lc := lcG (emb := arcD) (ls := prs p) (t := fun a => !decide (a ∈ A) || decide (a ∈ ((T.take k).map prs).flatten)) (f := arcD) (ρ := [some (.d (.scr ns)), rowS none ns a b c, x2, some (.d (.int (n : Nat))), some (.d (.tup (A.map arcD))), some (.d (wsD ws)), some (.d (.int (s : Nat))), some (.d (.int (t : Nat))), some (.d (.tup (T.map pathD))), some (.d (.tup ((cutOf A R).map arcD))), none, some (.d (.lst (((T.take k).map prs).flatten.map arcD))), some (.d (pathD p)), some (.d (.lst ((prs p).map arcD))), none, x15, x16, x17, x18, x19, x20]) (fI := iSeq (mVar 13)) (gm := gmName 10) (ft := mOr (mTest (mOp gNotIn (mVar 10) (mVar 4))) (mTest (mOp gIn (mVar 10) (mVar 11)))) (fe := mVar 10) (own := [10]) (E := fun z => [some (.d (.scr ns)), rowS none ns a b c, x2, some (.d (.int (n : Nat))), some (.d (.tup (A.map arcD))), some (.d (wsD ws)), some (.d (.int (s : Nat))), some (.d (.int (t : Nat))), some (.d (.tup (T.map pathD))), some (.d (.tup ((cutOf A R).map arcD))), some (.d (arcD z)), some (.d (.lst (((T.take k).map prs).flatten.map arcD))), some (.d (pathD p)), some (.d (.lst ((prs p).map arcD))), none, x15, x16, x17, x18, x19, x20]) (ei_seq (ev_var (x := .lst ((prs p).map arcD)) 13 rfl) rfl) rfl (fun a ha => eg_name) (fun a ha => eb_or (eb_test (ev_op (ev_var (x := arcD a) 10 rfl) (ev_var (x := .tup (A.map arcD)) 4 rfl) (notin_arcs (by omega)))) fun _ => eb_test (ev_op (ev_var (x := arcD a) 10 rfl) (ev_var (x := .lst (((T.take k).map prs).flatten.map arcD)) 11 rfl) (in_arcsL (by omega)))) (fun a ha _ => ev_var 10 rfl) (fun a ha => rfl) (by rw [prs_len]; omega)
          have e : ((prs p).filter fun a => !decide (a ∈ A) || decide (a ∈ ((T.take k).map prs).flatten)) = [] := List.filter_eq_nil_iff.mpr fun a ha => by
            have h1 := hsub a ha
            have h2 := not_before pth.nd hp ha
            rw [decide_eq_true h1, decide_eq_false h2]
            simp
          rw [e] at lc
          exact ev_op lc (ev_lst ea_nil) rfl
        refine ifN ?_ ⟨rfl, ?_⟩
        · have := eb_or (eb_test c1) fun _ => eb_or (eb_test c2) fun _ => eb_or (eb_test c3) fun _ => eb_test c4
          exact this
        have ad : Ev (mOp gAdd (mVar 11) (mVar 13)) [some (.d (.scr ns)), rowS none ns a b c, x2, some (.d (.int (n : Nat))), some (.d (.tup (A.map arcD))), some (.d (wsD ws)), some (.d (.int (s : Nat))), some (.d (.int (t : Nat))), some (.d (.tup (T.map pathD))), some (.d (.tup ((cutOf A R).map arcD))), none, some (.d (.lst (((T.take k).map prs).flatten.map arcD))), some (.d (pathD p)), some (.d (.lst ((prs p).map arcD))), none, x15, x16, x17, x18, x19, x20] (.lst ((((T.take k).map prs).flatten ++ prs p).map arcD)) := by
          rw [List.map_append]
          exact ev_catL (ev_var 11 rfl) (ev_var 13 rfl) (decide_eq_true (by rw [List.length_map, List.length_map, prs_len]; show _ ≤ 16777216; omega))
        rw [← flat_take hp] at ad
        exact asg ad (fin ⟨_, _, rfl⟩)
      · rintro ρ ⟨x12, x13, rfl⟩
        rw [List.take_length]
        refine .inl ⟨rfl, ?_⟩
        generalize some (S.d (D.lst ((T.map prs).flatten.map arcD))) = x11
        have lf : Ev (mLc (iSeq (mVar 4)) (gmName 10) (mTest (mOp gNotIn (mVar 10) (mVar 9))) (mVar 10) [10]) [some (.d (.scr ns)), rowS none ns a b c, x2, some (.d (.int (n : Nat))), some (.d (.tup (A.map arcD))), some (.d (wsD ws)), some (.d (.int (s : Nat))), some (.d (.int (t : Nat))), some (.d (.tup (T.map pathD))), some (.d (.tup ((cutOf A R).map arcD))), none, x11, x12, x13, none, x15, x16, x17, x18, x19, x20] (.lst ((lft A R).map arcD)) := lcG (emb := arcD) (ls := A) (t := fun a => !decide (a ∈ cutOf A R)) (f := arcD) (ρ := [some (.d (.scr ns)), rowS none ns a b c, x2, some (.d (.int (n : Nat))), some (.d (.tup (A.map arcD))), some (.d (wsD ws)), some (.d (.int (s : Nat))), some (.d (.int (t : Nat))), some (.d (.tup (T.map pathD))), some (.d (.tup ((cutOf A R).map arcD))), none, x11, x12, x13, none, x15, x16, x17, x18, x19, x20]) (fI := iSeq (mVar 4)) (gm := gmName 10) (ft := mTest (mOp gNotIn (mVar 10) (mVar 9))) (fe := mVar 10) (own := [10]) (E := fun z => [some (.d (.scr ns)), rowS none ns a b c, x2, some (.d (.int (n : Nat))), some (.d (.tup (A.map arcD))), some (.d (wsD ws)), some (.d (.int (s : Nat))), some (.d (.int (t : Nat))), some (.d (.tup (T.map pathD))), some (.d (.tup ((cutOf A R).map arcD))), some (.d (arcD z)), x11, x12, x13, none, x15, x16, x17, x18, x19, x20]) (ei_seq (ev_var (x := .tup (A.map arcD)) 4 rfl) rfl) rfl (fun a ha => eg_name) (fun a ha => eb_test (ev_op (ev_var (x := arcD a) 10 rfl) (ev_var (x := .tup ((cutOf A R).map arcD)) 9 rfl) (notin_arcs (by omega)))) (fun a ha _ => ev_var 10 rfl) (fun a ha => rfl) (by omega)
        refine sq (par2DO lf (ev_var (x := .int (s : Nat)) 6 rfl) ⟨rfl, ?_⟩)
        simp only [List.set_cons_succ, List.set_cons_zero]
        refine sq (asg (x := .int (0 : Nat)) ev_c ⟨rfl, ?_⟩)
        simp only [List.set_cons_succ, List.set_cons_zero]
        refine sq (ok_while (I := fun m ρ => ∃ (M : List Nat) (i : Nat) (x18 x19 x20 : Option Fx.S), m = n - i ∧ M.Nodup ∧ (∀ v ∈ M, v < n ∧ v ∈ R) ∧ i ≤ M.length ∧ ρ = [some (.d (.scr ns)), rowS none ns a b c, x2, some (.d (.int (n : Nat))), some (.d (.tup (A.map arcD))), some (.d (wsD ws)), some (.d (.int (s : Nat))), some (.d (.int (t : Nat))), some (.d (.tup (T.map pathD))), some (.d (.tup ((cutOf A R).map arcD))), none, x11, x12, x13, none, some (.d (.lst ((lft A R).map arcD))), some (.o none (.lst (nl M))), some (.d (.int (i : Nat))), x18, x19, x20]) ?_ (m := n) (by omega) ⟨[s], 0, _, _, _, rfl, nd1 _, fun v hv => by rw [List.mem_singleton.mp hv]; exact ⟨hs, hsR⟩, Nat.zero_le _, rfl⟩)
        rintro m ρ ⟨M, i, x18, x19, x20, rfl, nM, hM, hi, rfl⟩
        have hMl : M.length ≤ n := Lib.nodup_len nM fun v hv => (hM v hv).1
        have lt : Ev (mOp gLt (mVar 17) (mLenO 16)) [some (.d (.scr ns)), rowS none ns a b c, x2, some (.d (.int (n : Nat))), some (.d (.tup (A.map arcD))), some (.d (wsD ws)), some (.d (.int (s : Nat))), some (.d (.int (t : Nat))), some (.d (.tup (T.map pathD))), some (.d (.tup ((cutOf A R).map arcD))), none, x11, x12, x13, none, some (.d (.lst ((lft A R).map arcD))), some (.o none (.lst (nl M))), some (.d (.int (i : Nat))), x18, x19, x20] (.bl (decide ((i : Int) < (M.length : Int)))) := by
          have := ev_lt (ev_var (x := .int (i : Nat)) 17 rfl) (lenO (i := 16) (xs := nl M) (ρ := [some (.d (.scr ns)), rowS none ns a b c, x2, some (.d (.int (n : Nat))), some (.d (.tup (A.map arcD))), some (.d (wsD ws)), some (.d (.int (s : Nat))), some (.d (.int (t : Nat))), some (.d (.tup (T.map pathD))), some (.d (.tup ((cutOf A R).map arcD))), none, x11, x12, x13, none, some (.d (.lst ((lft A R).map arcD))), some (.o none (.lst (nl M))), some (.d (.int (i : Nat))), x18, x19, x20]) rfl)
          rw [nl_len] at this
          exact this
        refine (eb_test lt).ok ⟨fun hb => ?_, fun hb => ?_⟩
        · have hlt : i < M.length := by
            have := of_decide_eq_true hb
            omega
          obtain ⟨w, hw⟩ : ∃ w, M[i]? = some w := ⟨M[i], List.getElem?_eq_getElem hlt⟩
          have hwm := hM w (List.mem_of_getElem? hw)
          refine sq (ok_par2E (x := .int (w : Nat)) (y := .int ((i + 1 : Nat) : Int)) (ev_ixO (i := 16) (k := i) rfl (ev_var (x := .int (i : Nat)) 17 rfl) (nl_get hw)) (add1 (ev_var (x := .int (i : Nat)) 17 rfl)) ⟨rfl, ?_⟩)
          simp only [List.set_cons_succ, List.set_cons_zero]
          refine forG (emb := arcD) (ls := lft A R) (I := fun k ρ => ∃ (M' : List Nat) (x19 x20 : Option Fx.S), M'.Nodup ∧ (∀ v ∈ M', v < n ∧ v ∈ R) ∧ M.length ≤ M'.length ∧ ρ = [some (.d (.scr ns)), rowS none ns a b c, x2, some (.d (.int (n : Nat))), some (.d (.tup (A.map arcD))), some (.d (wsD ws)), some (.d (.int (s : Nat))), some (.d (.int (t : Nat))), some (.d (.tup (T.map pathD))), some (.d (.tup ((cutOf A R).map arcD))), none, x11, x12, x13, none, some (.d (.lst ((lft A R).map arcD))), some (.o none (.lst (nl M'))), some (.d (.int ((i + 1 : Nat) : Int))), some (.d (.int (w : Nat))), x19, x20]) (ei_seq (ev_var (x := .lst ((lft A R).map arcD)) 15 rfl) rfl) ⟨M, _, _, nM, hM, Nat.le_refl _, rfl⟩ ?_ ?_
          · rintro k q ρ hq ⟨M', x19, x20, nM', hM', hl', rfl⟩
            have hqm := List.mem_filter.mp (List.mem_of_getElem? hq)
            have hq1 := o.rng q hqm.1
            have hqc : q ∉ cutOf A R := by simpa using hqm.2
            refine ⟨_, eg_2, ?_⟩
            simp only [List.set_cons_succ, List.set_cons_zero]
            have b1 := ev_eq (ev_var (x := .int (q.1 : Nat)) (ρ := [some (.d (.scr ns)), rowS none ns a b c, x2, some (.d (.int (n : Nat))), some (.d (.tup (A.map arcD))), some (.d (wsD ws)), some (.d (.int (s : Nat))), some (.d (.int (t : Nat))), some (.d (.tup (T.map pathD))), some (.d (.tup ((cutOf A R).map arcD))), none, x11, x12, x13, none, some (.d (.lst ((lft A R).map arcD))), some (.o none (.lst (nl M'))), some (.d (.int ((i + 1 : Nat) : Int))), some (.d (.int (w : Nat))), some (.d (.int (q.1 : Nat))), some (.d (.int (q.2 : Nat)))]) 19 rfl) (ev_var (x := .int (w : Nat)) 18 rfl)
            have b2 := opR (i := 16) (g := gNotIn) (fa := mVar 20) (x := .int (q.2 : Nat)) (y := .lst (nl M')) (ρ := [some (.d (.scr ns)), rowS none ns a b c, x2, some (.d (.int (n : Nat))), some (.d (.tup (A.map arcD))), some (.d (wsD ws)), some (.d (.int (s : Nat))), some (.d (.int (t : Nat))), some (.d (.tup (T.map pathD))), some (.d (.tup ((cutOf A R).map arcD))), none, x11, x12, x13, none, some (.d (.lst ((lft A R).map arcD))), some (.o none (.lst (nl M'))), some (.d (.int ((i + 1 : Nat) : Int))), some (.d (.int (w : Nat))), some (.d (.int (q.1 : Nat))), some (.d (.int (q.2 : Nat)))]) rfl rfl (ev_var 20 rfl) gNotIn_nl
            refine ifB (eb_and (eb_test b1) fun _ => eb_test b2) (fun hb => ?_) fun hb => ?_
            · rw [Bool.and_eq_true] at hb
              have e1 : q.1 = w := by have := of_decide_eq_true hb.1; omega
              have e2 : q.2 ∉ M' := by simpa using hb.2
              have hR : q.2 ∈ R := Classical.byContradiction fun z => hqc (by
                unfold cutOf
                rw [List.mem_filter, e1]
                refine ⟨hqm.1, ?_⟩
                rw [decide_eq_true hwm.2, decide_eq_true z]
                rfl)
              have hM'l : M'.length ≤ n := Lib.nodup_len nM' fun v hv => (hM' v hv).1
              refine appE (i := 16) (b := none) (xs := nl M') (x := .int (q.2 : Nat)) rfl (ev_var 20 rfl) (by rw [nl_len]; omega) (fin ⟨M' ++ [q.2], some (.d (.int (q.1 : Nat))), some (.d (.int (q.2 : Nat))), ?_, ?_, ?_, ?_⟩)
              rotate_left 3
              · have e : nl (M' ++ [q.2]) = nl M' ++ [.int (q.2 : Nat)] := nl_app M' [q.2]
                rw [e]
                rfl
              · exact List.nodup_append.mpr ⟨nM', nd1 _, fun x hx y hy z => e2 (by rw [List.mem_singleton.mp hy] at z; exact z ▸ hx)⟩
              · intro v hv
                rcases List.mem_append.mp hv with hv | hv
                · exact hM' v hv
                · rw [List.mem_singleton.mp hv]
                  exact ⟨hq1.2.1, hR⟩
              · rw [List.length_append]
                omega
            · rw [ok_nx]
              exact fin ⟨M', _, _, nM', hM', hl', rfl⟩
          · rintro ρ ⟨M', x19, x20, nM', hM', hl', rfl⟩
            exact ⟨rfl, n - (i + 1), by omega, M', i + 1, _, _, _, rfl, nM', hM', by omega, rfl⟩
        · refine ⟨rfl, ?_⟩
          have b2 := opR (i := 16) (g := gIn) (fa := mVar 7) (x := .int (t : Nat)) (y := .lst (nl M)) (ρ := [some (.d (.scr ns)), rowS none ns a b c, x2, some (.d (.int (n : Nat))), some (.d (.tup (A.map arcD))), some (.d (wsD ws)), some (.d (.int (s : Nat))), some (.d (.int (t : Nat))), some (.d (.tup (T.map pathD))), some (.d (.tup ((cutOf A R).map arcD))), none, x11, x12, x13, none, some (.d (.lst ((lft A R).map arcD))), some (.o none (.lst (nl M))), some (.d (.int (i : Nat))), x18, x19, x20]) rfl rfl (ev_var 7 rfl) gIn_nl
          have e : decide (t ∈ M) = false := decide_eq_false fun z => htR (hM t z).2
          rw [e] at b2
          exact ifN (eb_test b2) (fin ⟨a, b, c, _, _, _, _, _, _, _, _, _, _, _, _, _, _, _, _, _, h, rfl⟩)
  rw [ok_eq] at key
  obtain ⟨s, ρ, e, rfl⟩ := R.OKr.at key
  exact ⟨ρ, e⟩
end Fx.K95
/-! the end of routeweb_k95_whole_disjoint_paths -/
namespace Fx.K95
open PySem PySem.Spec PyProof.Rows L2
open C8 (Cal Mak pe_c pe_mk)
open LamX (Tabs TabS TabB ExtN CodeO codeO_ne)
abbrev s_p_nodes : Stmt := inClass (topS 12) 1
theorem sc_p_nodes : FnScope ["self"] ["self"] (defScope s_p_nodes) := ⟨rfl, rfl, rfl, by decide +kernel, rfl, by decide +kernel, by decide +kernel⟩
abbrev s_p_arcs : Stmt := inClass (topS 12) 2
theorem sc_p_arcs : FnScope ["self"] ["self"] (defScope s_p_arcs) := ⟨rfl, rfl, rfl, by decide +kernel, rfl, by decide +kernel, by decide +kernel⟩
/-- what is known of the text -/
def clsF (C0 : Addr) : String → Addr := fun n => if n = "Graph" then C0 else 0
def cfg (w : World) (K : PySem.W.Frag) (C0 : Addr) (T : List (Addr × Str)) : Cfg := ⟨K, (clsF C0), fun n => if n = "Graph" then ["_nodes", "_arcs"] else [], T, fun _ _ _ _ => False, fun k => match k with
  | _ => lamQ "" noE, w, none⟩
section
theorem all_mk {l : PySem.W.OpenLaw} {w : World} {K : PySem.W.Frag} {h : Heap} {mg : Str → Option Value} {fa : Addr} (X : K.In h) (G : h.Ns mainGlobals mg) (hfa : mg "law" = some (.ref fa))
    {C0 : Addr} {f0 : Addr} {od0 an0 : Option Addr} {sl0 : Array (Option Value)} {oc0 kV0 dc0 pm0 cd0 ct0 : Value} {p1 : Addr} {q1 : List Value} {f1 : Addr} {od1 an1 : Option Addr} {sl1 : Array (Option Value)} {oc1 kV1 dc1 pm1 cd1 ct1 : Value} {p2 : Addr} {q2 : List Value} {f2 : Addr} {od2 an2 : Option Addr} {sl2 : Array (Option Value)} {oc2 kV2 dc2 pm2 cd2 ct2 : Value} {tk0 : Tok} {tk1 : Tok} {f3 : Addr} {od3 an3 : Option Addr} {sl3 : Array (Option Value)} {oc3 kV3 dc3 pm3 cd3 ct3 : Value} {f4 : Addr} {od4 an4 : Option Addr} {sl4 : Array (Option Value)} {oc4 kV4 dc4 pm4 cd4 ct4 : Value} {f5 : Addr} {od5 an5 : Option Addr} {sl5 : Array (Option Value)} {oc5 kV5 dc5 pm5 cd5 ct5 : Value} {f6 : Addr} {od6 an6 : Option Addr} {sl6 : Array (Option Value)} {oc6 kV6 dc6 pm6 cd6 ct6 : Value} {f7 : Addr} {od7 an7 : Option Addr} {sl7 : Array (Option Value)} {oc7 kV7 dc7 pm7 cd7 ct7 : Value} {f8 : Addr} {od8 an8 : Option Addr} {sl8 : Array (Option Value)} {oc8 kV8 dc8 pm8 cd8 ct8 : Value} {f9 : Addr} {od9 an9 : Option Addr} {sl9 : Array (Option Value)} {oc9 kV9 dc9 pm9 cd9 ct9 : Value} {f10 : Addr} {od10 an10 : Option Addr} {sl10 : Array (Option Value)} {oc10 kV10 dc10 pm10 cd10 ct10 : Value} {f11 : Addr} {od11 an11 : Option Addr} {sl11 : Array (Option Value)} {oc11 kV11 dc11 pm11 cd11 ct11 : Value} {f12 : Addr} {od12 an12 : Option Addr} {sl12 : Array (Option Value)} {oc12 kV12 dc12 pm12 cd12 ct12 : Value} {f13 : Addr} {od13 an13 : Option Addr} {sl13 : Array (Option Value)} {oc13 kV13 dc13 pm13 cd13 ct13 : Value} {f14 : Addr} {od14 an14 : Option Addr} {sl14 : Array (Option Value)} {oc14 kV14 dc14 pm14 cd14 ct14 : Value} {f15 : Addr} {od15 an15 : Option Addr} {sl15 : Array (Option Value)} {oc15 kV15 dc15 pm15 cd15 ct15 : Value} {f16 : Addr} {od16 an16 : Option Addr} {sl16 : Array (Option Value)} {oc16 kV16 dc16 pm16 cd16 ct16 : Value} {f17 : Addr} {od17 an17 : Option Addr} {sl17 : Array (Option Value)} {oc17 kV17 dc17 pm17 cd17 ct17 : Value} {f18 : Addr} {od18 an18 : Option Addr} {sl18 : Array (Option Value)} {oc18 kV18 dc18 pm18 cd18 ct18 : Value} {f19 : Addr} {od19 an19 : Option Addr} {sl19 : Array (Option Value)} {oc19 kV19 dc19 pm19 cd19 ct19 : Value}
    (aC0 : PySem.W.nsIn K mainGlobals "Graph" = some (some (.ref C0)))
    (pg0C : PySem.W.plainGet K C0 Str.empty = true)
    (hd0C : PySem.W.hasDictIn K C0 = true)
    (po0C : PySem.W.plainOver K C0 = true)
    (sa0C : PySem.W.findIn K (.ref C0) "__setattr__" = some (some (.builtin "object.__setattr__")))
    (mk0C : PySem.W.makesIn K C0 = true)
    (kc0C : PySem.W.keepIn K (.ref C0) = true)
    (xa0C : PySem.W.findIn K (.ref C0) "__class__" = some (some (.builtin "object.__class__")))
    (xb0C : PySem.W.specialIn K (.builtin "object.__class__") "__get__" = some (some (.builtin "getset_descriptor.__get__")))
    (xc0C : PySem.W.takesIn K (.builtin "object.__class__") = some true)
    (xd0C : PySem.W.mroIn K C0 (.type "object") = some true)
    (n0_0 : PySem.W.findIn K (.ref C0) "_nodes" = some none)
    (n0_1 : PySem.W.findIn K (.ref C0) "_arcs" = some none)
    (a0 : PySem.W.findIn K (.ref C0) "__init__" = some (some (.ref f0)))
    (i0 : PySem.W.isFn K (.ref f0) = true)
    (l0 : K.lookup f0 = some ⟨oc0, od0, .func (PySem.W.fnOf "__init__" "Graph.__init__" (defArgs s_Graph_init) (defBody s_Graph_init) (defScope s_Graph_init) .none kV0 dc0 pm0 an0 cd0 ct0), sl0⟩)
    (c0 : PySem.W.codeIn K cd0 "Graph.__init__" = true)
    (k0 : PySem.W.keepIn K (.ref f0) = true)
    (a1 : PySem.W.findIn K (.ref C0) "nodes" = some (some (.ref p1)))
    (g1 : PySem.W.specialIn K (.ref p1) "__get__" = some (some (.builtin "property.__get__")))
    (t1 : PySem.W.takesIn K (.ref p1) = some true)
    (r1 : PySem.W.recIn K p1 "property" = some (.ref f1 :: q1))
    (l1 : K.lookup f1 = some ⟨oc1, od1, .func (PySem.W.fnOf "nodes" "Graph.nodes" (defArgs s_p_nodes) (defBody s_p_nodes) (defScope s_p_nodes) .none kV1 dc1 pm1 an1 cd1 ct1), sl1⟩)
    (c1 : PySem.W.codeIn K cd1 "Graph.nodes" = true)
    (k1 : PySem.W.keepIn K (.ref f1) = true)
    (a2 : PySem.W.findIn K (.ref C0) "arcs" = some (some (.ref p2)))
    (g2 : PySem.W.specialIn K (.ref p2) "__get__" = some (some (.builtin "property.__get__")))
    (t2 : PySem.W.takesIn K (.ref p2) = some true)
    (r2 : PySem.W.recIn K p2 "property" = some (.ref f2 :: q2))
    (l2 : K.lookup f2 = some ⟨oc2, od2, .func (PySem.W.fnOf "arcs" "Graph.arcs" (defArgs s_p_arcs) (defBody s_p_arcs) (defScope s_p_arcs) .none kV2 dc2 pm2 an2 cd2 ct2), sl2⟩)
    (c2 : PySem.W.codeIn K cd2 "Graph.arcs" = true)
    (k2 : PySem.W.keepIn K (.ref f2) = true)
    (m0 : PySem.W.nsIn K mainGlobals "MOST_ARCS" = some (some (Value.int 64 tk0)))
    (m1 : PySem.W.nsIn K mainGlobals "MOST_NODES" = some (some (Value.int 8 tk1)))
    (z_all : PySem.W.nsIn K mainGlobals "all" = some none)
    (z_bool : PySem.W.nsIn K mainGlobals "bool" = some none)
    (z_enumerate : PySem.W.nsIn K mainGlobals "enumerate" = some none)
    (z_int : PySem.W.nsIn K mainGlobals "int" = some none)
    (z_isinstance : PySem.W.nsIn K mainGlobals "isinstance" = some none)
    (z_len : PySem.W.nsIn K mainGlobals "len" = some none)
    (z_list : PySem.W.nsIn K mainGlobals "list" = some none)
    (z_range : PySem.W.nsIn K mainGlobals "range" = some none)
    (z_set : PySem.W.nsIn K mainGlobals "set" = some none)
    (z_sorted : PySem.W.nsIn K mainGlobals "sorted" = some none)
    (z_tuple : PySem.W.nsIn K mainGlobals "tuple" = some none)
    (z_zip : PySem.W.nsIn K mainGlobals "zip" = some none)
    (a3 : PySem.W.nsIn K mainGlobals "is_number" = some (some (.ref f3)))
    (l3 : K.lookup f3 = some ⟨oc3, od3, .func (PySem.W.fnOf "is_number" "is_number" (defArgs s_is_number) (defBody s_is_number) (defScope s_is_number) .none kV3 dc3 pm3 an3 cd3 ct3), sl3⟩)
    (c3 : PySem.W.codeIn K cd3 "is_number" = true)
    (k3 : PySem.W.keepIn K (.ref f3) = true)
    (a4 : PySem.W.nsIn K mainGlobals "is_tuple" = some (some (.ref f4)))
    (l4 : K.lookup f4 = some ⟨oc4, od4, .func (PySem.W.fnOf "is_tuple" "is_tuple" (defArgs s_is_tuple) (defBody s_is_tuple) (defScope s_is_tuple) .none kV4 dc4 pm4 an4 cd4 ct4), sl4⟩)
    (c4 : PySem.W.codeIn K cd4 "is_tuple" = true)
    (k4 : PySem.W.keepIn K (.ref f4) = true)
    (a5 : PySem.W.nsIn K mainGlobals "are_numbers" = some (some (.ref f5)))
    (l5 : K.lookup f5 = some ⟨oc5, od5, .func (PySem.W.fnOf "are_numbers" "are_numbers" (defArgs s_are_numbers) (defBody s_are_numbers) (defScope s_are_numbers) .none kV5 dc5 pm5 an5 cd5 ct5), sl5⟩)
    (c5 : PySem.W.codeIn K cd5 "are_numbers" = true)
    (k5 : PySem.W.keepIn K (.ref f5) = true)
    (a6 : PySem.W.nsIn K mainGlobals "_is_arc" = some (some (.ref f6)))
    (l6 : K.lookup f6 = some ⟨oc6, od6, .func (PySem.W.fnOf "_is_arc" "_is_arc" (defArgs s_is_arc) (defBody s_is_arc) (defScope s_is_arc) .none kV6 dc6 pm6 an6 cd6 ct6), sl6⟩)
    (c6 : PySem.W.codeIn K cd6 "_is_arc" = true)
    (k6 : PySem.W.keepIn K (.ref f6) = true)
    (a7 : PySem.W.nsIn K mainGlobals "check_graph" = some (some (.ref f7)))
    (l7 : K.lookup f7 = some ⟨oc7, od7, .func (PySem.W.fnOf "check_graph" "check_graph" (defArgs s_check_graph) (defBody s_check_graph) (defScope s_check_graph) .none kV7 dc7 pm7 an7 cd7 ct7), sl7⟩)
    (c7 : PySem.W.codeIn K cd7 "check_graph" = true)
    (k7 : PySem.W.keepIn K (.ref f7) = true)
    (a8 : PySem.W.nsIn K mainGlobals "check_node" = some (some (.ref f8)))
    (l8 : K.lookup f8 = some ⟨oc8, od8, .func (PySem.W.fnOf "check_node" "check_node" (defArgs s_check_node) (defBody s_check_node) (defScope s_check_node) .none kV8 dc8 pm8 an8 cd8 ct8), sl8⟩)
    (c8 : PySem.W.codeIn K cd8 "check_node" = true)
    (k8 : PySem.W.keepIn K (.ref f8) = true)
    (a9 : PySem.W.nsIn K mainGlobals "_check_unlike" = some (some (.ref f9)))
    (l9 : K.lookup f9 = some ⟨oc9, od9, .func (PySem.W.fnOf "_check_unlike" "_check_unlike" (defArgs s_check_unlike) (defBody s_check_unlike) (defScope s_check_unlike) .none kV9 dc9 pm9 an9 cd9 ct9), sl9⟩)
    (c9 : PySem.W.codeIn K cd9 "_check_unlike" = true)
    (k9 : PySem.W.keepIn K (.ref f9) = true)
    (a10 : PySem.W.nsIn K mainGlobals "_moves" = some (some (.ref f10)))
    (l10 : K.lookup f10 = some ⟨oc10, od10, .func (PySem.W.fnOf "_moves" "_moves" (defArgs s_moves) (defBody s_moves) (defScope s_moves) .none kV10 dc10 pm10 an10 cd10 ct10), sl10⟩)
    (c10 : PySem.W.codeIn K cd10 "_moves" = true)
    (k10 : PySem.W.keepIn K (.ref f10) = true)
    (a11 : PySem.W.nsIn K mainGlobals "_ways" = some (some (.ref f11)))
    (l11 : K.lookup f11 = some ⟨oc11, od11, .func (PySem.W.fnOf "_ways" "_ways" (defArgs s_ways) (defBody s_ways) (defScope s_ways) .none kV11 dc11 pm11 an11 cd11 ct11), sl11⟩)
    (c11 : PySem.W.codeIn K cd11 "_ways" = true)
    (k11 : PySem.W.keepIn K (.ref f11) = true)
    (a12 : PySem.W.nsIn K mainGlobals "_least_used" = some (some (.ref f12)))
    (l12 : K.lookup f12 = some ⟨oc12, od12, .func (PySem.W.fnOf "_least_used" "_least_used" (defArgs s_least_used) (defBody s_least_used) (defScope s_least_used) .none kV12 dc12 pm12 an12 cd12 ct12), sl12⟩)
    (c12 : PySem.W.codeIn K cd12 "_least_used" = true)
    (k12 : PySem.W.keepIn K (.ref f12) = true)
    (a13 : PySem.W.nsIn K mainGlobals "_paths_of" = some (some (.ref f13)))
    (l13 : K.lookup f13 = some ⟨oc13, od13, .func (PySem.W.fnOf "_paths_of" "_paths_of" (defArgs s_paths_of) (defBody s_paths_of) (defScope s_paths_of) .none kV13 dc13 pm13 an13 cd13 ct13), sl13⟩)
    (c13 : PySem.W.codeIn K cd13 "_paths_of" = true)
    (k13 : PySem.W.keepIn K (.ref f13) = true)
    (a14 : PySem.W.nsIn K mainGlobals "disjoint_paths" = some (some (.ref f14)))
    (l14 : K.lookup f14 = some ⟨oc14, od14, .func (PySem.W.fnOf "disjoint_paths" "disjoint_paths" (defArgs s_disjoint_paths) (defBody s_disjoint_paths) (defScope s_disjoint_paths) .none kV14 dc14 pm14 an14 cd14 ct14), sl14⟩)
    (c14 : PySem.W.codeIn K cd14 "disjoint_paths" = true)
    (k14 : PySem.W.keepIn K (.ref f14) = true)
    (a15 : PySem.W.nsIn K mainGlobals "_law_taken" = some (some (.ref f15)))
    (l15 : K.lookup f15 = some ⟨oc15, od15, .func (PySem.W.fnOf "_law_taken" "_law_taken" (defArgs s_law_taken) (defBody s_law_taken) (defScope s_law_taken) .none kV15 dc15 pm15 an15 cd15 ct15), sl15⟩)
    (c15 : PySem.W.codeIn K cd15 "_law_taken" = true)
    (k15 : PySem.W.keepIn K (.ref f15) = true)
    (a16 : PySem.W.nsIn K mainGlobals "_law_pick" = some (some (.ref f16)))
    (l16 : K.lookup f16 = some ⟨oc16, od16, .func (PySem.W.fnOf "_law_pick" "_law_pick" (defArgs s_law_pick) (defBody s_law_pick) (defScope s_law_pick) .none kV16 dc16 pm16 an16 cd16 ct16), sl16⟩)
    (c16 : PySem.W.codeIn K cd16 "_law_pick" = true)
    (k16 : PySem.W.keepIn K (.ref f16) = true)
    (a17 : PySem.W.nsIn K mainGlobals "_law_arcs" = some (some (.ref f17)))
    (l17 : K.lookup f17 = some ⟨oc17, od17, .func (PySem.W.fnOf "_law_arcs" "_law_arcs" (defArgs s_law_arcs) (defBody s_law_arcs) (defScope s_law_arcs) .none kV17 dc17 pm17 an17 cd17 ct17), sl17⟩)
    (c17 : PySem.W.codeIn K cd17 "_law_arcs" = true)
    (k17 : PySem.W.keepIn K (.ref f17) = true)
    (a18 : PySem.W.nsIn K mainGlobals "_law_graph" = some (some (.ref f18)))
    (l18 : K.lookup f18 = some ⟨oc18, od18, .func (PySem.W.fnOf "_law_graph" "_law_graph" (defArgs s_law_graph) (defBody s_law_graph) (defScope s_law_graph) .none kV18 dc18 pm18 an18 cd18 ct18), sl18⟩)
    (c18 : PySem.W.codeIn K cd18 "_law_graph" = true)
    (k18 : PySem.W.keepIn K (.ref f18) = true)
    (a19 : PySem.W.nsIn K mainGlobals "law" = some (some (.ref f19)))
    (l19 : K.lookup f19 = some ⟨oc19, od19, .func (PySem.W.fnOf "law" "law" (defArgs s_law) (defBody s_law) (defScope s_law) .none kV19 dc19 pm19 an19 cd19 ct19), sl19⟩)
    (c19 : PySem.W.codeIn K cd19 "law" = true)
    (k19 : PySem.W.keepIn K (.ref f19) = true) :
    LamX.LawAtS l w K CX0 7 63 "script" mg fa h := by
  have e := hfa.symm.trans (PySem.W.mg_of X G a19)
  cases e
  have cl0 : Cls K C0 := ⟨pg0C, hd0C, po0C, sa0C⟩
  have gC0 := PySem.W.mg_of X G aC0
  have F0 := fun_mk (st := s_Graph_init) l0 c0 k0
  have b0 := F0.binds (ps := ["self", "size", "arcs"]) fun _ _ _ _ _ _ us hl => match us, hl with | [_, _, _], _ => rfl
  have F1 := fun_mk (st := s_p_nodes) l1 c1 k1
  have b1 := F1.binds (ps := ["self"]) fun _ _ _ _ _ _ us hl => match us, hl with | [_], _ => rfl
  have F2 := fun_mk (st := s_p_arcs) l2 c2 k2
  have b2 := F2.binds (ps := ["self"]) fun _ _ _ _ _ _ us hl => match us, hl with | [_], _ => rfl
  have F3 := fun_mk (st := s_is_number) l3 c3 k3
  have b3 := F3.binds (ps := ["value", "low", "high"]) fun _ _ _ _ _ _ us hl => match us, hl with | [_, _, _], _ => rfl
  have F4 := fun_mk (st := s_is_tuple) l4 c4 k4
  have b4 := F4.binds (ps := ["value", "least", "most"]) fun _ _ _ _ _ _ us hl => match us, hl with | [_, _, _], _ => rfl
  have F5 := fun_mk (st := s_are_numbers) l5 c5 k5
  have b5 := F5.binds (ps := ["value", "low", "high"]) fun _ _ _ _ _ _ us hl => match us, hl with | [_, _, _], _ => rfl
  have F6 := fun_mk (st := s_is_arc) l6 c6 k6
  have b6 := F6.binds (ps := ["size", "value"]) fun _ _ _ _ _ _ us hl => match us, hl with | [_, _], _ => rfl
  have F7 := fun_mk (st := s_check_graph) l7 c7 k7
  have b7 := F7.binds (ps := ["graph"]) fun _ _ _ _ _ _ us hl => match us, hl with | [_], _ => rfl
  have F8 := fun_mk (st := s_check_node) l8 c8 k8
  have b8 := F8.binds (ps := ["graph", "node"]) fun _ _ _ _ _ _ us hl => match us, hl with | [_, _], _ => rfl
  have F9 := fun_mk (st := s_check_unlike) l9 c9 k9
  have b9 := F9.binds (ps := ["node", "goal"]) fun _ _ _ _ _ _ us hl => match us, hl with | [_, _], _ => rfl
  have F10 := fun_mk (st := s_moves) l10 c10 k10
  have b10 := F10.binds (ps := ["graph", "weights", "used"]) fun _ _ _ _ _ _ us hl => match us, hl with | [_, _, _], _ => rfl
  have F11 := fun_mk (st := s_ways) l11 c11 k11
  have b11 := F11.binds (ps := ["graph", "weights", "used", "node"]) fun _ _ _ _ _ _ us hl => match us, hl with | [_, _, _, _], _ => rfl
  have F12 := fun_mk (st := s_least_used) l12 c12 k12
  have b12 := F12.binds (ps := ["graph", "weights", "node", "goal", "most"]) fun _ _ _ _ _ _ us hl => match us, hl with | [_, _, _, _, _], _ => rfl
  have F13 := fun_mk (st := s_paths_of) l13 c13 k13
  have b13 := F13.binds (ps := ["graph", "used", "node", "goal"]) fun _ _ _ _ _ _ us hl => match us, hl with | [_, _, _, _], _ => rfl
  have F14 := fun_mk (st := s_disjoint_paths) l14 c14 k14
  have b14 := F14.binds (ps := ["graph", "node", "goal"]) fun _ _ _ _ _ _ us hl => match us, hl with | [_, _, _], _ => rfl
  have F15 := fun_mk (st := s_law_taken) l15 c15 k15
  have b15 := F15.binds (ps := ["row", "many"]) fun _ _ _ _ _ _ us hl => match us, hl with | [_, _], _ => rfl
  have F16 := fun_mk (st := s_law_pick) l16 c16 k16
  have b16 := F16.binds (ps := ["row", "things"]) fun _ _ _ _ _ _ us hl => match us, hl with | [_, _], _ => rfl
  have F17 := fun_mk (st := s_law_arcs) l17 c17 k17
  have b17 := F17.binds (ps := ["row", "size", "dense"]) fun _ _ _ _ _ _ us hl => match us, hl with | [_, _, _], _ => rfl
  have F18 := fun_mk (st := s_law_graph) l18 c18 k18
  have b18 := F18.binds (ps := ["row", "most"]) fun _ _ _ _ _ _ us hl => match us, hl with | [_, _], _ => rfl
  have F19 := fun_mk (st := s_law) l19 c19 k19
  refine ⟨PySem.W.fnOf "law" "law" (defArgs s_law) (defBody s_law) (defScope s_law) .none kV19 dc19 pm19 an19 cd19 ct19, [], spLawX (cfg w K C0 []), fun p hp => by simp at hp, fun p hp => by simp at hp, fun p hp => by simp at hp, fun s v => .of_eq rfl, fun H a ns hl hz hT hS => ⟨a, ns, rfl, hl, hS, fun p hp => by simp [cfg] at hp, fun _ => rfl⟩, fun base _ _ hB => ?_⟩
  have hC0 : (cfg w K C0 []).cls "Graph" = C0 := by
    show (if ("Graph" : String) = "Graph" then C0 else (0 : Addr)) = C0
    exact if_pos rfl
  have hf0 : (cfg w K C0 []).flds "Graph" = (["_nodes", "_arcs"] : List Str) := by
    show (if ("Graph" : String) = "Graph" then (["_nodes", "_arcs"] : List Str) else ([] : List Str)) = (["_nodes", "_arcs"] : List Str)
    exact if_pos rfl
  have FL0_0 : FldOk (cfg w K C0 []) "Graph" "_nodes" 0 := ⟨by rw [hC0]; exact cl0, by rw [hC0]; exact n0_0, by rw [hf0]; rfl, by rw [hf0]; decide⟩
  have FL0_1 : FldOk (cfg w K C0 []) "Graph" "_arcs" 1 := ⟨by rw [hC0]; exact cl0, by rw [hC0]; exact n0_1, by rw [hf0]; rfl, by rw [hf0]; decide⟩
  have IC0 : ClsOk (cfg w K C0 []) "Graph" := ⟨by rw [hC0]; exact cl0, by rw [hC0]; exact xa0C, xb0C, xc0C, by rw [hC0]; exact xd0C, if_pos (beq_self_eq_true _)⟩
  have T : Tx l.prog w (cfg w K C0 []) mg base := {
    w_ := rfl,
    b_all := PySem.W.mg_none_of X G z_all,
    b_bool := PySem.W.mg_none_of X G z_bool,
    b_enumerate := PySem.W.mg_none_of X G z_enumerate,
    b_int := PySem.W.mg_none_of X G z_int,
    b_isinstance := PySem.W.mg_none_of X G z_isinstance,
    b_len := PySem.W.mg_none_of X G z_len,
    b_list := PySem.W.mg_none_of X G z_list,
    b_range := PySem.W.mg_none_of X G z_range,
    b_set := PySem.W.mg_none_of X G z_set,
    b_sorted := PySem.W.mg_none_of X G z_sorted,
    b_tuple := PySem.W.mg_none_of X G z_tuple,
    b_zip := PySem.W.mg_none_of X G z_zip,
    c_MOST_ARCS := ⟨_, PySem.W.mg_of X G m0⟩,
    c_MOST_NODES := ⟨_, PySem.W.mg_of X G m1⟩,
    f_Graph_nodes := FL0_0,
    f_Graph_arcs := FL0_1,
    l_Graph := by rw [hf0]; decide,
    n_Graph := by rw [hf0]; rfl,
    i_Graph := IC0,
    g_Graph := by rw [hC0]; exact gC0,
    p_Graph_nodes := ⟨FL0_0, p1, f1, _, _, by rw [hC0]; exact ⟨a1, g1, t1, ⟨_, r1⟩⟩, by rw [hC0]; exact fn_getter l1 c1 sc_p_nodes rfl rfl cl0 n0_0, b1⟩,
    p_Graph_arcs := ⟨FL0_1, p2, f2, _, _, by rw [hC0]; exact ⟨a2, g2, t2, ⟨_, r2⟩⟩, by rw [hC0]; exact fn_getter l2 c2 sc_p_arcs rfl rfl cl0 n0_1, b2⟩}
  have C_is_number : Cal l.prog w K mg base 1 "is_number" (spF (cfg w K C0 []) f_is_number) [] := cal_mk F3 (PySem.W.mg_of X G a3) b3 (ok_is_number T F3 )
  have C_is_tuple : Cal l.prog w K mg base 1 "is_tuple" (spF (cfg w K C0 []) f_is_tuple) [] := cal_mk F4 (PySem.W.mg_of X G a4) b4 (ok_is_tuple T F4 )
  have C_are_numbers : Cal l.prog w K mg base 2 "are_numbers" (spF (cfg w K C0 []) f_are_numbers) [] := cal_mk F5 (PySem.W.mg_of X G a5) b5 (ok_are_numbers T F5 C_is_number)
  have C_is_arc : Cal l.prog w K mg base 3 "_is_arc" (spF (cfg w K C0 []) f_is_arc) [] := cal_mk F6 (PySem.W.mg_of X G a6) b6 (ok_is_arc T F6 C_are_numbers)
  have C_check_graph : Cal l.prog w K mg base 1 "check_graph" (spF (cfg w K C0 []) f_check_graph) [] := cal_mk F7 (PySem.W.mg_of X G a7) b7 (ok_check_graph T F7 )
  have C_check_node : Cal l.prog w K mg base 3 "check_node" (spF (cfg w K C0 []) f_check_node) [] := cal_mk F8 (PySem.W.mg_of X G a8) b8 (ok_check_node T F8 C_is_number)
  have C_check_unlike : Cal l.prog w K mg base 1 "_check_unlike" (spF (cfg w K C0 []) f_check_unlike) [] := cal_mk F9 (PySem.W.mg_of X G a9) b9 (ok_check_unlike T F9 )
  have C_moves : Cal l.prog w K mg base 3 "_moves" (spF (cfg w K C0 []) f_moves) [] := cal_mk F10 (PySem.W.mg_of X G a10) b10 (ok_moves T F10 )
  have C_ways : Cal l.prog w K mg base 4 "_ways" (spF (cfg w K C0 []) f_ways) [] := cal_mk F11 (PySem.W.mg_of X G a11) b11 (ok_ways T F11 C_moves)
  have C_least_used : Cal l.prog w K mg base 5 "_least_used" (spF (cfg w K C0 []) f_least_used) [] := cal_mk F12 (PySem.W.mg_of X G a12) b12 (ok_least_used T F12 C_ways)
  have C_paths_of : Cal l.prog w K mg base 3 "_paths_of" (spF (cfg w K C0 []) f_paths_of) [] := cal_mk F13 (PySem.W.mg_of X G a13) b13 (ok_paths_of T F13 )
  have C_disjoint_paths : Cal l.prog w K mg base 6 "disjoint_paths" (spF (cfg w K C0 []) f_disjoint_paths) [] := cal_mk F14 (PySem.W.mg_of X G a14) b14 (ok_disjoint_paths T F14 C_check_graph C_check_node C_check_unlike C_ways C_least_used C_paths_of)
  have C_law_taken : Cal l.prog w K mg base 1 "_law_taken" (spF (cfg w K C0 []) f_law_taken) [] := cal_mk F15 (PySem.W.mg_of X G a15) b15 (ok_law_taken T F15 )
  have C_law_pick : Cal l.prog w K mg base 2 "_law_pick" (spF (cfg w K C0 []) f_law_pick) [] := cal_mk F16 (PySem.W.mg_of X G a16) b16 (ok_law_pick T F16 C_law_taken)
  have C_law_arcs : Cal l.prog w K mg base 2 "_law_arcs" (spF (cfg w K C0 []) f_law_arcs) [] := cal_mk F17 (PySem.W.mg_of X G a17) b17 (ok_law_arcs T F17 C_law_taken)
  have C_law_graph : Cal l.prog w K mg base 3 "_law_graph" (spF (cfg w K C0 []) f_law_graph) [] := cal_mk F18 (PySem.W.mg_of X G a18) b18 (ok_law_graph T F18 C_law_taken C_law_pick C_law_arcs)
  have M_Graph : Mak l.prog w K mg base 4 "Graph" ((cfg w K C0 []).cls "Graph") (spF (cfg w K C0 []) f_Graph_init) [] := by rw [hC0]; exact ⟨f0, _, _, [], ⟨mk0C, a0, i0, kc0C⟩, ok_Graph_init T F0 C_is_number C_is_tuple C_is_arc, gC0, b0, .nil⟩
  exact law_ok law_pure (ok_law T F19 C_disjoint_paths C_law_taken C_law_graph M_Graph)
theorem walk {l : PySem.W.OpenLaw} {q : Program} {loose : List Str} {XP : (Str → Option Value) → Heap → Prop} {YP : World → Heap → Prop} {d : DefRec} {K : Params → PySem.W.Frag} (hn : l.most = some 63) (hdf : d.params.defaults = [])
    (hY : ∀ (w : World) (h : Heap), YP w h → (K w.params).In h)
    (F : ∀ (w : World) (mg : Str → Option Value) (fa : Addr) (h : Heap), YP w h → (K w.params).In h → h.Ns mainGlobals mg → mg d.name = some (.ref fa) → LamX.LawAtS l w (K w.params) CX0 7 63 "script" mg fa h) :
    PySem.W.WalkO q loose XP YP l.row.toRowW d [] (fun f vs => PySem.call f vs) :=
  LamX.walk_ofTs (n := 63) (k := 7) (x := "script") (CX := fun _ => CX0) hn (by decide) hdf ⟨rfl, by decide, by decide⟩ hY F fun _ _ _ _ _ z => z
end
end Fx.K95
open PySem PySem.W PyProof.Rows in
set_option maxRecDepth 100000 in
set_option maxHeartbeats 0 in
theorem PySem.Challenge.cw_routeweb_k95_whole_disjoint_paths_holds : PySem.Challenge.rw_routeweb_k95_whole_disjoint_paths.Holds := by
  w_on; o_law; k_head; (case hw => w_witness2)
  k_fill
  refine Fx.K95.walk (l := PySem.Challenge.rw_routeweb_k95_whole_disjoint_paths) rfl rfl (fun w h Y => PySem.W.kIn_of Y) ?F
  case F =>
    intro w mg fa h Y KX G hmg
    skip
    refine' Fx.K95.all_mk KX G hmg ?aC0 ?pg0C ?hd0C ?po0C ?sa0C ?mk0C ?kc0C ?xa0C ?xb0C ?xc0C ?xd0C ?n0_0 ?n0_1 ?a0 ?i0 ?l0 ?c0 ?k0 ?a1 ?g1 ?t1 ?r1 ?l1 ?c1 ?k1 ?a2 ?g2 ?t2 ?r2 ?l2 ?c2 ?k2 ?m0 ?m1 ?z_all ?z_bool ?z_enumerate ?z_int ?z_isinstance ?z_len ?z_list ?z_range ?z_set ?z_sorted ?z_tuple ?z_zip ?a3 ?l3 ?c3 ?k3 ?a4 ?l4 ?c4 ?k4 ?a5 ?l5 ?c5 ?k5 ?a6 ?l6 ?c6 ?k6 ?a7 ?l7 ?c7 ?k7 ?a8 ?l8 ?c8 ?k8 ?a9 ?l9 ?c9 ?k9 ?a10 ?l10 ?c10 ?k10 ?a11 ?l11 ?c11 ?k11 ?a12 ?l12 ?c12 ?k12 ?a13 ?l13 ?c13 ?k13 ?a14 ?l14 ?c14 ?k14 ?a15 ?l15 ?c15 ?k15 ?a16 ?l16 ?c16 ?k16 ?a17 ?l17 ?c17 ?k17 ?a18 ?l18 ?c18 ?k18 ?a19 ?l19 ?c19 ?k19
    (case aC0 => k_is)
    (case pg0C => k_is)
    (case hd0C => k_is)
    (case po0C => k_is)
    (case sa0C => k_is)
    (case mk0C => k_is)
    (case kc0C => k_is)
    (case xa0C => k_is)
    (case xb0C => k_is)
    (case xc0C => k_is)
    (case xd0C => k_is)
    (case n0_0 => k_is)
    (case n0_1 => k_is)
    (case a0 => k_is)
    (case i0 => k_is)
    (case l0 => k_is)
    (case c0 => k_is)
    (case k0 => k_is)
    (case a1 => k_is)
    (case g1 => k_is)
    (case t1 => k_is)
    (case r1 => k_is)
    (case l1 => k_is)
    (case c1 => k_is)
    (case k1 => k_is)
    (case a2 => k_is)
    (case g2 => k_is)
    (case t2 => k_is)
    (case r2 => k_is)
    (case l2 => k_is)
    (case c2 => k_is)
    (case k2 => k_is)
    (case m0 => k_is)
    (case m1 => k_is)
    (case z_all => k_is)
    (case z_bool => k_is)
    (case z_enumerate => k_is)
    (case z_int => k_is)
    (case z_isinstance => k_is)
    (case z_len => k_is)
    (case z_list => k_is)
    (case z_range => k_is)
    (case z_set => k_is)
    (case z_sorted => k_is)
    (case z_tuple => k_is)
    (case z_zip => k_is)
    (case a3 => k_is)
    (case l3 => k_is)
    (case c3 => k_is)
    (case k3 => k_is)
    (case a4 => k_is)
    (case l4 => k_is)
    (case c4 => k_is)
    (case k4 => k_is)
    (case a5 => k_is)
    (case l5 => k_is)
    (case c5 => k_is)
    (case k5 => k_is)
    (case a6 => k_is)
    (case l6 => k_is)
    (case c6 => k_is)
    (case k6 => k_is)
    (case a7 => k_is)
    (case l7 => k_is)
    (case c7 => k_is)
    (case k7 => k_is)
    (case a8 => k_is)
    (case l8 => k_is)
    (case c8 => k_is)
    (case k8 => k_is)
    (case a9 => k_is)
    (case l9 => k_is)
    (case c9 => k_is)
    (case k9 => k_is)
    (case a10 => k_is)
    (case l10 => k_is)
    (case c10 => k_is)
    (case k10 => k_is)
    (case a11 => k_is)
    (case l11 => k_is)
    (case c11 => k_is)
    (case k11 => k_is)
    (case a12 => k_is)
    (case l12 => k_is)
    (case c12 => k_is)
    (case k12 => k_is)
    (case a13 => k_is)
    (case l13 => k_is)
    (case c13 => k_is)
    (case k13 => k_is)
    (case a14 => k_is)
    (case l14 => k_is)
    (case c14 => k_is)
    (case k14 => k_is)
    (case a15 => k_is)
    (case l15 => k_is)
    (case c15 => k_is)
    (case k15 => k_is)
    (case a16 => k_is)
    (case l16 => k_is)
    (case c16 => k_is)
    (case k16 => k_is)
    (case a17 => k_is)
    (case l17 => k_is)
    (case c17 => k_is)
    (case k17 => k_is)
    (case a18 => k_is)
    (case l18 => k_is)
    (case c18 => k_is)
    (case k18 => k_is)
    (case a19 => k_is)
    (case l19 => k_is)
    (case c19 => k_is)
    (case k19 => k_is)
