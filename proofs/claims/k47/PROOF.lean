import PyProof.Rows.All
import Wide.All
import OpenK.AllK
import Wide.FinOn
import KE.GoesEnum
import HandS.ForMost
import HandS.Walk
import HandS.Codes
import HandS.IsInst
import HandS.SortInts
import HandS.Strs
import HandS.SetFor
import HandS.Property
import HandS.TupMul
import HandS.TupAny
import HandS.Style
import HandS.Lambda
import HandS.Words
import HandS.Dict
import KE.KDictKeyed
import KE.KDictWalk
import HandS.Deep
import KE.DataEq
import HandS.Zip
import HandS.Zip0
import PyProof.ZipIter
import HandS.Rev
import HandS.EndTab
import HandS.Exc
import HandS.ExcOwn
import HandS.TryOnly
import HandS.WordsExc
import HandS.Conv
import HandS.Star
import HandS.Iter
import HandS.DictComp
import KE.KDictList
import PyProof.Rows.TupDisplay
import KE.KDictCopyH
import KE.KDictSum
import PyProof.DictTruth
import HandS.SortRule
import KE.DataMinMax
import KE.DataFind
import KE.SortData
import HandS.SortKw
import KE.SortKeyHeap
import HandS.ExcValue
import HandS.ExcInit
import HandS.FStr
import HandS.Nested
import KE.KExcSuper
import KE.KSuperObj
import PyProof.FString2
import PyProof.FitsInt
import HandS.ExcField
import HandS.ExcIs
import KE.KExcIs
import PySem.Challenge.RW_routeweb_k47_whole_paid_paths
import KE.KDictOf
import HandS.OwnEq
import KE.GoesEnumKw
import PyProof.Rows.CallKwBuiltin
import KE.KRevSl
set_option Elab.async false
set_option linter.all false
set_option maxRecDepth 100000
set_option maxHeartbeats 8000000
/-! what stays, data, rules of our own -/
namespace Rw
open PySem PySem.Spec PyProof.Rows L2
/-! ### what stays -/
/-- an object that nobody changes -/
def Fixed : HO → Prop
  | .tup _ => True
  | .frz _ _ => True
  | .ins _ _ _ => True
  | _ => False
def Stay (H H' : Hp) : Prop := ∀ a o, Fixed o → H a = some o → H' a = some o
theorem Stay.refl (H : Hp) : Stay H H := fun _ _ _ h => h
theorem Stay.trans {H H1 H2 : Hp} (p : Stay H H1) (q : Stay H1 H2) : Stay H H2 := fun a o f h => q a o f (p a o f h)
theorem Stay.new {H : Hp} {p : Addr} {o : HO} (h : H p = none) : Stay H (upd H p o) := fun a u _ e => by
  rw [upd_ne (ne_of_none e h)]
  exact e
theorem Stay.put {H : Hp} {p : Addr} {u o : HO} (h : H p = some u) (n : ¬ Fixed u) : Stay H (upd H p o) := fun a v f e => by
  have : a ≠ p := fun z => by
    rw [z, h] at e
    cases e
    exact n f
  rw [upd_ne this]
  exact e
theorem Same.new {H : Hp} {p : Addr} {o : HO} (h : H p = none) : Same H (upd H p o) := fun a u e => by
  rw [upd_ne (ne_of_none e h)]
  exact e
/-- all but what stands at r -/
def Ext (r : Addr) (H H' : Hp) : Prop := ∀ a o, a ≠ r → H a = some o → H' a = some o
theorem Ext.refl (r : Addr) (H : Hp) : Ext r H H := fun _ _ _ h => h
theorem Ext.trans {r : Addr} {H H1 H2 : Hp} (p : Ext r H H1) (q : Ext r H1 H2) : Ext r H H2 := fun a o n h => q a o n (p a o n h)
theorem Ext.put {r : Addr} {H : Hp} {o : HO} : Ext r H (upd H r o) := fun a u n e => by
  rw [upd_ne n]
  exact e
theorem Ext.free {r p : Addr} {H H' : Hp} (x : Ext r H H') (n : p ≠ r) (h : H' p = none) : H p = none := by
  cases q : H p with
  | none => rfl
  | some o =>
    rw [x p o n q] at h
    cases h
/-! ### data -/
theorem DpAll.length {K : PySem.W.Frag} {H : Hp} : ∀ {vs : List V} {ds : List PyData}, DpAll K H vs ds → vs.length = ds.length
  | _, _, .nil => rfl
  | _, _, .cons _ k => by rw [List.length_cons, List.length_cons, DpAll.length k]
theorem DpAll.get {K : PySem.W.Frag} {H : Hp} : ∀ {vs : List V} {ds : List PyData} {i : Nat} {d : PyData}, DpAll K H vs ds → ds[i]? = some d → ∃ v, vs[i]? = some v ∧ Dp K H v d
  | _, _, _, _, .nil, e => by simp at e
  | _, _, 0, _, .cons h _, e => by simp at e; subst e; exact ⟨_, rfl, h⟩
  | _, _, i + 1, _, .cons _ k, e => by
    obtain ⟨v, e1, e2⟩ := DpAll.get (i := i) k (by simpa using e)
    exact ⟨v, by simpa using e1, e2⟩
theorem DpAll.getV {K : PySem.W.Frag} {H : Hp} : ∀ {vs : List V} {ds : List PyData} {i : Nat} {v : V}, DpAll K H vs ds → vs[i]? = some v → ∃ d, ds[i]? = some d ∧ Dp K H v d
  | _, _, _, _, .nil, e => by simp at e
  | _, _, 0, _, .cons h _, e => by simp at e; subst e; exact ⟨_, rfl, h⟩
  | _, _, i + 1, _, .cons _ k, e => by
    obtain ⟨d, e1, e2⟩ := DpAll.getV (i := i) k (by simpa using e)
    exact ⟨d, by simpa using e1, e2⟩
theorem DpAll.app {K : PySem.W.Frag} {H : Hp} : ∀ {vs ws : List V} {ds es : List PyData}, DpAll K H vs ds → DpAll K H ws es → DpAll K H (vs ++ ws) (ds ++ es)
  | _, _, _, _, .nil, q => q
  | _, _, _, _, .cons h k, q => .cons h (DpAll.app k q)
theorem Dp.tupE {K : PySem.W.Frag} {H : Hp} {v : V} {ds : List PyData} (h : Dp K H v (.tuple ds)) : ∃ a xs, v = .ref a ∧ SqT K H a xs ∧ DpAll K H xs ds := by
  cases h with
  | tup h k => exact ⟨_, _, rfl, h, k⟩
theorem Dp.lstE {K : PySem.W.Frag} {H : Hp} {v : V} {ds : List PyData} (h : Dp K H v (.list ds)) : ∃ a xs, v = .ref a ∧ SqL K H a xs ∧ DpAll K H xs ds := by
  cases h with
  | lst h k => exact ⟨_, _, rfl, h, k⟩
theorem Dp.intE {K : PySem.W.Frag} {H : Hp} {v : V} {i : Int} (h : Dp K H v (.int i)) : v = .int i := by cases h; rfl
theorem DpAll.ints {K : PySem.W.Frag} {H : Hp} : ∀ {ns : List Int} {vs : List V}, DpAll K H vs (ns.map PyData.int) → vs = ns.map V.int
  | [], _, h => by cases h; rfl
  | n :: ns, _, h => by
    cases h with
    | cons h k => rw [Dp.intE h, DpAll.ints k]; rfl
/-! ### isinstance -/
/-! ### the checks' answers -/
/-! ### readings, opened -/
theorem ex_bl {b : Bool} {p : Bool → Prop} : (∃ c, V.bl b = V.bl c ∧ p c) ↔ p b := ⟨fun ⟨_, e, h⟩ => by cases e; exact h, fun h => ⟨b, rfl, h⟩⟩
/-! ### comprehensions whose elements are data, nothing else changes -/
section
variable {K : PySem.W.Frag} {J : It} {n : Nat} {G : Hp → Prop} {Y : Nat → Hp → V → Hp → Prop} {g : TG} {tt : TT} {te : TE} {vs : List Nat} {σ : L2.St} {H : Hp} {Q : VK}
theorem DpAll.snoc {H : Hp} {acc : List V} {ds : List PyData} {k : Nat} {v : V} {d : PyData} (h : DpAll K H acc (ds.take k)) (e : ds[k]? = some d) (hv : Dp K H v d) : DpAll K H (acc ++ [v]) (ds.take (k + 1)) := by
  rw [List.take_succ, e]
  exact DpAll.app h (.cons hv .nil)
end
/-! ### the rules, the written part told by name (so that a reading does not hang on the block's context) -/
end Rw
/-! a lambda with parameters that captures nothing: made, handed on, called -/
namespace Rw
open PySem PySem.Spec PyProof.Rows L2
open LamX (Tabs TabS TabB ExtN CodeO codeO_ne inv_table among_app)
/-- the object of the lambda at f is o -/
def LamO (f : Addr) (o : Obj) : HO := .ext fun h => h.get? f = some o
theorem lamO_at {P : Program} {w : World} {H : Hp} {h : Heap} {f : Addr} {o : Obj} (k : HOk P w H h) (e : H f = some (LamO f o)) : h.get? f = some o := (k f _ e).1
/-- a table with one code object more -/
def moreAt (H : Hp) (P c : Addr) (q : Str) (ps : Array Value) (pos : Pos) : Hp := upd (upd H P (.tbl (ps ++ #[rawInt pos.line, rawInt pos.col, .ref c]))) c (CodeO c q)
theorem more_ext {H : Hp} {P c : Addr} {q : Str} {ps : Array Value} {pos : Pos} (hP : H P = some (.tbl ps)) (new : H c = none) : ExtN H (moreAt H P c q ps pos) := by
  intro b o e keep
  have bP : b ≠ P := by
    rintro rfl
    exact keep ps (Option.some.inj (e.symm.trans hP))
  show upd (upd H P _) c _ b = some o
  rw [upd_ne (ne_of_none e new), upd_ne bP, e]
theorem more_tabs {T : List (Addr × Str)} {H : Hp} {P c : Addr} {q : Str} {ps : Array Value} {pos : Pos} (known : Tabs T H) (hP : H P = some (.tbl ps)) (new : H c = none) (tri : TriplesOk ps.toList)
    (among : ∀ (pos : Pos) (cv : Value), codeAmong pos ps.toList = some cv → ∃ c, cv = .ref c ∧ H c = some (CodeO c q)) (one : ∀ p ∈ T, p.1 = P → p.2 = q) : Tabs T (moreAt H P c q ps pos) := by
  have x := more_ext (q := q) (pos := pos) hP new
  rintro ⟨B, r⟩ mem
  obtain ⟨qs, atB, triB, amB⟩ := known _ mem
  by_cases same : B = P
  · cases same
    obtain rfl : r = q := one _ mem rfl
    refine ⟨ps ++ #[rawInt pos.line, rawInt pos.col, .ref c], (upd_ne (ne_of_none hP new)).trans upd_same, ?_, ?_⟩
    · simpa using PySem.TriplesOk_snoc _ _ _ _ tri
    · intro p2 cv hit
      have hit2 : codeAmong p2 (ps.toList ++ [rawInt pos.line, rawInt pos.col, .ref c]) = some cv := by simpa using hit
      rcases among_app _ tri hit2 with old | rfl
      · obtain ⟨d, rfl, at_⟩ := among _ _ old
        exact ⟨d, rfl, x _ _ at_ codeO_ne⟩
      · exact ⟨c, rfl, upd_same⟩
  · refine ⟨qs, ?_, triB, fun p2 cv hit => ?_⟩
    · show upd (upd H P _) c _ B = some (.tbl qs)
      rw [upd_ne (ne_of_none atB new), upd_ne same]
      exact atB
    · obtain ⟨d, rfl, at_⟩ := amB _ _ hit
      exact ⟨d, rfl, x _ _ at_ codeO_ne⟩
section
variable {X : Cx}
/-- a function object put behind the heap is told -/
theorem inv_fun {pins : List (Addr × Obj)} {σ : L2.St} {H : Hp} {s : Shared} {h : Heap} {tk : Nat} {o : Obj} (I : Inv X pins σ H s) (grown : ∀ b u, s.heap.get? b = some u → h.get? b = some u) (far : s.heap.objs.size ≤ h.objs.size) (alive : o.isFreed = false) :
    Inv X pins σ (upd H h.objs.size (LamO h.objs.size o)) { s with heap := h.push o, toks := tk } := by
  have there : (h.push o).get? h.objs.size = some o := Heap.get?_push_size _ alive
  exact I.laid (fun b u e => Heap.get?_push_of_some _ (grown b u e)) far ⟨there, ⟨o, there⟩, fun _ _ old st => st _ old⟩
end
end Rw
/-! data without addresses, what a heap holds of it, states -/
namespace Fx
open PySem PySem.Spec PyProof.Rows L2
open LamX (Tabs TabS TabB ExtN CodeO codeO_ne)
/-- a value without the heap -/
inductive D where
  | non | bl (b : Bool) | int (i : Int) | str (s : Str) | ty (n : String)
  | tup (ds : List D) | lst (ds : List D) | ins (c : String) (ds : List D) | dct (ks vs : List D) | dcq (ks vs : List D) | scr (ns : List Int) | fn (k : Nat) | xo (a : Addr) (o : Unit → HO) | exc | rng (lo hi : Int)
/-- what a name holds: a value that stays, or a cell that this def alone may change (b: its place, where it is an argument's) -/
inductive S where
  | d (x : D) | o (b : Option Nat) (x : D)
  /-- a dict whose values are lists that this def alone may change -/
  | q (ks : List D) (dss : List (List D))
structure Err where
  cls : String
  fs : List D
abbrev En := List (Option S)
inductive Out (α : Type) where
  | ok (a : α) (ρ : En) | err (e : Err) (ρ : En) | stuck
def M (α : Type) := En → Out α
def Out.then {α β : Type} : Out α → (α → En → Out β) → Out β
  | .ok a ρ, f => f a ρ
  | .err e ρ, _ => .err e ρ
  | .stuck, _ => .stuck
@[reducible] def M.bind {α β : Type} (m : M α) (f : α → M β) : M β := fun ρ => (m ρ).then f
instance : Monad M where
  pure a := fun ρ => .ok a ρ
  bind := M.bind
/-- a lambda of the text: its full name, its parameters, body and scope -/
structure LamS where
  q : Str
  params : Arguments
  body : Expr
  scope : Scope
/-- the exception that a suite holds: its place, its dict, the fields -/
structure ExcI where
  a : Addr
  d : Option Addr
  fs : List (Str × V)
/-- what a law's context knows: the written part, the classes, their fields, the tables of code objects -/
structure Cfg where
  K : PySem.W.Frag
  cls : String → Addr
  flds : String → List Str
  T : List (Addr × Str)
  err : Err → Value → Option Addr → Hp → Prop
  fns : Nat → LamS
  w : World
  exc : Option ExcI
/-- a tuple of numbers alone -/
def isIntD : D → Bool
  | .int _ => true
  | _ => false
def pairy : D → Bool
  | .tup ds => ds.all isIntD
  | _ => false
/-- tuples of numbers, one at least: such a tuple is known to carry no attributes, so its methods can be called -/
def arcy : List D → Bool
  | [] => false
  | d :: ds => pairy d && ds.all pairy
/-- a tuple's object that carries no attributes -/
def SqN (G : Hp) (a : Addr) (vs : List V) : Prop := ∃ o : Obj, G a = some (.frz o (.tup vs)) ∧ o.dict = none
/-- the key of a datum -/
def keyD : Key → D
  | .inl i => .int i
  | .inr x => .str x
mutual
def nkD : D → Option NestedKey
  | .non => some .none
  | .int i => some (.num i)
  | .str x => some (.text x)
  | .tup ds => match nkDs ds with
    | some ks => some (.tup ks)
    | none => none
  | .bl _ => none
  | .ty _ => none
  | .lst _ => none
  | .ins _ _ => none
  | .dct _ _ => none
  | .dcq _ _ => none
  | .scr _ => none
  | .fn _ => none
  | .xo _ _ => none
  | .exc => none
  | .rng _ _ => none
def nkDs : List D → Option (List NestedKey)
  | [] => some []
  | d :: ds => match nkD d, nkDs ds with
    | some k, some ks => some (k :: ks)
    | _, _ => none
end
/-- a dict whose object is known -/
def xdO (a : Addr) (o : Obj) : HO := .ext fun h => h.get? a = some o
def MixObj (w : World) (o : Obj) (kvs : List (Key × Value)) : Prop := ∀ (P : Program) (h : Heap) (a : Addr), h.get? a = some o → h.DictOf (mixKind P w) a kvs
def NkObj (w : World) (o : Obj) (xs : List (NestedKey × Addr × Value)) : Prop := ∀ (P : Program) (h : Heap) (a : Addr), h.get? a = some o → (∀ x ∈ xs, (nestedKind P w).is h x.1 x.2.1) → h.DictOfH (nestedKind P w) a xs
/-- the object o is a dict with the keys ks: ints and texts, or tuples; kv, us: its keys and values -/
inductive DcO (w : World) (a : Addr) (o : Obj) : List D → List V → List V → Prop
  | mix {kvs : List (Key × Value)} {us : List V} : (a == sysModules) = false → o.ExactDict → (∃ es ep, o.data = .dict es ep) → MixObj w o kvs → kvs.length ≤ sizeLine → Vals us (kvs.map (·.2)) → DcO w a o (kvs.map fun p => keyD p.1) (kvs.map fun p => kV p.1) us
  | nk {xs : List (NestedKey × Addr × Value)} {us : List V} {ks : List D} : (a == sysModules) = false → o.ExactDict → (∃ es ep, o.data = .dict es ep) → NkObj w o xs → xs.length ≤ sizeLine → Vals us (xs.map (·.2.2)) → ks.map nkD = xs.map (fun x => some x.1) → (∀ x ∈ xs, x.1.depth ≤ 8) → DcO w a o ks (xs.map fun x => V.ref x.2.1) us
mutual
inductive Rp (c : Cfg) (G : Hp) : V → D → Prop
  | non : Rp c G .non .non
  | bl (b : Bool) : Rp c G (.bl b) (.bl b)
  | int (i : Int) : Rp c G (.int i) (.int i)
  | str (s : Str) : Rp c G (.str s) (.str s)
  | ty (n : String) : Rp c G (.ty n) (.ty n)
  | tup {a : Addr} {vs : List V} {ds : List D} : SqT c.K G a vs → RpAll c G vs ds → (arcy ds = true → SqN G a vs) → Rp c G (.ref a) (.tup ds)
  | lst {a : Addr} {vs : List V} {ds : List D} : G a = some (.lst vs) → RpAll c G vs ds → Rp c G (.ref a) (.lst ds)
  | scr {a : Addr} {ns : List Int} : SqL c.K G a (ns.map V.int) → Rp c G (.ref a) (.scr ns)
  | ins {a dx : Addr} {n : String} {fs : List (Str × V)} {ds : List D} : G a = some (.ins (c.cls n) dx fs) → fs.map (·.1) = c.flds n → RpAll c G (fs.map (·.2)) ds → Rp c G (.ref a) (.ins n ds)
  | dct {a : Addr} {kvs : List (Key × V)} {vs : List D} : G a = some (.dK kvs) → RpAll c G (kvs.map (·.2)) vs → Rp c G (.ref a) (.dcq (kvs.map fun p => keyD p.1) vs)
  | dcx {a : Addr} {o : Obj} {kv us : List V} {ks ds : List D} : G a = some (xdO a o) → DcO c.w a o ks kv us → RpAll c G kv ks → RpAll c G us ds → Rp c G (.ref a) (.dct ks ds)
  | xo {a : Addr} {o : Unit → HO} : G a = some (o ()) → Rp c G (.ref a) (.xo a o)
  | exc {x : ExcI} : c.exc = some x → (∀ dd, x.d = some dd → G dd = some (.xd x.fs)) → Rp c G (.ref x.a) .exc
  | rng {a : Addr} {lo hi : Int} : G a = some (.rng lo hi) → Rp c G (.ref a) (.rng lo hi)
  | fn {f c' : Addr} {k : Nat} {pm ctv : Value} : G f = some (Rw.LamO f (PySem.W.kla_obj "<lambda>" (c.fns k).q (c.fns k).params (c.fns k).body (c.fns k).scope [] pm c' ctv)) → G c' = some (CodeO c' (c.fns k).q) → Rp c G (.ref f) (.fn k)
inductive RpAll (c : Cfg) (G : Hp) : List V → List D → Prop
  | nil : RpAll c G [] []
  | cons {v : V} {d : D} {vs : List V} {ds : List D} : Rp c G v d → RpAll c G vs ds → RpAll c G (v :: vs) (d :: ds)
end
/-- what stands at a changing cell -/
def Cell (c : Cfg) (G H : Hp) (a : Addr) : D → Prop
  | .lst ds => ∃ vs, H a = some (.lst vs) ∧ RpAll c G vs ds
  | .ins n ds => ∃ dx fs, H a = some (.ins (c.cls n) dx fs) ∧ fs.map (·.1) = (c.flds n).take ds.length ∧ RpAll c G (fs.map (·.2)) ds
  | .dct ks ds => ∃ o kv us, H a = some (xdO a o) ∧ DcO c.w a o ks kv us ∧ RpAll c G kv ks ∧ RpAll c G us ds
  | _ => False
abbrev Owns := List Addr
/-- lists that may be changed, at their places -/
inductive LsAll (c : Cfg) (G H : Hp) : List Addr → List (List D) → Prop
  | nil : LsAll c G H [] []
  | cons {b : Addr} {us : List V} {ds : List D} {bs : List Addr} {dss : List (List D)} : H b = some (.lst us) → RpAll c G us ds → LsAll c G H bs dss → LsAll c G H (b :: bs) (ds :: dss)
/-- a dict of such lists at a; os: all that is owned -/
def QCell (c : Cfg) (G H : Hp) (a : Addr) (ks : List D) (dss : List (List D)) (os : Owns) : Prop :=
  ∃ (kvs : List (Key × V)) (bs : List Addr), os = a :: bs ∧ H a = some (.dK kvs) ∧ ks = kvs.map (fun p => keyD p.1) ∧ kvs.map (·.2) = bs.map V.ref ∧ LsAll c G H bs dss
/-- where the cells of a def's arguments stand -/
structure Base where
  at_ : Nat → Option Addr
inductive Sl (c : Cfg) (B : Base) (G H : Hp) : En → List (Option V) → Owns → Prop
  | nil : Sl c B G H [] [] []
  | skip {v : Option V} {es : En} {vs : List (Option V)} {own : Owns} : Sl c B G H es vs own → Sl c B G H (none :: es) (v :: vs) own
  | d {v : V} {x : D} {es : En} {vs : List (Option V)} {own : Owns} : Rp c G v x → Sl c B G H es vs own → Sl c B G H (some (.d x) :: es) (some v :: vs) own
  | o {a : Addr} {b : Option Nat} {x : D} {es : En} {vs : List (Option V)} {own : Owns} : Cell c G H a x → (∀ p, b = some p → B.at_ p = some a) → Sl c B G H es vs own → Sl c B G H (some (.o b x) :: es) (some (.ref a) :: vs) (a :: own)
  | q {a : Addr} {ks : List D} {dss : List (List D)} {es : En} {vs : List (Option V)} {os own : Owns} : QCell c G H a ks dss os → Sl c B G H es vs own → Sl c B G H (some (.q ks dss) :: es) (some (.ref a) :: vs) (os ++ own)
def isTbl : HO → Bool
  | .tbl _ => true
  | _ => false
structure OkB (c : Cfg) (B : Base) (G H : Hp) (own : Owns) : Prop where
  sub : ∀ a o, G a = some o → H a = some o
  notbl : ∀ a o, G a = some o → isTbl o = false
  nd : own.Nodup
  out : ∀ p ∈ own, G p = none ∧ H p ≠ none
  tabs : Tabs c.T H
def Rep (c : Cfg) (B : Base) (ts : En) (vs : List (Option V)) (ρ : En) (σ : L2.St) (H : Hp) : Prop :=
  ∃ G o1 o2, OkB c B G H (o1 ++ o2) ∧ Sl c B G H ts vs o1 ∧ Sl c B G H ρ σ o2
section
variable {c : Cfg} {B : Base} {G G' H H' : Hp}
mutual
theorem Rp.mono (s : ∀ a o, G a = some o → G' a = some o) : ∀ {v : V} {d : D}, Rp c G v d → Rp c G' v d
  | _, _, .non => .non
  | _, _, .bl b => .bl b
  | _, _, .int i => .int i
  | _, _, .str x => .str x
  | _, _, .ty n => .ty n
  | _, _, .tup h k n => .tup (by
      rcases h with (h | ⟨o, h⟩) | h
      · exact .inl (.inl (s _ _ h))
      · exact .inl (.inr ⟨o, s _ _ h⟩)
      · exact .inr h) (RpAll.mono s k) (fun e => let ⟨o, h1, h2⟩ := n e; ⟨o, s _ _ h1, h2⟩)
  | _, _, .lst h k => .lst (s _ _ h) (RpAll.mono s k)
  | _, _, .scr h => .scr (Same.seq s h)
  | _, _, .ins h n k => .ins (s _ _ h) n (RpAll.mono s k)
  | _, _, .dct h k => .dct (s _ _ h) (RpAll.mono s k)
  | _, _, .dcx h o k1 k2 => .dcx (s _ _ h) o (RpAll.mono s k1) (RpAll.mono s k2)
  | _, _, .xo h => .xo (s _ _ h)
  | _, _, .exc h k => .exc h fun dd e => s _ _ (k dd e)
  | _, _, .rng h => .rng (s _ _ h)
  | _, _, .fn h k => .fn (s _ _ h) (s _ _ k)
termination_by structural _ _ h => h
theorem RpAll.mono (s : ∀ a o, G a = some o → G' a = some o) : ∀ {vs : List V} {ds : List D}, RpAll c G vs ds → RpAll c G' vs ds
  | _, _, .nil => .nil
  | _, _, .cons h k => .cons (Rp.mono s h) (RpAll.mono s k)
termination_by structural _ _ h => h
end
theorem RpAll.length : ∀ {vs : List V} {ds : List D}, RpAll c G vs ds → vs.length = ds.length
  | _, _, .nil => rfl
  | _, _, .cons _ k => by rw [List.length_cons, List.length_cons, RpAll.length k]
theorem RpAll.get : ∀ {vs : List V} {ds : List D} {i : Nat} {d : D}, RpAll c G vs ds → ds[i]? = some d → ∃ v, vs[i]? = some v ∧ Rp c G v d
  | _, _, _, _, .nil, e => by simp at e
  | _, _, 0, _, .cons h _, e => by simp at e; subst e; exact ⟨_, rfl, h⟩
  | _, _, i + 1, _, .cons _ k, e => by
    obtain ⟨v, e1, e2⟩ := RpAll.get (i := i) k (by simpa using e)
    exact ⟨v, by simpa using e1, e2⟩
theorem RpAll.getV : ∀ {vs : List V} {ds : List D} {i : Nat} {v : V}, RpAll c G vs ds → vs[i]? = some v → ∃ d, ds[i]? = some d ∧ Rp c G v d
  | _, _, _, _, .nil, e => by simp at e
  | _, _, 0, _, .cons h _, e => by simp at e; subst e; exact ⟨_, rfl, h⟩
  | _, _, i + 1, _, .cons _ k, e => by
    obtain ⟨d, e1, e2⟩ := RpAll.getV (i := i) k (by simpa using e)
    exact ⟨d, by simpa using e1, e2⟩
theorem RpAll.app : ∀ {vs ws : List V} {ds es : List D}, RpAll c G vs ds → RpAll c G ws es → RpAll c G (vs ++ ws) (ds ++ es)
  | _, _, _, _, .nil, q => q
  | _, _, _, _, .cons h k, q => .cons h (RpAll.app k q)
theorem RpAll.take : ∀ {vs : List V} {ds : List D} (n : Nat), RpAll c G vs ds → RpAll c G (vs.take n) (ds.take n)
  | _, _, 0, _ => by simp only [List.take_zero]; exact .nil
  | _, _, _ + 1, .nil => .nil
  | _, _, n + 1, .cons h k => .cons h (RpAll.take n k)
theorem RpAll.drop : ∀ {vs : List V} {ds : List D} (n : Nat), RpAll c G vs ds → RpAll c G (vs.drop n) (ds.drop n)
  | _, _, 0, h => h
  | _, _, _ + 1, .nil => .nil
  | _, _, n + 1, .cons _ k => RpAll.drop n k
theorem RpAll.set : ∀ {vs : List V} {ds : List D} (i : Nat) {v : V} {d : D}, RpAll c G vs ds → Rp c G v d → RpAll c G (vs.set i v) (ds.set i d)
  | _, _, _, _, _, .nil, _ => .nil
  | _, _, 0, _, _, .cons _ k, q => .cons q k
  | _, _, i + 1, _, _, .cons h k, q => .cons h (RpAll.set i k q)
theorem RpAll.snoc {vs : List V} {ds : List D} {v : V} {d : D} (h : RpAll c G vs ds) (q : Rp c G v d) : RpAll c G (vs ++ [v]) (ds ++ [d]) := h.app (.cons q .nil)
theorem RpAll.of : ∀ {vs : List V} {ds : List D}, vs.length = ds.length → (∀ (i : Nat) (v : V), vs[i]? = some v → ∃ d, ds[i]? = some d ∧ Rp c G v d) → RpAll c G vs ds
  | [], [], _, _ => .nil
  | [], _ :: _, e, _ => by simp at e
  | _ :: _, [], e, _ => by simp at e
  | v :: vs, d :: ds, e, h => by
    obtain ⟨d', e1, h1⟩ := h 0 v rfl
    cases e1
    exact .cons h1 (RpAll.of (by simpa using e) fun i w hw => h (i + 1) w hw)
theorem RpAll.rev {vs : List V} {ds : List D} (h : RpAll c G vs ds) : RpAll c G vs.reverse ds.reverse := by
  refine .of (by simp [h.length]) fun i v e => ?_
  have hi : i < vs.length := by
    have := (List.getElem?_eq_some_iff.mp e).1
    simpa using this
  rw [List.getElem?_reverse hi] at e
  obtain ⟨d, e1, e2⟩ := h.getV e
  refine ⟨d, ?_, e2⟩
  rw [List.getElem?_reverse (by rw [← h.length]; exact hi), ← h.length]
  exact e1
theorem Cell.mono (s : ∀ a o, G a = some o → G' a = some o) {a : Addr} (e : H' a = H a) {x : D} (h : Cell c G H a x) : Cell c G' H' a x := by
  cases x with
  | lst ds =>
    obtain ⟨vs, h, k⟩ := h
    exact ⟨vs, e.trans h, k.mono s⟩
  | ins n ds =>
    obtain ⟨dx, fs, h, hn, k⟩ := h
    exact ⟨dx, fs, e.trans h, hn, k.mono s⟩
  | dct ks ds =>
    obtain ⟨o, kv, us, h, d, k1, k2⟩ := h
    exact ⟨o, kv, us, e.trans h, d, k1.mono s, k2.mono s⟩
  | _ => exact h.elim
theorem LsAll.mono (s : ∀ a o, G a = some o → G' a = some o) : ∀ {bs : List Addr} {dss : List (List D)}, (∀ p ∈ bs, H' p = H p) → LsAll c G H bs dss → LsAll c G' H' bs dss
  | _, _, _, .nil => .nil
  | _, _, e, .cons h k l => .cons ((e _ List.mem_cons_self).trans h) (k.mono s) (LsAll.mono s (fun p hp => e p (List.mem_cons_of_mem _ hp)) l)
theorem QCell.mono (s : ∀ a o, G a = some o → G' a = some o) {a : Addr} {ks : List D} {dss : List (List D)} {os : Owns} (e : ∀ p ∈ os, H' p = H p) (h : QCell c G H a ks dss os) : QCell c G' H' a ks dss os := by
  obtain ⟨kvs, bs, rfl, h1, h2, h3, h4⟩ := h
  exact ⟨kvs, bs, rfl, (e _ List.mem_cons_self).trans h1, h2, h3, h4.mono s fun p hp => e p (List.mem_cons_of_mem _ hp)⟩
theorem nodup_sub {os own own' : Owns} (nd : (os ++ own).Nodup) (h : ∀ p ∈ own', p ∈ own) (n : own'.Nodup) : (os ++ own').Nodup := by
  rw [List.nodup_append] at nd ⊢
  exact ⟨nd.1, n, fun x hx y hy => nd.2.2 x hx y (h y hy)⟩
theorem Sl.mono (s : ∀ a o, G a = some o → G' a = some o) : ∀ {es : En} {vs : List (Option V)} {own : Owns}, (∀ p ∈ own, H' p = H p) → Sl c B G H es vs own → Sl c B G' H' es vs own
  | _, _, _, _, .nil => .nil
  | _, _, _, e, .skip k => .skip (Sl.mono s e k)
  | _, _, _, e, .d h k => .d (h.mono s) (Sl.mono s e k)
  | _, _, _, e, .o h hb k => .o (h.mono s (e _ List.mem_cons_self)) hb (Sl.mono s (fun p hp => e p (List.mem_cons_of_mem _ hp)) k)
  | _, _, _, e, .q h k => .q (h.mono s fun p hp => e p (List.mem_append_left _ hp)) (Sl.mono s (fun p hp => e p (List.mem_append_right _ hp)) k)
theorem Sl.length : ∀ {es : En} {vs : List (Option V)} {own : Owns}, Sl c B G H es vs own → es.length = vs.length
  | _, _, _, .nil => rfl
  | _, _, _, .skip k => by rw [List.length_cons, List.length_cons, Sl.length k]
  | _, _, _, .d _ k => by rw [List.length_cons, List.length_cons, Sl.length k]
  | _, _, _, .o _ _ k => by rw [List.length_cons, List.length_cons, Sl.length k]
  | _, _, _, .q _ k => by rw [List.length_cons, List.length_cons, Sl.length k]
theorem Sl.getD : ∀ {es : En} {vs : List (Option V)} {own : Owns} {i : Nat} {x : D}, Sl c B G H es vs own → es[i]? = some (some (.d x)) → ∃ v, vs[i]? = some (some v) ∧ Rp c G v x
  | _, _, _, _, _, .nil, e => by simp at e
  | _, _, _, 0, _, .skip k, e => by simp at e
  | _, _, _, 0, _, .d h k, e => by simp at e; subst e; exact ⟨_, rfl, h⟩
  | _, _, _, 0, _, .o h _ k, e => by simp at e
  | _, _, _, i + 1, _, .skip k, e => Sl.getD (i := i) k (by simpa using e)
  | _, _, _, i + 1, _, .d h k, e => Sl.getD (i := i) k (by simpa using e)
  | _, _, _, i + 1, _, .o h _ k, e => Sl.getD (i := i) k (by simpa using e)
  | _, _, _, 0, _, .q h k, e => by simp at e
  | _, _, _, i + 1, _, .q _ k, e => Sl.getD (i := i) k (by simpa using e)
theorem Sl.getO : ∀ {es : En} {vs : List (Option V)} {own : Owns} {i : Nat} {b : Option Nat} {x : D}, Sl c B G H es vs own → es[i]? = some (some (.o b x)) → ∃ a, vs[i]? = some (some (.ref a)) ∧ Cell c G H a x ∧ a ∈ own ∧ ∀ p, b = some p → B.at_ p = some a
  | _, _, _, _, _, _, .nil, e => by simp at e
  | _, _, _, 0, _, _, .skip k, e => by simp at e
  | _, _, _, 0, _, _, .d h k, e => by simp at e
  | _, _, _, 0, _, _, .o h hb k, e => by simp at e; obtain ⟨rfl, rfl⟩ := e; exact ⟨_, rfl, h, List.mem_cons_self, hb⟩
  | _, _, _, i + 1, _, _, .skip k, e => Sl.getO (i := i) k (by simpa using e)
  | _, _, _, i + 1, _, _, .d h k, e => Sl.getO (i := i) k (by simpa using e)
  | _, _, _, i + 1, _, _, .o h _ k, e => by
    obtain ⟨a, h1, h2, h3, h4⟩ := Sl.getO (i := i) k (by simpa using e)
    exact ⟨a, h1, h2, List.mem_cons_of_mem _ h3, h4⟩
  | _, _, _, 0, _, _, .q h k, e => by simp at e
  | _, _, _, i + 1, _, _, .q _ k, e => by
    obtain ⟨a, h1, h2, h3, h4⟩ := Sl.getO (i := i) k (by simpa using e)
    exact ⟨a, h1, h2, List.mem_append_right _ h3, h4⟩
/-- one entry: its owned cell, if it has one -/
inductive En1 (c : Cfg) (B : Base) (G H : Hp) : S → V → Owns → Prop
  | d {v : V} {x : D} : Rp c G v x → En1 c B G H (.d x) v []
  | o {a : Addr} {b : Option Nat} {x : D} : Cell c G H a x → (∀ p, b = some p → B.at_ p = some a) → En1 c B G H (.o b x) (.ref a) [a]
  | q {a : Addr} {ks : List D} {dss : List (List D)} {os : Owns} : QCell c G H a ks dss os → En1 c B G H (.q ks dss) (.ref a) os
theorem Sl.one {s : S} {v : V} {os : Owns} {es : En} {vs : List (Option V)} {own : Owns} (h : En1 c B G H s v os) (k : Sl c B G H es vs own) : Sl c B G H (some s :: es) (some v :: vs) (os ++ own) := by
  cases h with
  | d h => exact .d h k
  | o h hb => exact .o h hb k
  | q h => exact .q h k
theorem Sl.unone {s : S} {v : Option V} {es : En} {vs : List (Option V)} {own : Owns} (k : Sl c B G H (some s :: es) (v :: vs) own) : ∃ w os own', v = some w ∧ En1 c B G H s w os ∧ own = os ++ own' ∧ Sl c B G H es vs own' := by
  cases k with
  | d h k => exact ⟨_, [], _, rfl, .d h, rfl, k⟩
  | o h hb k => exact ⟨_, [_], _, rfl, .o h hb, rfl, k⟩
  | q h k => exact ⟨_, _, _, rfl, .q h, rfl, k⟩
/-- a slot is set to an entry -/
theorem Sl.set : ∀ {es : En} {vs : List (Option V)} {own : Owns} (i : Nat) {s : S} {v : V} {os : Owns}, Sl c B G H es vs own → En1 c B G H s v os →
    ∃ own', Sl c B G H (es.set i (some s)) (vs.set i (some v)) own' ∧ (∀ p ∈ own', p ∈ os ∨ p ∈ own) ∧ ((os ++ own).Nodup → own'.Nodup)
  | _, _, _, _, _, _, os, .nil, _ => ⟨[], .nil, fun _ h => by simp at h, fun _ => by simp⟩
  | _, _, own, 0, _, _, os, .skip k, e => ⟨os ++ own, Sl.one e k, fun p hp => List.mem_append.mp hp, id⟩
  | _, _, own, 0, _, _, os, .d _ k, e => ⟨os ++ own, Sl.one e k, fun p hp => List.mem_append.mp hp, id⟩
  | _, _, a :: own, 0, _, _, os, .o _ _ k, e => ⟨os ++ own, Sl.one e k, fun p hp => (List.mem_append.mp hp).imp id (List.mem_cons_of_mem _), fun nd => nd.sublist (List.Sublist.append_left (List.sublist_cons_self _ _) _)⟩
  | _, _, _, i + 1, _, _, os, .skip k, e => by
    obtain ⟨own', h1, h2, h3⟩ := Sl.set i k e
    exact ⟨own', .skip h1, h2, h3⟩
  | _, _, _, i + 1, _, _, os, .d h k, e => by
    obtain ⟨own', h1, h2, h3⟩ := Sl.set i k e
    exact ⟨own', .d h h1, h2, h3⟩
  | _, _, a :: own, i + 1, _, _, os, .o h hb k, e => by
    obtain ⟨own', h1, h2, h3⟩ := Sl.set i k e
    refine ⟨a :: own', .o h hb h1, fun p hp => ?_, fun nd => ?_⟩
    · rcases List.mem_cons.mp hp with rfl | hp
      · exact .inr List.mem_cons_self
      · exact (h2 p hp).imp id (List.mem_cons_of_mem _)
    · rw [List.nodup_append] at nd
      obtain ⟨n1, n2, n3⟩ := nd
      obtain ⟨n4, n5⟩ := List.nodup_cons.mp n2
      rw [List.nodup_cons]
      refine ⟨fun hm => ?_, h3 ?_⟩
      · rcases h2 a hm with q | q
        · exact n3 a q a List.mem_cons_self rfl
        · exact n4 q
      · rw [List.nodup_append]
        exact ⟨n1, n5, fun x hx y hy => n3 x hx y (List.mem_cons_of_mem _ hy)⟩
  | _, _, _, 0, _, _, os, @Sl.q _ _ _ _ _ _ _ _ _ qs own _ k, e => ⟨os ++ own, Sl.one e k, fun p hp => (List.mem_append.mp hp).imp id (List.mem_append_right _), fun nd => nd.sublist (List.Sublist.append_left (List.sublist_append_right _ _) _)⟩
  | _, _, _, i + 1, _, _, os, @Sl.q _ _ _ _ _ _ _ _ _ qs own h k, e => by
    obtain ⟨own', h1, h2, h3⟩ := Sl.set i k e
    refine ⟨qs ++ own', .q h h1, fun p hp => ?_, fun nd => ?_⟩
    · rcases List.mem_append.mp hp with hp | hp
      · exact .inr (List.mem_append_left _ hp)
      · exact (h2 p hp).imp id (List.mem_append_right _)
    · rw [List.nodup_append] at nd
      obtain ⟨n1, n2, n3⟩ := nd
      rw [List.nodup_append] at n2 ⊢
      obtain ⟨n4, n5, n6⟩ := n2
      refine ⟨n4, h3 ?_, fun x hx y hy => ?_⟩
      · rw [List.nodup_append]
        exact ⟨n1, n5, fun x hx y hy => n3 x hx y (List.mem_append_right _ hy)⟩
      · rcases h2 y hy with z | z
        · exact fun e => n3 y z x (List.mem_append_left _ hx) e.symm
        · exact n6 x hx y z
/-- a slot is forgotten -/
theorem Sl.forget : ∀ {es : En} {vs : List (Option V)} {own : Owns} (i : Nat) (w : Option V), Sl c B G H es vs own →
    ∃ own', Sl c B G H (es.set i none) (vs.set i w) own' ∧ (∀ p ∈ own', p ∈ own) ∧ (own.Nodup → own'.Nodup)
  | _, _, _, _, _, .nil => ⟨[], .nil, fun _ h => h, id⟩
  | _, _, own, 0, _, .skip k => ⟨own, .skip k, fun _ h => h, id⟩
  | _, _, own, 0, _, .d _ k => ⟨own, .skip k, fun _ h => h, id⟩
  | _, _, a :: own, 0, _, .o _ _ k => ⟨own, .skip k, fun p hp => List.mem_cons_of_mem _ hp, fun nd => (List.nodup_cons.mp nd).2⟩
  | _, _, _, i + 1, w, .skip k => by
    obtain ⟨own', h1, h2, h3⟩ := Sl.forget i w k
    exact ⟨own', .skip h1, h2, h3⟩
  | _, _, _, i + 1, w, .d h k => by
    obtain ⟨own', h1, h2, h3⟩ := Sl.forget i w k
    exact ⟨own', .d h h1, h2, h3⟩
  | _, _, a :: own, i + 1, w, .o h hb k => by
    obtain ⟨own', h1, h2, h3⟩ := Sl.forget i w k
    refine ⟨a :: own', .o h hb h1, fun p hp => ?_, fun nd => ?_⟩
    · rcases List.mem_cons.mp hp with rfl | hp
      · exact List.mem_cons_self
      · exact List.mem_cons_of_mem _ (h2 p hp)
    · rw [List.nodup_cons] at nd ⊢
      exact ⟨fun hm => nd.1 (h2 a hm), h3 nd.2⟩
  | _, _, _, 0, _, @Sl.q _ _ _ _ _ _ _ _ _ qs own _ k => ⟨own, .skip k, fun p hp => List.mem_append_right _ hp, fun nd => (List.nodup_append.mp nd).2.1⟩
  | _, _, _, i + 1, w, @Sl.q _ _ _ _ _ _ _ _ _ qs own h k => by
    obtain ⟨own', h1, h2, h3⟩ := Sl.forget i w k
    refine ⟨qs ++ own', .q h h1, fun p hp => ?_, fun nd => nodup_sub nd h2 (h3 (List.nodup_append.mp nd).2.1)⟩
    rcases List.mem_append.mp hp with hp | hp
    · exact List.mem_append_left _ hp
    · exact List.mem_append_right _ (h2 p hp)
end
section
variable {c : Cfg} {B : Base} {G H H' : Hp} {own own' : Owns} {ts : En} {vs : List (Option V)} {ρ : En} {σ : L2.St}
theorem OkB.subO (k : OkB c B G H own) (h1 : ∀ p ∈ own', p ∈ own) (h2 : own'.Nodup) : OkB c B G H own' := ⟨k.sub, k.notbl, h2, fun p hp => k.out p (h1 p hp), k.tabs⟩
theorem isTbl_false {o : HO} (h : isTbl o = false) (ps : Array Value) : o ≠ .tbl ps := fun z => by
  rw [z] at h
  cases h
theorem tabs_new {T : List (Addr × Str)} {p : Addr} {o : HO} (t : Tabs T H) (hp : H p = none) : Tabs T (upd H p o) := fun q hq => by
  obtain ⟨ps, h1, h2, h3⟩ := t q hq
  refine ⟨ps, by rw [upd_ne (ne_of_none h1 hp)]; exact h1, h2, fun pos cv e => ?_⟩
  obtain ⟨cc, e1, e2⟩ := h3 pos cv e
  exact ⟨cc, e1, by rw [upd_ne (ne_of_none e2 hp)]; exact e2⟩
/-- a cell that is no table and no code object is written -/
inductive isCell : HO → Prop
  | lst (xs : List V) : isCell (.lst xs)
  | ins (C dx : Addr) (fs : List (Str × V)) : isCell (.ins C dx fs)
  | dK (kvs : List (Key × V)) : isCell (.dK kvs)
  | xd (a : Addr) (o : Obj) (es : Array DictEntry) (ep : Nat) : o.data = .dict es ep → isCell (xdO a o)
theorem rep_get (o : Obj) (n : Nat) (h : ∃ es ep, o.data = .dict es ep) (b : Nat) (hb : b < n) : ({ objs := Array.replicate n o } : Heap).get? b = some o := by
  obtain ⟨cl, di, da, sl⟩ := o
  obtain ⟨es, ep, h⟩ := h
  cases h
  unfold Heap.get?
  simp only [Array.getElem?_replicate, hb, if_true]
theorem xdO_code {a q : Addr} {o : Obj} {es : Array DictEntry} {ep : Nat} {x : Str} (h : o.data = .dict es ep) : xdO a o ≠ CodeO q x := fun z => by
  unfold xdO CodeO at z
  injection z with z
  have g1 := rep_get o (a + q + 1) ⟨es, ep, h⟩ a (by omega)
  have g2 := rep_get o (a + q + 1) ⟨es, ep, h⟩ q (by omega)
  have z1 := congrFun z ({ objs := Array.replicate (a + q + 1) o } : Heap)
  have g3 := z1.mp g1
  obtain ⟨oc, vs, t, e1, e2, _⟩ := g3
  rw [g2] at e1
  cases e1
  rw [h] at e2
  cases e2
theorem isCell_tbl {u : HO} (h : isCell u) (ps : Array Value) : u ≠ .tbl ps := fun z => by
  cases h <;> cases z
theorem isCell_code {u : HO} {a : Addr} {q : Str} (h : isCell u) : u ≠ CodeO a q := fun z => by
  cases h with
  | xd a o es ep h => exact xdO_code h z
  | lst => unfold CodeO at z; cases z
  | ins => unfold CodeO at z; cases z
  | dK => unfold CodeO at z; cases z
theorem tabs_put {T : List (Addr × Str)} {p : Addr} {u o : HO} (t : Tabs T H) (hp : H p = some u) (n : isCell u) : Tabs T (upd H p o) := fun q hq => by
  obtain ⟨ps, h1, h2, h3⟩ := t q hq
  refine ⟨ps, ?_, h2, fun pos cv e => ?_⟩
  · have : q.1 ≠ p := fun z => by
      rw [z, hp] at h1
      exact isCell_tbl n ps (Option.some.inj h1)
    rw [upd_ne this]
    exact h1
  · obtain ⟨cc, e1, e2⟩ := h3 pos cv e
    refine ⟨cc, e1, ?_⟩
    have : cc ≠ p := fun z => by
      rw [z, hp] at e2
      exact isCell_code n (Option.some.inj e2)
    rw [upd_ne this]
    exact e2
theorem OkB.gnone (k : OkB c B G H own) {p : Addr} (hp : H p = none) : G p = none := by
  cases e : G p with
  | none => rfl
  | some o =>
    rw [k.sub p o e] at hp
    cases hp
theorem OkB.alloc (k : OkB c B G H own) {p : Addr} {o : HO} (hp : H p = none) (ho : isTbl o = false) : OkB c B (upd G p o) (upd H p o) own := by
  have gp := k.gnone hp
  refine ⟨fun a u e => ?_, fun a u e => ?_, k.nd, fun q hq => ?_, tabs_new k.tabs hp⟩
  · by_cases ha : a = p
    · subst ha
      rw [upd_same] at e ⊢
      exact e
    · rw [upd_ne ha] at e ⊢
      exact k.sub a u e
  · by_cases ha : a = p
    · subst ha
      rw [upd_same] at e
      cases e
      exact ho
    · rw [upd_ne ha] at e
      exact k.notbl a u e
  · obtain ⟨h1, h2⟩ := k.out q hq
    have ha : q ≠ p := fun z => h2 (by rw [z]; exact hp)
    rw [upd_ne ha, upd_ne ha]
    exact ⟨h1, h2⟩
/-- a new cell that may be changed -/
theorem OkB.allocO (k : OkB c B G H own) {p : Addr} {o : HO} (hp : H p = none) : OkB c B G (upd H p o) (p :: own) := by
  have gp := k.gnone hp
  refine ⟨fun a u e => ?_, k.notbl, ?_, fun q hq => ?_, tabs_new k.tabs hp⟩
  · have ha : a ≠ p := fun z => by rw [z, gp] at e; cases e
    rw [upd_ne ha]
    exact k.sub a u e
  · rw [List.nodup_cons]
    exact ⟨fun hm => (k.out p hm).2 hp, k.nd⟩
  · rcases List.mem_cons.mp hq with rfl | hq
    · exact ⟨gp, by rw [upd_same]; simp⟩
    · obtain ⟨h1, h2⟩ := k.out q hq
      have ha : q ≠ p := fun z => h2 (by rw [z]; exact hp)
      rw [upd_ne ha]
      exact ⟨h1, h2⟩
/-- an owned cell stays from here on -/
theorem OkB.freeze {p : Addr} {o : HO} (k : OkB c B G H own) (hp : p ∈ own) (e : H p = some o) (ho : isTbl o = false) (h1 : ∀ q ∈ own', q ∈ own ∧ q ≠ p) (h2 : own'.Nodup) : OkB c B (upd G p o) H own' := by
  obtain ⟨gp, _⟩ := k.out _ hp
  refine ⟨fun a u e' => ?_, fun a u e' => ?_, h2, fun q hq => ?_, k.tabs⟩
  · by_cases ha : a = p
    · subst ha
      rw [upd_same] at e'
      rw [e, ← e']
    · rw [upd_ne ha] at e'
      exact k.sub a u e'
  · by_cases ha : a = p
    · subst ha
      rw [upd_same] at e'
      cases e'
      exact ho
    · rw [upd_ne ha] at e'
      exact k.notbl a u e'
  · obtain ⟨m, ne⟩ := h1 q hq
    obtain ⟨h1, h2⟩ := k.out q m
    rw [upd_ne ne]
    exact ⟨h1, h2⟩
/-- an owned cell is written -/
theorem OkB.write {p : Addr} {u o : HO} (k : OkB c B G H own) (hp : p ∈ own) (e : H p = some u) (hu : isCell u) : OkB c B G (upd H p o) own := by
  obtain ⟨gp, _⟩ := k.out _ hp
  refine ⟨fun a u' e' => ?_, k.notbl, k.nd, fun q hq => ?_, tabs_put k.tabs e hu⟩
  · have ha : a ≠ p := fun z => by rw [z, gp] at e'; cases e'
    rw [upd_ne ha]
    exact k.sub a u' e'
  · obtain ⟨h1, h2⟩ := k.out q hq
    refine ⟨h1, ?_⟩
    by_cases ha : q = p
    · rw [ha, upd_same]
      simp
    · rw [upd_ne ha]
      exact h2
end
end Fx
/-! what a reading makes of a state -/
namespace Fx
open PySem PySem.Spec PyProof.Rows L2
open LamX (Tabs TabS TabB ExtN CodeO codeO_ne)
/-- data that wait, the last one first -/
abbrev tmp (ds : List D) : En := ds.reverse.map fun x => some (S.d x)
abbrev tmv (us : List V) : List (Option V) := us.reverse.map some
section
variable {c : Cfg} {B : Base} {G H H' : Hp} {own own' : Owns} {ts : En} {vs : List (Option V)} {ρ : En} {σ : L2.St}
theorem Sl.tmpR : ∀ {ds : List D} {us : List V} {own : Owns}, us.length = ds.length → Sl c B G H (ds.map (fun x => some (S.d x)) ++ ts) (us.map some ++ vs) own → RpAll c G us ds ∧ Sl c B G H ts vs own
  | [], [], _, _, h => ⟨.nil, h⟩
  | [], _ :: _, _, e, _ => by simp at e
  | _ :: _, [], _, e, _ => by simp at e
  | x :: ds, u :: us, _, e, h => by
    cases h with
    | d h k =>
      obtain ⟨h1, h2⟩ := Sl.tmpR (by simpa using e) k
      exact ⟨.cons h h1, h2⟩
theorem Sl.tmp {ds : List D} {us : List V} (e : us.length = ds.length) (h : Sl c B G H (tmp ds ++ ts) (tmv us ++ vs) own) : RpAll c G us ds ∧ Sl c B G H ts vs own := by
  obtain ⟨h1, h2⟩ := Sl.tmpR (by simpa using e) h
  refine ⟨?_, h2⟩
  have := h1.rev
  simpa using this
theorem upd_sub {p : Addr} {o : HO} (h : G p = none) : ∀ a u, G a = some u → upd G p o a = some u := fun a u e => by
  rw [upd_ne (ne_of_none e h)]
  exact e
/-- the owned cells stay behind a new object -/
theorem own_new {p : Addr} {o : HO} (k : OkB c B G H own) (hp : H p = none) : ∀ q ∈ own, upd H p o q = H q := fun q hq => by
  have ha : q ≠ p := fun z => (k.out q hq).2 (by rw [z]; exact hp)
  rw [upd_ne ha]
/-- a new object of what waits -/
theorem Rep.new {ds : List D} {us : List V} {p : Addr} {o : HO} {x : D} (r : Rep c B (tmp ds ++ ts) (tmv us ++ vs) ρ σ H) (hl : us.length = ds.length) (hp : H p = none) (ho : isTbl o = false) (hx : ∀ G', G' p = some o → RpAll c G' us ds → Rp c G' (.ref p) x) :
    Rep c B (some (.d x) :: ts) (some (.ref p) :: vs) ρ σ (upd H p o) := by
  obtain ⟨G, o1, o2, k, h1, h2⟩ := r
  obtain ⟨a1, a2⟩ := h1.tmp hl
  have gp := k.gnone hp
  have ow := own_new (o := o) k hp
  exact ⟨upd G p o, o1, o2, k.alloc hp ho, .d (hx _ upd_same (a1.mono (upd_sub gp))) (a2.mono (upd_sub gp) fun q hq => ow q (List.mem_append_left _ hq)), h2.mono (upd_sub gp) fun q hq => ow q (List.mem_append_right _ hq)⟩
theorem Rep.newO {ds : List D} {us : List V} {p : Addr} {o : HO} {x : D} (r : Rep c B (tmp ds ++ ts) (tmv us ++ vs) ρ σ H) (hl : us.length = ds.length) (hp : H p = none) (hx : ∀ G H', H' p = some o → RpAll c G us ds → Cell c G H' p x) :
    Rep c B (some (.o none x) :: ts) (some (.ref p) :: vs) ρ σ (upd H p o) := by
  obtain ⟨G, o1, o2, k, h1, h2⟩ := r
  obtain ⟨a1, a2⟩ := h1.tmp hl
  have ow := own_new (o := o) k hp
  refine ⟨G, p :: o1, o2, k.allocO hp, .o (hx _ _ upd_same a1) (fun _ e => nomatch e) (a2.mono (fun _ _ e => e) fun q hq => ow q (List.mem_append_left _ hq)), h2.mono (fun _ _ e => e) fun q hq => ow q (List.mem_append_right _ hq)⟩
/-- what waits gives a value, the heap as it is -/
theorem Rep.repl {ds : List D} {us : List V} {v : V} {x : D} (r : Rep c B (tmp ds ++ ts) (tmv us ++ vs) ρ σ H) (hl : us.length = ds.length) (hx : ∀ G, RpAll c G us ds → Rp c G v x) : Rep c B (some (.d x) :: ts) (some v :: vs) ρ σ H := by
  obtain ⟨G, o1, o2, k, h1, h2⟩ := r
  obtain ⟨a1, a2⟩ := h1.tmp hl
  exact ⟨G, o1, o2, k, .d (hx _ a1) a2, h2⟩
/-- what may be read of what waits -/
theorem Rep.read {ds : List D} {us : List V} (r : Rep c B (tmp ds ++ ts) (tmv us ++ vs) ρ σ H) (hl : us.length = ds.length) : ∃ G, (∀ a o, G a = some o → H a = some o) ∧ RpAll c G us ds := by
  obtain ⟨G, o1, o2, k, h1, h2⟩ := r
  exact ⟨G, k.sub, (h1.tmp hl).1⟩
theorem Rep.drop {s : Option S} {v : Option V} (r : Rep c B (s :: ts) (v :: vs) ρ σ H) : Rep c B ts vs ρ σ H := by
  obtain ⟨G, o1, o2, k, h1, h2⟩ := r
  cases h1 with
  | skip h => exact ⟨G, _, o2, k, h, h2⟩
  | d _ h => exact ⟨G, _, o2, k, h, h2⟩
  | o _ _ h =>
    refine ⟨G, _, o2, k.subO (fun p hp => List.mem_cons_of_mem _ hp) ?_, h, h2⟩
    have := k.nd
    rw [List.cons_append, List.nodup_cons] at this
    exact this.2
  | q _ h =>
    refine ⟨G, _, o2, k.subO (fun p hp => ?_) ?_, h, h2⟩
    · rw [List.append_assoc]
      exact List.mem_append_right _ hp
    · have := k.nd
      rw [List.append_assoc] at this
      exact (List.nodup_append.mp this).2.1
theorem Rep.dropN {ds : List D} {us : List V} (hl : us.length = ds.length) (r : Rep c B (tmp ds ++ ts) (tmv us ++ vs) ρ σ H) : Rep c B ts vs ρ σ H := by
  obtain ⟨G, o1, o2, k, h1, h2⟩ := r
  exact ⟨G, o1, o2, k, (h1.tmp hl).2, h2⟩
def canFz : D → Bool
  | .lst _ => true
  | .dct _ _ => true
  | _ => false
theorem Cell.fz {a : Addr} {x : D} (hx : canFz x = true) (hc : Cell c G H a x) : ∃ o, H a = some o ∧ isTbl o = false ∧ ∀ G', (∀ b u, G b = some u → G' b = some u) → G' a = some o → Rp c G' (.ref a) x := by
  cases x with
  | lst ds =>
    obtain ⟨vs, h, k⟩ := hc
    exact ⟨_, h, rfl, fun G' s e => .lst e (k.mono s)⟩
  | dct ks ds =>
    obtain ⟨o, kv, us, h, d, k1, k2⟩ := hc
    exact ⟨_, h, rfl, fun G' s e => .dcx e d (k1.mono s) (k2.mono s)⟩
  | _ => cases hx
/-- a new cell stays from here on -/
theorem Rep.fz {x : D} {v : V} (hx : canFz x = true) (r : Rep c B (some (.o none x) :: ts) (some v :: vs) ρ σ H) : Rep c B (some (.d x) :: ts) (some v :: vs) ρ σ H := by
  obtain ⟨G, o1, o2, k, h1, h2⟩ := r
  cases h1 with
  | @o a _ _ _ _ own hc hb h =>
    obtain ⟨o, e, ho, f⟩ := hc.fz hx
    have nd := k.nd
    rw [List.cons_append, List.nodup_cons] at nd
    have gp := (k.out _ (List.mem_append_left _ List.mem_cons_self)).1
    exact ⟨upd G a o, own, o2, k.freeze (List.mem_append_left _ List.mem_cons_self) e ho (fun q hq => ⟨List.mem_cons_of_mem _ hq, fun z => nd.1 (z ▸ hq)⟩) nd.2, .d (f _ (upd_sub gp) upd_same) (h.mono (upd_sub gp) fun _ _ => rfl), h2.mono (upd_sub gp) fun _ _ => rfl⟩
/-- a name's cell stays from here on -/
theorem Sl.fzAt : ∀ {es : En} {vs : List (Option V)} {own : Owns} {i : Nat} {b : Option Nat} {x : D} {a : Addr}, own.Nodup → Sl c B G H es vs own → es[i]? = some (some (.o b x)) → vs[i]? = some (some (.ref a)) → Rp c G (.ref a) x →
    ∃ own', Sl c B G H (es.set i (some (.d x))) vs own' ∧ (∀ q ∈ own', q ∈ own ∧ q ≠ a) ∧ own'.Nodup := by
  intro es
  induction es with
  | nil => intro vs own i b x a _ _ e; simp at e
  | cons s es ih =>
    intro vs own i b x a nd h e ev hr
    cases h with
    | skip k =>
      cases i with
      | zero => simp at e
      | succ i =>
        obtain ⟨own', h1, h2, h3⟩ := ih nd k (by simpa using e) (by simpa using ev) hr
        exact ⟨own', .skip h1, h2, h3⟩
    | d hh k =>
      cases i with
      | zero => simp at e
      | succ i =>
        obtain ⟨own', h1, h2, h3⟩ := ih nd k (by simpa using e) (by simpa using ev) hr
        exact ⟨own', .d hh h1, h2, h3⟩
    | @o a' b' x' _ _ own hh hb k =>
      rw [List.nodup_cons] at nd
      cases i with
      | zero =>
        simp at e ev
        obtain ⟨rfl, rfl⟩ := e
        subst ev
        exact ⟨own, .d hr k, fun q hq => ⟨List.mem_cons_of_mem _ hq, fun z => nd.1 (z ▸ hq)⟩, nd.2⟩
      | succ i =>
        have e' : es[i]? = some (some (.o b x)) := by simpa using e
        obtain ⟨a2, e2, _, m2, _⟩ := k.getO e'
        obtain ⟨own', h1, h2, h3⟩ := ih nd.2 k e' (by simpa using ev) hr
        have ea : a2 = a := by
          have : _ = some (some (V.ref a)) := (by simpa using ev)
          rw [this] at e2
          cases e2
          rfl
        subst ea
        refine ⟨a' :: own', .o hh hb h1, fun q hq => ?_, ?_⟩
        · rcases List.mem_cons.mp hq with rfl | hq
          · exact ⟨List.mem_cons_self, fun z => nd.1 (z ▸ m2)⟩
          · exact ⟨List.mem_cons_of_mem _ (h2 q hq).1, (h2 q hq).2⟩
        · rw [List.nodup_cons]
          exact ⟨fun hm => nd.1 (h2 a' hm).1, h3⟩
    | @q a' ks' dss' _ _ qs own hh k =>
      cases i with
      | zero => simp at e
      | succ i =>
        have e' : es[i]? = some (some (.o b x)) := by simpa using e
        obtain ⟨a2, e2, _, m2, _⟩ := k.getO e'
        have n2 := (List.nodup_append.mp nd)
        obtain ⟨own', h1, h2, h3⟩ := ih n2.2.1 k e' (by simpa using ev) hr
        have ea : a2 = a := by
          have : _ = some (some (V.ref a)) := (by simpa using ev)
          rw [this] at e2
          cases e2
          rfl
        subst ea
        refine ⟨qs ++ own', .q hh h1, fun q hq => ?_, nodup_sub nd (fun p hp => (h2 p hp).1) h3⟩
        rcases List.mem_append.mp hq with hq | hq
        · exact ⟨List.mem_append_left _ hq, fun z => n2.2.2 q hq a2 m2 z⟩
        · exact ⟨List.mem_append_right _ (h2 q hq).1, (h2 q hq).2⟩
theorem Rep.fzAt {i : Nat} {b : Option Nat} {x : D} (hx : canFz x = true) (e : ρ[i]? = some (some (.o b x))) (r : Rep c B ts vs ρ σ H) : Rep c B ts vs (ρ.set i (some (.d x))) σ H := by
  obtain ⟨G, o1, o2, k, h1, h2⟩ := r
  obtain ⟨a, ev, hc, hm, _⟩ := h2.getO e
  obtain ⟨o, eo, ho, f⟩ := hc.fz hx
  have gp := (k.out _ (List.mem_append_right _ hm)).1
  have nd := k.nd
  rw [List.nodup_append] at nd
  obtain ⟨n1, n2, n3⟩ := nd
  obtain ⟨own', g1, g2, g3⟩ := (h2.mono (upd_sub (o := o) gp) (fun _ _ => rfl) (H' := H)).fzAt n2 e ev (f _ (upd_sub gp) upd_same)
  refine ⟨upd G a o, o1, own', k.freeze (List.mem_append_right _ hm) eo ho (fun q hq => ?_) ?_, h1.mono (upd_sub gp) fun _ _ => rfl, g1⟩
  · rcases List.mem_append.mp hq with hq | hq
    · exact ⟨List.mem_append_left _ hq, fun z => n3 q hq a hm z⟩
    · exact ⟨List.mem_append_right _ (g2 q hq).1, (g2 q hq).2⟩
  · rw [List.nodup_append]
    exact ⟨n1, g3, fun x hx y hy => n3 x hx y (g2 y hy).1⟩
theorem Rep.var {i : Nat} {x : D} (e : ρ[i]? = some (some (.d x))) (r : Rep c B ts vs ρ σ H) : ∃ v, σ[i]? = some (some v) ∧ Rep c B (some (.d x) :: ts) (some v :: vs) ρ σ H := by
  obtain ⟨G, o1, o2, k, h1, h2⟩ := r
  obtain ⟨v, e1, hr⟩ := h2.getD e
  exact ⟨v, e1, G, o1, o2, k, .d hr h1, h2⟩
theorem Rep.varO {i : Nat} {b : Option Nat} {x : D} (e : ρ[i]? = some (some (.o b x))) (r : Rep c B ts vs ρ σ H) : ∃ a, σ[i]? = some (some (.ref a)) ∧ ∃ G, (∀ a o, G a = some o → H a = some o) ∧ Cell c G H a x := by
  obtain ⟨G, o1, o2, k, h1, h2⟩ := r
  obtain ⟨a, e1, hr, _⟩ := h2.getO e
  exact ⟨a, e1, G, k.sub, hr⟩
/-- a value is stored -/
theorem Rep.set {i : Nat} {s : S} {v : V} (r : Rep c B (some s :: ts) (some v :: vs) ρ σ H) : Rep c B ts vs (ρ.set i (some s)) (σ.set i (some v)) H := by
  obtain ⟨G, o1, o2, k, h1, h2⟩ := r
  obtain ⟨w, os, o1', ew, e1, rfl, h1'⟩ := h1.unone
  cases ew
  obtain ⟨own', g1, g2, g3⟩ := h2.set i e1
  have nd := k.nd
  rw [List.append_assoc, List.nodup_append, List.nodup_append] at nd
  obtain ⟨n1, ⟨n2, n4, n5⟩, n3⟩ := nd
  refine ⟨G, o1', own', k.subO (fun p hp => ?_) ?_, h1', g1⟩
  · rcases List.mem_append.mp hp with hp | hp
    · exact List.mem_append_left _ (List.mem_append_right _ hp)
    · rcases g2 p hp with q | q
      · exact List.mem_append_left _ (List.mem_append_left _ q)
      · exact List.mem_append_right _ q
  · rw [List.nodup_append]
    refine ⟨n2, g3 ?_, fun x hx y hy z => ?_⟩
    · rw [List.nodup_append]
      exact ⟨n1, n4, fun x hx y hy => n3 x hx y (List.mem_append_right _ hy)⟩
    · rcases g2 y hy with hq | hq
      · exact n3 y hq x (List.mem_append_left _ hx) z.symm
      · exact n5 x hx y hq z
theorem Rep.forget {i : Nat} (w : Option V) (r : Rep c B ts vs ρ σ H) : Rep c B ts vs (ρ.set i none) (σ.set i w) H := by
  obtain ⟨G, o1, o2, k, h1, h2⟩ := r
  obtain ⟨own', g1, g2, g3⟩ := h2.forget i w
  have nd := k.nd
  rw [List.nodup_append] at nd
  refine ⟨G, o1, own', k.subO (fun p hp => (List.mem_append.mp hp).elim (List.mem_append_left _) fun h => List.mem_append_right _ (g2 p h)) ?_, h1, g1⟩
  rw [List.nodup_append]
  exact ⟨nd.1, g3 nd.2.1, fun x hx y hy => nd.2.2 x hx y (g2 y hy)⟩
/-- a name's cell is written -/
theorem Sl.write : ∀ {es : En} {vs : List (Option V)} {own : Owns} {i : Nat} {b : Option Nat} {x y : D} {a : Addr}, own.Nodup → Sl c B G H es vs own → es[i]? = some (some (.o b x)) → vs[i]? = some (some (.ref a)) → (∀ q, q ≠ a → H' q = H q) → Cell c G H' a y →
    Sl c B G H' (es.set i (some (.o b y))) vs own := by
  intro es
  induction es with
  | nil => intro vs own i b x y a _ _ e; simp at e
  | cons s es ih =>
    intro vs own i b x y a nd h e ev hh hc
    cases h with
    | skip k =>
      cases i with
      | zero => simp at e
      | succ i => exact .skip (ih nd k (by simpa using e) (by simpa using ev) hh hc)
    | d hr k =>
      cases i with
      | zero => simp at e
      | succ i => exact .d hr (ih nd k (by simpa using e) (by simpa using ev) hh hc)
    | @o a' b' x' _ _ own ho hb k =>
      rw [List.nodup_cons] at nd
      cases i with
      | zero =>
        simp at e ev
        obtain ⟨rfl, rfl⟩ := e
        subst ev
        exact .o hc hb (k.mono (fun _ _ e => e) fun q hq => hh _ fun z => nd.1 (z ▸ hq))
      | succ i =>
        have e' : es[i]? = some (some (.o b x)) := by simpa using e
        obtain ⟨a2, e2, _, m2, _⟩ := k.getO e'
        have ea : a2 = a := by
          have : _ = some (some (V.ref a)) := (by simpa using ev)
          rw [this] at e2
          cases e2
          rfl
        subst ea
        have na : a' ≠ a2 := fun z => nd.1 (z ▸ m2)
        exact .o (ho.mono (fun _ _ e => e) (hh _ na)) hb (ih nd.2 k e' (by simpa using ev) hh hc)
    | @q a' ks' dss' _ _ qs own ho k =>
      cases i with
      | zero => simp at e
      | succ i =>
        have e' : es[i]? = some (some (.o b x)) := by simpa using e
        obtain ⟨a2, e2, _, m2, _⟩ := k.getO e'
        have n2 := (List.nodup_append.mp nd)
        have ea : a2 = a := by
          have : _ = some (some (V.ref a)) := (by simpa using ev)
          rw [this] at e2
          cases e2
          rfl
        subst ea
        exact .q (ho.mono (fun _ _ e => e) fun p hp => hh _ fun z => n2.2.2 p hp a2 m2 z) (ih n2.2.1 k e' (by simpa using ev) hh hc)
theorem Rep.write {ds : List D} {us : List V} {i : Nat} {b : Option Nat} {x y : D} {a : Addr} {u o : HO} (e : ρ[i]? = some (some (.o b x))) (ev : σ[i]? = some (some (.ref a))) (hl : us.length = ds.length) (r : Rep c B (tmp ds ++ ts) (tmv us ++ vs) ρ σ H) (hu : H a = some u) (cu : isCell u)
    (hy : ∀ G H', H' a = some o → Cell c G H a x → RpAll c G us ds → Cell c G H' a y) : Rep c B ts vs (ρ.set i (some (.o b y))) σ (upd H a o) := by
  obtain ⟨G, o1, o2, k, h1, h2⟩ := r
  obtain ⟨a1, a2⟩ := h1.tmp hl
  obtain ⟨a', e1, hc, hm, _⟩ := h2.getO e
  rw [ev] at e1
  cases e1
  have nd := k.nd
  rw [List.nodup_append] at nd
  refine ⟨G, o1, o2, k.write (List.mem_append_right _ hm) hu cu, a2.mono (fun _ _ e => e) fun q hq => ?_, h2.write nd.2.1 e ev (fun q hq => upd_ne hq) (hy G _ upd_same hc a1)⟩
  exact upd_ne fun z => nd.2.2 q hq a hm z
end
/-! ### what a reading makes of a state -/
def Post {α : Type} (K : α → En → Prop) (E : Err → En → Prop) : Out α → Prop
  | .ok a ρ => K a ρ
  | .err e ρ => E e ρ
  | .stuck => False
theorem post_then {α β : Type} {K : β → En → Prop} {E : Err → En → Prop} {m : Out α} {f : α → En → Out β} : Post K E (m.then f) ↔ Post (fun a ρ => Post K E (f a ρ)) E m := by
  cases m <;> exact Iff.rfl
theorem Post.imp {α : Type} {K K' : α → En → Prop} {E E' : Err → En → Prop} {m : Out α} (h : Post K E m) (hk : ∀ a ρ, K a ρ → K' a ρ) (he : ∀ e ρ, E e ρ → E' e ρ) : Post K' E' m := by
  cases m with
  | ok a ρ => exact hk _ _ h
  | err e ρ => exact he _ _ h
  | stuck => exact h
theorem Post.imp1 {α : Type} {K K' : α → En → Prop} {E : Err → En → Prop} {m : Out α} (h : Post K E m) (hk : ∀ a ρ, K a ρ → K' a ρ) : Post K' E m := h.imp hk fun _ _ h => h
section
variable (c : Cfg) (W : WX)
/-- what is wanted of an exception -/
def ErrP (B : Base) (ts : En) (vs : List (Option V)) (σ : L2.St) (e : Err) (ρ : En) : Prop := ∀ k d H', c.err e k d H' → Rep c B ts vs ρ σ H' → W k d σ H'
def OkP (B : Base) (ts : En) (vs : List (Option V)) (σ : L2.St) (Q : VK) (s : S) (ρ : En) : Prop := ∀ v H', Rep c B (some s :: ts) (some v :: vs) ρ σ H' → Q v H'
def OkT (B : Base) (ts : En) (vs : List (Option V)) (σ : L2.St) (Q : Bool → Hp → Prop) (b : Bool) (ρ : En) : Prop := ∀ H', Rep c B ts vs ρ σ H' → Q b H'
def OkA (B : Base) (ts : En) (vs : List (Option V)) (σ : L2.St) (Q : List V → Hp → Prop) (ds : List D) (ρ : En) : Prop := ∀ us H', us.length = ds.length → Rep c B (tmp ds ++ ts) (tmv us ++ vs) ρ σ H' → Q us H'
def Den (te : TE) (f : M S) : Prop := ∀ B ts vs ρ σ H Q, Rep c B ts vs ρ σ H → Post (OkP c B ts vs σ Q) (ErrP c W B ts vs σ) (f ρ) → te σ H Q
def DenT (tt : TT) (f : M Bool) : Prop := ∀ B ts vs ρ σ H Q, Rep c B ts vs ρ σ H → Post (OkT c B ts vs σ Q) (ErrP c W B ts vs σ) (f ρ) → tt σ H Q
def DenA (ta : TA) (f : M (List D)) : Prop := ∀ B ts vs ρ σ H Q, Rep c B ts vs ρ σ H → Post (OkA c B ts vs σ Q) (ErrP c W B ts vs σ) (f ρ) → ta σ H Q
end
/-- a value that stays -/
def toD : S → Option D
  | .d x => some x
  | .o none x => if canFz x then some x else none
  | .o (some _) _ => none
  | .q _ _ => none
def dv (f : M S) : M D := fun ρ => (f ρ).then fun s ρ' => match toD s with
  | some x => .ok x ρ'
  | none => .stuck
section
variable {c : Cfg} {W : WX} {B : Base} {H : Hp} {ts : En} {vs : List (Option V)} {ρ : En} {σ : L2.St}
theorem ErrP.drop {s : Option S} {v : Option V} {e : Err} {ρ : En} (h : ErrP c W B ts vs σ e ρ) : ErrP c W B (s :: ts) (v :: vs) σ e ρ := fun k d H' he r => h k d H' he r.drop
theorem Rep.toD {s : S} {x : D} {v : V} (h : toD s = some x) (r : Rep c B (some s :: ts) (some v :: vs) ρ σ H) : Rep c B (some (.d x) :: ts) (some v :: vs) ρ σ H := by
  cases s with
  | d y => cases h; exact r
  | o b y =>
    cases b with
    | some _ => cases h
    | none =>
      have h : (if canFz y then some y else none) = some x := h
      split at h
      · rename_i hy
        cases h
        exact r.fz hy
      · cases h
  | q _ _ => cases h
theorem Den.dv {te : TE} {f : M S} {Q : VK} (h : Den c W te f) (r : Rep c B ts vs ρ σ H) (q : Post (fun x ρ' => ∀ v H', Rep c B (some (.d x) :: ts) (some v :: vs) ρ' σ H' → Q v H') (ErrP c W B ts vs σ) (dv f ρ)) : te σ H Q := by
  refine h B ts vs ρ σ H Q r ?_
  unfold Fx.dv at q
  rw [post_then] at q
  refine q.imp1 fun s ρ' p v H' r' => ?_
  split at p
  · rename_i x hx
    exact p v H' (r'.toD hx)
  · exact p.elim
end
def mVar (i : Nat) : M S := fun ρ => match ρ[i]? with
  | some (some (.d x)) => .ok (.d x) ρ
  | some (some (.o none x)) => if canFz x then .ok (.d x) (ρ.set i (some (.d x))) else .stuck
  | _ => .stuck
def mC (x : D) : M S := fun ρ => .ok (.d x) ρ
/-- a value of two, one, some -/
def mOp (g : D → D → Option S) (fa fb : M S) : M S := fun ρ => (dv fa ρ).then fun x ρ1 => (dv fb ρ1).then fun y ρ2 => match g x y with
  | some s => .ok s ρ2
  | none => .stuck
def mUn (g : D → Option S) (fa : M S) : M S := fun ρ => (dv fa ρ).then fun x ρ1 => match g x with
  | some s => .ok s ρ1
  | none => .stuck
def aNil : M (List D) := fun ρ => .ok [] ρ
def aCons (fa : M S) (fr : M (List D)) : M (List D) := fun ρ => (dv fa ρ).then fun x ρ1 => (fr ρ1).then fun ds ρ2 => .ok (x :: ds) ρ2
def mCB (g : List D → Option S) (fa : M (List D)) : M S := fun ρ => (fa ρ).then fun ds ρ1 => match g ds with
  | some s => .ok s ρ1
  | none => .stuck
/-- an operation on values does on data what g does -/
def OpDen (c : Cfg) (r : R2) (g : D → D → Option S) : Prop := ∀ (B : Base) (ts : En) (vs : List (Option V)) (ρ : En) (σ : L2.St) (H : Hp) (Q : VK) (x y : D) (v u : V) (s : S),
  Rep c B (some (.d y) :: some (.d x) :: ts) (some u :: some v :: vs) ρ σ H → g x y = some s → OkP c B ts vs σ Q s ρ → r v u H Q
def UnDen (c : Cfg) (r : V → Hp → VK → Prop) (g : D → Option S) : Prop := ∀ (B : Base) (ts : En) (vs : List (Option V)) (ρ : En) (σ : L2.St) (H : Hp) (Q : VK) (x : D) (v : V) (s : S),
  Rep c B (some (.d x) :: ts) (some v :: vs) ρ σ H → g x = some s → OkP c B ts vs σ Q s ρ → r v H Q
def CbDen (c : Cfg) (r : List V → Hp → VK → Prop) (g : List D → Option S) : Prop := ∀ (B : Base) (ts : En) (vs : List (Option V)) (ρ : En) (σ : L2.St) (H : Hp) (Q : VK) (ds : List D) (us : List V) (s : S),
  us.length = ds.length → Rep c B (tmp ds ++ ts) (tmv us ++ vs) ρ σ H → g ds = some s → OkP c B ts vs σ Q s ρ → r us H Q
section
variable {c : Cfg} {W : WX} {ta tb tc : TE} {fa fb fc : M S} {tt tu : TT} {ft fu : M Bool}
theorem den_var {i : Nat} : Den c W (tVar i) (mVar i) := by
  intro B ts vs ρ σ H Q r h
  unfold mVar at h
  split at h
  · rename_i x e
    obtain ⟨v, e1, r1⟩ := r.var e
    exact ⟨v, e1, h v H r1⟩
  · rename_i x e
    split at h
    · rename_i hx
      have r1 := r.fzAt hx e
      have hlt := (List.getElem?_eq_some_iff.mp e).1
      have e2 : (ρ.set i (some (.d x)))[i]? = some (some (.d x)) := by rw [List.getElem?_set_self hlt]
      obtain ⟨v, e1, r2⟩ := r1.var e2
      exact ⟨v, e1, h v H r2⟩
    · exact h.elim
  · exact h.elim
theorem den_c {v : V} {x : D} (hx : ∀ G, Rp c G v x) : Den c W (tC v) (mC x) := fun B ts vs ρ σ H Q r h => h v H (Rep.repl (ds := []) (us := []) r rfl fun G _ => hx G)
theorem den_op {r : R2} {g : D → D → Option S} (ho : OpDen c r g) (ha : Den c W ta fa) (hb : Den c W tb fb) : Den c W (tOp r ta tb) (mOp g fa fb) := by
  intro B ts vs ρ σ H Q rp h
  unfold mOp at h
  rw [post_then] at h
  refine ha.dv rp (h.imp1 fun x ρ1 h v H1 r1 => ?_)
  rw [post_then] at h
  refine hb.dv r1 (h.imp (fun y ρ2 h u H2 r2 => ?_) fun _ _ h => h.drop)
  split at h
  · rename_i s hs
    exact ho B ts vs ρ2 σ H2 Q x y v u s r2 hs h
  · exact h.elim
theorem den_un {r : V → Hp → VK → Prop} {g : D → Option S} (ho : UnDen c r g) (ha : Den c W ta fa) : Den c W (tUn r ta) (mUn g fa) := by
  intro B ts vs ρ σ H Q rp h
  unfold mUn at h
  rw [post_then] at h
  refine ha.dv rp (h.imp1 fun x ρ1 h v H1 r1 => ?_)
  split at h
  · rename_i s hs
    exact ho B ts vs ρ1 σ H1 Q x v s r1 hs h
  · exact h.elim
theorem den_nil : DenA c W tNil aNil := fun B ts vs ρ σ H Q r h => h [] H rfl r
theorem den_cons {tr : TA} {fr : M (List D)} (ha : Den c W ta fa) (hr : DenA c W tr fr) : DenA c W (tCons ta tr) (aCons fa fr) := by
  intro B ts vs ρ σ H Q rp h
  unfold aCons at h
  rw [post_then] at h
  refine ha.dv rp (h.imp1 fun x ρ1 h v H1 r1 => ?_)
  rw [post_then] at h
  refine hr B _ _ ρ1 σ H1 _ r1 (h.imp (fun ds ρ2 h us H2 hl r2 => ?_) fun _ _ h => h.drop)
  refine h (v :: us) H2 (by simp [hl]) ?_
  unfold tmp tmv
  rw [List.reverse_cons, List.map_append, List.reverse_cons, List.map_append, List.append_assoc, List.append_assoc]
  exact r2
theorem den_cb {r : List V → Hp → VK → Prop} {g : List D → Option S} {tA : TA} {fA : M (List D)} (ho : CbDen c r g) (ha : DenA c W tA fA) : Den c W (tCB r tA) (mCB g fA) := by
  intro B ts vs ρ σ H Q rp h
  unfold mCB at h
  rw [post_then] at h
  refine ha B ts vs ρ σ H _ rp (h.imp1 fun ds ρ1 h us H1 hl r1 => ?_)
  split at h
  · rename_i s hs
    exact ho B ts vs ρ1 σ H1 Q ds us s hl r1 hs h
  · exact h.elim
end
end Fx
/-! tuples that a def makes, with their objects: no attributes -/
namespace Fx
open PySem PySem.Spec PyProof.Rows L2
section
variable {X : Cx} {es : List Expr} {pos : Pos} {t : TA}
/-- what a new tuple's place holds -/
def NewT (H : Hp) (xs : List V) (Q : VK) : Prop := ∀ (p : Addr) (o : Obj), H p = none → o.dict = none → Q (.ref p) (upd H p (.frz o (.tup xs)))
theorem newT_laid {pins : List (Addr × Obj)} {σ : L2.St} {H : Hp} {s : Shared} {xs : List V} {us : List Value} {Q : VK} (I : Inv X pins σ H s) (z : xs.length ≤ sizeLine) (r : Vals xs us) (q : NewT H xs Q) :
    EP X pins σ Q (.ref s.heap.objs.size) { s with heap := s.heap.push { cls := .type "tuple", data := .seq us.toArray } } := by
  have free : H s.heap.objs.size = none := I.hok.fresh (Nat.le_refl _)
  have isT : IsTup (s.heap.push { cls := .type "tuple", data := .seq us.toArray }) s.heap.objs.size us.toArray := IsTup.new _ _
  have got : (s.heap.push { cls := .type "tuple", data := .seq us.toArray }).get? s.heap.objs.size = some { cls := .type "tuple", data := .seq us.toArray } := Heap.get?_push_size _ rfl
  refine ⟨.ref s.heap.objs.size, _, I.laid (t' := s.toks) (o := .frz { cls := .type "tuple", data := .seq us.toArray } (.tup xs)) (fun _ _ e => Heap.get?_push_of_some _ e) (Nat.le_refl _) ⟨got, z, us, r, isT⟩, rfl, q _ _ free rfl⟩
def tTupN (t : TA) : TE := fun σ H Q => t σ H fun xs H1 => xs.length ≤ sizeLine ∧ NewT H1 xs Q
theorem pe_tupN {kk} (h : PA X es t) : PE X (.Tuple es kk pos) (tTupN t) :=
  ⟨fun pins s σ H Q I hq => wpAny_Tuple_spliced (thn (h.run pos pins s σ H _ I hq) fun us s1 ⟨xs, H1, I1, r, z, q⟩ => ⟨r.length ▸ z, newT_laid I1 z r q⟩)⟩
/-- tuple(x) -/
def rTupN (K : PySem.W.Frag) : List V → Hp → VK → Prop := fun xs H Q => ∃ p ys, xs = [.ref p] ∧ ((SqL K H p ys ∧ NewT H ys Q) ∨ (SqT K H p ys ∧ Q (.ref p) H))
theorem call_tupN : CallR X (.type "tuple") (rTupN X.K) := by
  rintro pins s σ H xs us Q I r ⟨p, ys, rfl, hh⟩
  obtain ⟨u, rfl, rx⟩ := vals1 r
  cases rx
  cases hh with
  | inl hh =>
    obtain ⟨its, r', pl, hz⟩ := I.list hh.1
    refine call_tuple_list pl.isList (fun h' kp => newT_laid (I.kept (t' := s.toks) kp) hz r' hh.2) ?_
    have := r'.length
    simp only [List.size_toArray]
    omega
  | inr hh =>
    obtain ⟨its, r', pl, _⟩ := I.tuple hh.1
    exact call_tuple_same pl ⟨.ref p, H, I, rfl, hh.2⟩
/-- t + u -/
def rCatN (K : PySem.W.Frag) : R2 := fun x y H Q => ∃ a b xs ys, x = .ref a ∧ y = .ref b ∧ SqT K H a xs ∧ SqT K H b ys ∧ xs.length + ys.length ≤ sizeLine ∧
  (xs = [] → Q (.ref b) H) ∧ (xs ≠ [] → ys = [] → Q (.ref a) H) ∧ (xs ≠ [] → ys ≠ [] → NewT H (xs ++ ys) Q)
theorem op_catN : OpR X (binaryOp .Add) (rCatN X.K) := by
  rintro pins s σ H x y v u Q I rx ry ⟨a, b, xs, ys, rfl, rfl, ha, hb, hz, q0, q1, q2⟩
  cases rx
  cases ry
  obtain ⟨us, r1, p1, _⟩ := I.tuple ha
  obtain ⟨ws, r2, p2, _⟩ := I.tuple hb
  by_cases hx : xs = []
  · subst hx
    cases r1
    exact cat_tup0 p1 p2 ⟨.ref b, H, I, rfl, q0 rfl⟩
  · refine HT.cat_tup p1 p2 (fun z => hx (r1.nil_iff.mp z)) (fun z => ⟨.ref a, H, I, rfl, q1 hx (r2.nil_iff.mp z)⟩) (fun z => ?_) (by rw [← r1.length, ← r2.length]; exact hz)
    exact newT_laid I (by rw [List.length_append]; exact hz) (r1.append r2) (q2 hx fun w => z (r2.nil_iff.mpr w))
/-- t[lo:hi] -/
def rSlN (K : PySem.W.Frag) : V → Option Int → Option Int → Hp → VK → Prop := fun x lo hi H Q => ∃ a xs, x = .ref a ∧ SqT K H a xs ∧
  (HT.sIx xs.length 0 lo = 0 ∧ HT.sIx xs.length xs.length hi = xs.length → Q (.ref a) H) ∧ (¬ (HT.sIx xs.length 0 lo = 0 ∧ HT.sIx xs.length xs.length hi = xs.length) → NewT H (cutV xs lo hi) Q)
theorem sl_tupN : SlR X (rSlN X.K) := by
  rintro pins s σ H x v vl vu lo hi sl Q I rx hs pl pu ⟨a, xs, rfl, hx, q1, q2⟩
  cases rx
  obtain ⟨us, r, ht, hz⟩ := I.tuple hx
  have n : us.toArray.size = xs.length := by rw [List.size_toArray, r.length]
  refine ⟨"tuple", _, PyProof.Rows.slot_tuple_getitem.lookup, ht.typeIs, ?_⟩
  by_cases hw : HT.sIx xs.length 0 lo = 0 ∧ HT.sIx xs.length xs.length hi = xs.length
  · exact getItem_tuple_whole ht hs pl pu (n.symm ▸ hw) ⟨.ref a, H, I, rfl, q1 hw⟩
  · refine HT.getItem_tuple_cut ht hs pl pu (n.symm ▸ hw) ?_ (n.symm ▸ hz)
    rw [n]
    exact newT_laid I (Nat.le_trans (cutV_length xs lo hi) hz) ((r.drop (HT.sIx xs.length 0 lo)).take (HT.sIx xs.length xs.length hi - HT.sIx xs.length 0 lo)) (q2 hw)
end
end Fx
/-! operations on data -/
namespace Fx
open PySem PySem.Spec PyProof.Rows L2
/-! ### data as the library has them -/
mutual
/-- plain, at most n deep -/
def pl : Nat → D → Bool
  | _, .non => true
  | _, .bl _ => true
  | _, .int _ => true
  | _, .str _ => true
  | n + 1, .tup ds => plA n ds
  | n + 1, .lst ds => plA n ds
  | _, _ => false
def plA : Nat → List D → Bool
  | _, [] => true
  | n, d :: ds => pl n d && plA n ds
end
mutual
def toP : D → PyData
  | .non => .none
  | .bl b => .bool b
  | .int i => .int i
  | .str s => .str s
  | .tup ds => .tuple (toPs ds)
  | .lst ds => .list (toPs ds)
  | _ => .none
def toPs : List D → List PyData
  | [] => []
  | d :: ds => toP d :: toPs ds
end
theorem toPs_map : ∀ ds : List D, toPs ds = ds.map toP
  | [] => by simp [toPs]
  | d :: ds => by simp [toPs, toPs_map ds]
mutual
theorem pl_plain : ∀ {n : Nat} {d : D}, pl n d = true → (toP d).plain = true ∧ (toP d).depth ≤ n
  | n, .non, h => by simp [toP, PyData.plain, PyData.depth]
  | n, .bl b, h => by simp [toP, PyData.plain, PyData.depth]
  | n, .int i, h => by simp [toP, PyData.plain, PyData.depth]
  | n, .str s, h => by simp [toP, PyData.plain, PyData.depth]
  | n + 1, .tup ds, h => by
    have h := plA_plain (n := n) (ds := ds) (by simpa [pl] using h)
    simp only [toP, PyData.plain, PyData.depth]
    exact ⟨h.1, by omega⟩
  | n + 1, .lst ds, h => by
    have h := plA_plain (n := n) (ds := ds) (by simpa [pl] using h)
    simp only [toP, PyData.plain, PyData.depth]
    exact ⟨h.1, by omega⟩
  | 0, .tup ds, h => by simp [pl] at h
  | 0, .lst ds, h => by simp [pl] at h
  | n, .ty _, h => by simp [pl] at h
  | n, .ins _ _, h => by simp [pl] at h
  | n, .dct _ _, h => by simp [pl] at h
  | n, .dcq _ _, h => by simp [pl] at h
  | n, .xo _ _, h => by simp [pl] at h
  | n, .exc, h => by simp [pl] at h
  | n, .rng _ _, h => by simp [pl] at h
  | n, .scr _, h => by simp [pl] at h
theorem plA_plain : ∀ {n : Nat} {ds : List D}, plA n ds = true → PyData.plainAll (toPs ds) = true ∧ PyData.depthAll (toPs ds) ≤ n
  | _, [], _ => by simp [toPs, PyData.plainAll, PyData.depthAll]
  | n, d :: ds, h => by
    simp only [plA, Bool.and_eq_true] at h
    have h1 := pl_plain h.1
    have h2 := plA_plain h.2
    simp only [toPs, PyData.plainAll, PyData.depthAll, Bool.and_eq_true]
    exact ⟨⟨h1.1, h2.1⟩, by omega⟩
end
theorem plA_all {n : Nat} : ∀ {ds : List D}, plA n ds = ds.all (pl n)
  | [] => by simp [plA]
  | d :: ds => by simp [plA, plA_all (ds := ds)]
mutual
theorem Rp.dp {c : Cfg} {G H : Hp} (s : ∀ a o, G a = some o → H a = some o) : ∀ {n : Nat} {v : V} {d : D}, pl n d = true → Rp c G v d → Dp c.K H v (toP d)
  | _, _, _, _, .non => by simp only [toP]; exact .non
  | _, _, _, _, .bl b => by simp only [toP]; exact .bl b
  | _, _, _, _, .int i => by simp only [toP]; exact .int i
  | _, _, _, _, .str x => by simp only [toP]; exact .str x
  | n + 1, _, _, h, .tup t k _ => by
    simp only [toP]
    refine .tup ?_ (RpAll.dp s (n := n) (by simpa [pl] using h) k)
    rcases t with (t | ⟨o, t⟩) | t
    · exact .inl (.inl (s _ _ t))
    · exact .inl (.inr ⟨o, s _ _ t⟩)
    · exact .inr t
  | n + 1, _, _, h, .lst t k => by
    simp only [toP]
    exact .lst (SqL.of (s _ _ t)) (RpAll.dp s (n := n) (by simpa [pl] using h) k)
  | 0, _, _, h, .tup _ _ _ => by simp [pl] at h
  | 0, _, _, h, .lst _ _ => by simp [pl] at h
  | _, _, _, h, .ty _ => by simp [pl] at h
  | _, _, _, h, .ins _ _ _ => by simp [pl] at h
  | _, _, _, h, .dct _ _ => by simp [pl] at h
  | _, _, _, h, .dcx _ _ _ _ => by simp [pl] at h
  | _, _, _, h, .xo _ => by simp [pl] at h
  | _, _, _, h, .exc _ _ => by simp [pl] at h
  | _, _, _, h, .rng _ => by simp [pl] at h
  | _, _, _, h, .scr _ => by simp [pl] at h
  | _, _, _, h, .fn _ _ => by simp [pl] at h
termination_by structural _ _ _ _ h => h
theorem RpAll.dp {c : Cfg} {G H : Hp} (s : ∀ a o, G a = some o → H a = some o) : ∀ {n : Nat} {vs : List V} {ds : List D}, plA n ds = true → RpAll c G vs ds → DpAll c.K H vs (toPs ds)
  | _, _, _, _, .nil => by simp only [toPs]; exact .nil
  | n, _, _, h, .cons t k => by
    simp only [plA, Bool.and_eq_true] at h
    simp only [toPs]
    exact .cons (Rp.dp s h.1 t) (RpAll.dp s h.2 k)
termination_by structural _ _ _ _ h => h
end
def eqD (x y : D) : Bool := PyData.eqv (toP x) (toP y)
def ok1 (x : D) : Option S := some (.d x)
/-! ### rules that take more than one kind -/
section
variable {X : Cx} {f : Value → Value → Sem Value} {r r' : R2}
theorem OpR.or (h : OpR X f r) (h' : OpR X f r') : OpR X f (fun x y H Q => r x y H Q ∨ r' x y H Q) := by
  intro pins s σ H x y v u Q I rx ry q
  rcases q with q | q
  · exact h pins s σ H x y v u Q I rx ry q
  · exact h' pins s σ H x y v u Q I rx ry q
/-- one of two, by what g does -/
def gOr (g g' : D → D → Option S) : D → D → Option S := fun x y => match g x y with
  | some s => some s
  | none => g' x y
theorem OpDen.or {c : Cfg} {g g' : D → D → Option S} (h : OpDen c r g) (h' : OpDen c r' g') : OpDen c (fun x y H Q => r x y H Q ∨ r' x y H Q) (gOr g g') := fun B ts vs ρ σ H Q x y v u s r1 e q => by
  unfold gOr at e
  split at e
  · rename_i s1 e1
    cases e
    exact .inl (h B ts vs ρ σ H Q x y v u s r1 e1 q)
  · exact .inr (h' B ts vs ρ σ H Q x y v u s r1 e q)
end
section
variable {c : Cfg} {B : Base} {ts : En} {vs : List (Option V)} {ρ : En} {σ : L2.St} {H : Hp}
/-- what waits, opened -/
structure Opn (c : Cfg) (B : Base) (ts : En) (vs : List (Option V)) (ρ : En) (σ : L2.St) (H G : Hp) : Prop where
  sub : ∀ a o, G a = some o → H a = some o
  val : ∀ {v : V} {x : D}, Rp c G v x → Rep c B (some (.d x) :: ts) (some v :: vs) ρ σ H
  new : ∀ {p : Addr} {o : HO} {x : D}, H p = none → isTbl o = false → (∀ G', (∀ a u, G a = some u → G' a = some u) → G' p = some o → Rp c G' (.ref p) x) → Rep c B (some (.d x) :: ts) (some (.ref p) :: vs) ρ σ (upd H p o)
  newO : ∀ {p : Addr} {o : HO} {x : D}, H p = none → (∀ H', H' p = some o → Cell c G H' p x) → Rep c B (some (.o none x) :: ts) (some (.ref p) :: vs) ρ σ (upd H p o)
theorem Rep.opn {ds : List D} {us : List V} (hl : us.length = ds.length) (r : Rep c B (tmp ds ++ ts) (tmv us ++ vs) ρ σ H) : ∃ G, Opn c B ts vs ρ σ H G ∧ RpAll c G us ds := by
  obtain ⟨G, o1, o2, k, h1, h2⟩ := r
  obtain ⟨a1, a2⟩ := h1.tmp hl
  refine ⟨G, ⟨k.sub, fun hv => ⟨G, o1, o2, k, .d hv a2, h2⟩, fun {p o x} hp ho hx => ?_, fun {p o x} hp hx => ?_⟩, a1⟩
  · have gp := k.gnone hp
    have ow := own_new (o := o) k hp
    exact ⟨upd G p o, o1, o2, k.alloc hp ho, .d (hx _ (upd_sub gp) upd_same) (a2.mono (upd_sub gp) fun q hq => ow q (List.mem_append_left _ hq)), h2.mono (upd_sub gp) fun q hq => ow q (List.mem_append_right _ hq)⟩
  · have ow := own_new (o := o) k hp
    exact ⟨G, p :: o1, o2, k.allocO hp, .o (hx _ upd_same) (fun _ e => nomatch e) (a2.mono (fun _ _ e => e) fun q hq => ow q (List.mem_append_left _ hq)), h2.mono (fun _ _ e => e) fun q hq => ow q (List.mem_append_right _ hq)⟩
theorem Rep.two {x y : D} {v u : V} (r : Rep c B (some (.d y) :: some (.d x) :: ts) (some u :: some v :: vs) ρ σ H) : ∃ G, Opn c B ts vs ρ σ H G ∧ Rp c G v x ∧ Rp c G u y := by
  obtain ⟨G, s, h⟩ := Rep.opn (ds := [x, y]) (us := [v, u]) rfl r
  cases h with
  | cons h1 h2 =>
    cases h2 with
    | cons h2 h3 => exact ⟨G, s, h1, h2⟩
theorem Rep.one {x : D} {v : V} (r : Rep c B (some (.d x) :: ts) (some v :: vs) ρ σ H) : ∃ G, Opn c B ts vs ρ σ H G ∧ Rp c G v x := by
  obtain ⟨G, s, h⟩ := Rep.opn (ds := [x]) (us := [v]) rfl r
  cases h with
  | cons h1 h2 => exact ⟨G, s, h1⟩
theorem SqT.up {K : PySem.W.Frag} {G H : Hp} {a : Addr} {xs : List V} (s : ∀ a o, G a = some o → H a = some o) (h : SqT K G a xs) : SqT K H a xs := by
  rcases h with (h | ⟨o, h⟩) | h
  · exact .inl (.inl (s _ _ h))
  · exact .inl (.inr ⟨o, s _ _ h⟩)
  · exact .inr h
end
theorem Rp.tupE {c : Cfg} {G : Hp} {v : V} {ds : List D} (h : Rp c G v (.tup ds)) : ∃ a xs, v = .ref a ∧ SqT c.K G a xs ∧ RpAll c G xs ds := by cases h with | tup h k n => exact ⟨_, _, rfl, h, k⟩
theorem Rp.tupN {c : Cfg} {G : Hp} {v : V} {ds : List D} (h : Rp c G v (.tup ds)) : ∃ a xs, v = .ref a ∧ SqT c.K G a xs ∧ RpAll c G xs ds ∧ (arcy ds = true → SqN G a xs) := by cases h with | tup h k n => exact ⟨_, _, rfl, h, k, n⟩
theorem Rp.lstE {c : Cfg} {G : Hp} {v : V} {ds : List D} (h : Rp c G v (.lst ds)) : ∃ a xs, v = .ref a ∧ G a = some (.lst xs) ∧ RpAll c G xs ds := by cases h with | lst h k => exact ⟨_, _, rfl, h, k⟩
theorem Rp.scrE {c : Cfg} {G : Hp} {v : V} {ns : List Int} (h : Rp c G v (.scr ns)) : ∃ a, v = .ref a ∧ SqL c.K G a (ns.map V.int) := by cases h with | scr h => exact ⟨_, rfl, h⟩
/-! ### + - * % // ** -/
def gII (f : Int → Int → Int) : D → D → Option S
  | .int i, .int j => ok1 (.int (f i j))
  | _, _ => none
def gIIc (C : Int → Int → Bool) (f : Int → Int → Int) : D → D → Option S
  | .int i, .int j => if C i j then ok1 (.int (f i j)) else none
  | _, _ => none
theorem od_II {c : Cfg} {f : Int → Int → Int} : OpDen c (rI0 fun i j => .int (f i j)) (gII f) := by
  intro B ts vs ρ σ H Q x y v u s r e q
  obtain ⟨G, O, h1, h2⟩ := r.two
  cases x <;> cases y <;> first | cases e | skip
  cases h1
  cases h2
  exact ⟨_, _, rfl, rfl, q _ _ (O.val (.int _))⟩
theorem od_IIc {c : Cfg} {C : Int → Int → Prop} {Cb : Int → Int → Bool} {f : Int → Int → Int} (hC : ∀ i j, Cb i j = true → C i j) : OpDen c (rI C fun i j => .int (f i j)) (gIIc Cb f) := by
  intro B ts vs ρ σ H Q x y v u s r e q
  obtain ⟨G, O, h1, h2⟩ := r.two
  cases x <;> cases y <;> first | cases e | skip
  rename_i i j
  have e : (if Cb i j then ok1 (.int (f i j)) else none) = some s := e
  split at e
  · rename_i hc
    cases e
    cases h1
    cases h2
    exact ⟨_, _, rfl, rfl, hC _ _ hc, q _ _ (O.val (.int _))⟩
  · cases e
def small (n : Nat) : Bool := decide (n ≤ 16777216)
theorem small_line {n : Nat} (h : small n = true) : n ≤ sizeLine := by
  rw [sizeLine_eq]
  exact of_decide_eq_true h
def gCatT : D → D → Option S
  | .tup xs, .tup ys => if small (xs.length + ys.length) then ok1 (.tup (xs ++ ys)) else none
  | _, _ => none
theorem od_catT {c : Cfg} : OpDen c (rCatN c.K) gCatT := by
  intro B ts vs ρ σ H Q x y v u s r e q
  obtain ⟨G, O, h1, h2⟩ := r.two
  cases x <;> cases y <;> first | cases e | skip
  rename_i xs ys
  have e : (if small (xs.length + ys.length) then ok1 (.tup (xs ++ ys)) else none) = some s := e
  split at e
  · rename_i hz
    cases e
    obtain ⟨a, us, rfl, ha, ka, na⟩ := h1.tupN
    obtain ⟨b, ws, rfl, hb, kb, nb⟩ := h2.tupN
    refine ⟨a, b, us, ws, rfl, rfl, SqT.up O.sub ha, SqT.up O.sub hb, by rw [ka.length, kb.length]; exact small_line hz, ?_⟩
    refine ⟨fun hx => ?_, fun hx hy => ?_, fun hx hy p o hp ho => ?_⟩
    · subst hx
      cases ka
      exact q _ _ (O.val (.tup hb kb nb))
    · subst hy
      cases kb
      rw [List.append_nil] at q
      exact q _ _ (O.val (.tup ha ka na))
    · exact q _ _ (O.new hp rfl fun G' m e => .tup (.inl (.inr ⟨o, e⟩)) ((ka.app kb).mono m) fun _ => ⟨o, e, ho⟩)
  · cases e
def gCatL : D → D → Option S
  | .lst xs, .lst ys => if small (xs.length + ys.length) then some (.o none (.lst (xs ++ ys))) else none
  | _, _ => none
theorem od_catL {c : Cfg} : OpDen c rCat gCatL := by
  intro B ts vs ρ σ H Q x y v u s r e q
  obtain ⟨G, O, h1, h2⟩ := r.two
  cases x <;> cases y <;> first | cases e | skip
  rename_i xs ys
  have e : (if small (xs.length + ys.length) then some (S.o none (.lst (xs ++ ys))) else none) = some s := e
  split at e
  · rename_i hz
    cases e
    obtain ⟨a, us, rfl, ha, ka⟩ := h1.lstE
    obtain ⟨b, ws, rfl, hb, kb⟩ := h2.lstE
    exact ⟨a, b, us, ws, rfl, rfl, O.sub _ _ ha, O.sub _ _ hb, by rw [ka.length, kb.length]; exact small_line hz, fun p hp => q _ _ (O.newO hp fun H' e => ⟨_, e, ka.app kb⟩)⟩
  · cases e
def gCatS : D → D → Option S
  | .str x, .str y => if small (x.length + y.length) then ok1 (.str (x ++ y)) else none
  | _, _ => none
theorem od_catS {c : Cfg} : OpDen c (fun x y H Q => ∃ i j, x = .str i ∧ y = .str j ∧ i.length + j.length ≤ sizeLine ∧ Q (.str (i ++ j)) H) gCatS := by
  intro B ts vs ρ σ H Q x y v u s r e q
  obtain ⟨G, O, h1, h2⟩ := r.two
  cases x <;> cases y <;> first | cases e | skip
  rename_i xs ys
  have e : (if small (xs.length + ys.length) then ok1 (.str (xs ++ ys)) else none) = some s := e
  split at e
  · rename_i hz
    cases e
    cases h1
    cases h2
    exact ⟨_, _, rfl, rfl, small_line hz, q _ _ (O.val (.str _))⟩
  · cases e
def rAddG (K : PySem.W.Frag) : R2 := fun x y H Q => rI0 (fun i j => .int (i + j)) x y H Q ∨ rCatN K x y H Q ∨ rCat x y H Q ∨ (∃ i j, x = .str i ∧ y = .str j ∧ i.length + j.length ≤ sizeLine ∧ Q (.str (i ++ j)) H)
theorem op_addG {X : Cx} : OpR X (binaryOp .Add) (rAddG X.K) := OpR.or op_add (OpR.or op_catN (OpR.or op_cat op_add_str))
def gAdd : D → D → Option S
  | .int i, .int j => ok1 (.int (i + j))
  | .tup xs, .tup ys => if small (xs.length + ys.length) then ok1 (.tup (xs ++ ys)) else none
  | .lst xs, .lst ys => if small (xs.length + ys.length) then some (.o none (.lst (xs ++ ys))) else none
  | .str x, .str y => if small (x.length + y.length) then ok1 (.str (x ++ y)) else none
  | _, _ => none
theorem od_add {c : Cfg} : OpDen c (rAddG c.K) gAdd := by
  intro B ts vs ρ σ H Q x y v u s r e q
  cases x <;> cases y <;> first | cases e | skip
  · exact .inl (od_II (f := (· + ·)) B ts vs ρ σ H Q _ _ v u _ r rfl q)
  · exact .inr (.inr (.inr (od_catS B ts vs ρ σ H Q _ _ v u s r e q)))
  · exact .inr (.inl (od_catT B ts vs ρ σ H Q _ _ v u s r e q))
  · exact .inr (.inr (.inl (od_catL B ts vs ρ σ H Q _ _ v u s r e q)))
end Fx
/-! more operations on data -/
namespace Fx
open PySem PySem.Spec PyProof.Rows L2
/-! ### - * % // ** -/
def gMinus : D → D → Option S := gII (· - ·)
theorem od_sub {c : Cfg} : OpDen c (rI0 fun i j => .int (i - j)) gMinus := od_II
def i64 (i : Int) : Bool := decide (-18446744073709551616 < i) && decide (i < 18446744073709551616)
theorem i64_iff {i : Int} : i64 i = true ↔ -(2 ^ 64) < i ∧ i < 2 ^ 64 := by
  unfold i64
  simp only [Bool.and_eq_true, decide_eq_true_eq]
  constructor <;> (intro h; constructor <;> omega)
def gMulI : D → D → Option S := gIIc (fun i j => i64 i || i64 j) (· * ·)
theorem od_mulI {c : Cfg} : OpDen c (rI CMul fun i j => .int (i * j)) gMulI := od_IIc fun i j h => by
  rw [Bool.or_eq_true, i64_iff, i64_iff] at h
  exact h
def gMod : D → D → Option S := gIIc (fun _ j => decide (0 < j)) (· % ·)
theorem od_mod {c : Cfg} : OpDen c (rI (fun _ j => 0 < j) fun i j => .int (i % j)) gMod := od_IIc fun i j h => of_decide_eq_true h
def gDiv : D → D → Option S := gIIc (fun _ j => decide (0 < j) && decide (j < 1073741824)) (· / ·)
theorem od_div {c : Cfg} : OpDen c (rI CDiv fun i j => .int (i / j)) gDiv := od_IIc fun i j h => by
  simp only [Bool.and_eq_true, decide_eq_true_eq] at h
  exact h
def gPow : D → D → Option S := gIIc (fun i j => decide (0 ≤ j) && decide (j ≤ 64) && decide (i.natAbs < 18446744073709551616)) (fun i j => i ^ j.toNat)
theorem od_pow {c : Cfg} : OpDen c (rI CPow fun i j => .int (i ^ j.toNat)) gPow := od_IIc fun i j h => by
  simp only [Bool.and_eq_true, decide_eq_true_eq] at h
  exact ⟨h.1.1, by omega, by have := h.2; omega⟩
def gNeg : D → Option S
  | .int i => ok1 (.int (-i))
  | _ => none
theorem ud_neg {c : Cfg} : UnDen c (rU fun i => .int (-i)) gNeg := by
  intro B ts vs ρ σ H Q x v s r e q
  obtain ⟨G, O, h1⟩ := r.one
  cases x <;> first | cases e | skip
  cases h1
  exact ⟨_, rfl, q _ _ (O.val (.int _))⟩
/-- list * int -/
def gRepL : D → D → Option S
  | .lst xs, .int k => if small (xs.length * k.toNat) && decide (k < 1073741824) && decide (-1073741824 < k) then some (.o none (.lst (List.replicate k.toNat xs).flatten)) else none
  | _, _ => none
theorem RpAll.rep {c : Cfg} {G : Hp} {us : List V} {xs : List D} (h : RpAll c G us xs) : ∀ n : Nat, RpAll c G (List.replicate n us).flatten (List.replicate n xs).flatten
  | 0 => .nil
  | n + 1 => by
    rw [List.replicate_succ, List.replicate_succ, List.flatten_cons, List.flatten_cons]
    exact h.app (RpAll.rep h n)
theorem od_repL {c : Cfg} : OpDen c rRep gRepL := by
  intro B ts vs ρ σ H Q x y v u s r e q
  obtain ⟨G, O, h1, h2⟩ := r.two
  cases x <;> cases y <;> first | cases e | skip
  rename_i xs k
  have e : (if small (xs.length * k.toNat) && decide (k < 1073741824) && decide (-1073741824 < k) then some (S.o none (.lst (List.replicate k.toNat xs).flatten)) else none) = some s := e
  split at e
  · rename_i hz
    simp only [Bool.and_eq_true, decide_eq_true_eq] at hz
    cases e
    cases h2
    obtain ⟨a, us, rfl, ha, ka⟩ := h1.lstE
    exact ⟨a, k, us, rfl, rfl, O.sub _ _ ha, by omega, by omega, by rw [ka.length]; exact small_line hz.1.1, fun p hp => q _ _ (O.newO hp fun H' e => ⟨_, e, ka.rep _⟩)⟩
  · cases e
def rMulG : R2 := fun x y H Q => rI CMul (fun i j => .int (i * j)) x y H Q ∨ rRep x y H Q
theorem op_mulG {X : Cx} : OpR X (binaryOp .Mult) rMulG := OpR.or op_mul op_rep
def gMul : D → D → Option S
  | .int i, .int j => if i64 i || i64 j then ok1 (.int (i * j)) else none
  | .lst xs, .int k => if small (xs.length * k.toNat) && decide (k < 1073741824) && decide (-1073741824 < k) then some (.o none (.lst (List.replicate k.toNat xs).flatten)) else none
  | _, _ => none
theorem od_mul {c : Cfg} : OpDen c rMulG gMul := by
  intro B ts vs ρ σ H Q x y v u s r e q
  cases x <;> cases y <;> first | cases e | skip
  · exact .inl (od_mulI B ts vs ρ σ H Q _ _ v u _ r e q)
  · exact .inr (od_repL B ts vs ρ σ H Q _ _ v u s r e q)
/-! ### comparisons -/
def pl60 (d : D) : Bool := pl 60 d
theorem pl60_shaped {d : D} (h : pl60 d = true) : (toP d).plain = true ∧ (toP d).depth ≤ 60 := pl_plain h
def rEqP (K : PySem.W.Frag) (neg : Bool) : R2 := fun x y H Q => ∃ d e, Dp K H x d ∧ Dp K H y e ∧ d.plain = true ∧ e.plain = true ∧ d.depth ≤ 64 ∧ Q (.bl (if neg then !PyData.eqv d e else PyData.eqv d e)) H
section
variable {X : Cx}
theorem op_eqP (hu : X.A.units + 66 < cLine) : OpR X (compareOp .Eq) (rEqP X.K false) := by
  intro pins s σ H x y v u Q I rx ry h
  obtain ⟨d, e, hd, he, sd, se, dp, q⟩ := h
  obtain ⟨as, r1⟩ := Dp.reads I d x v hd rx
  obtain ⟨bs, r2⟩ := Dp.reads I e y u he ry
  exact SeqAt.eq_plain r1 r2 sd se (by omega) ⟨.bl _, H, I, rfl, q⟩
theorem op_neP (hu : X.A.units + 66 < cLine) : OpR X (compareOp .NotEq) (rEqP X.K true) := by
  intro pins s σ H x y v u Q I rx ry h
  obtain ⟨d, e, hd, he, sd, se, dp, q⟩ := h
  obtain ⟨as, r1⟩ := Dp.reads I d x v hd rx
  obtain ⟨bs, r2⟩ := Dp.reads I e y u he ry
  exact SeqAt.ne_plain r1 r2 sd se (by omega) ⟨.bl _, H, I, rfl, q⟩
def rInP (K : PySem.W.Frag) (neg : Bool) : R2 := fun x y H Q => ∃ d ds, Dp K H x d ∧ (Dp K H y (.list ds) ∨ Dp K H y (.tuple ds)) ∧ d.plain = true ∧ PyData.plainAll ds = true ∧ d.depth ≤ 64 ∧ Q (.bl (if neg then !(ds.any fun z => PyData.eqv z d) else ds.any fun z => PyData.eqv z d)) H
theorem op_inP (hu : X.A.units + 66 < cLine) : OpR X (compareOp .In) (rInP X.K false) := by
  intro pins s σ H x y v u Q I rx ry h
  obtain ⟨d, ds, hd, he, sd, se, dp, q⟩ := h
  obtain ⟨as, r1⟩ := Dp.reads I d x v hd rx
  rcases he with he | he
  · obtain ⟨bs, r2⟩ := Dp.reads I _ y u he ry
    exact SeqAt.in_list_data r2 r1 se sd (by omega) ⟨.bl _, H, I, rfl, q⟩
  · obtain ⟨bs, r2⟩ := Dp.reads I _ y u he ry
    exact SeqAt.in_tuple_data r2 r1 se sd (by omega) ⟨.bl _, H, I, rfl, q⟩
theorem op_ninP (hu : X.A.units + 66 < cLine) : OpR X (compareOp .NotIn) (rInP X.K true) := by
  intro pins s σ H x y v u Q I rx ry h
  obtain ⟨d, ds, hd, he, sd, se, dp, q⟩ := h
  obtain ⟨as, r1⟩ := Dp.reads I d x v hd rx
  rcases he with he | he
  · obtain ⟨bs, r2⟩ := Dp.reads I _ y u he ry
    exact SeqAt.notIn_list_data r2 r1 se sd (by omega) ⟨.bl _, H, I, rfl, q⟩
  · obtain ⟨bs, r2⟩ := Dp.reads I _ y u he ry
    exact SeqAt.notIn_tuple_data r2 r1 se sd (by omega) ⟨.bl _, H, I, rfl, q⟩
end
def gEq (x y : D) : Option S := if pl60 x && pl60 y then ok1 (.bl (eqD x y)) else none
def gNe (x y : D) : Option S := if pl60 x && pl60 y then ok1 (.bl (!eqD x y)) else none
theorem od_eqN {c : Cfg} (neg : Bool) {g : D → D → Option S} (hg : ∀ x y s, g x y = some s → pl60 x = true ∧ pl60 y = true ∧ s = .d (.bl (if neg then !eqD x y else eqD x y))) : OpDen c (rEqP c.K neg) g := by
  intro B ts vs ρ σ H Q x y v u s r e q
  obtain ⟨G, O, h1, h2⟩ := r.two
  obtain ⟨p1, p2, rfl⟩ := hg x y s e
  exact ⟨toP x, toP y, h1.dp O.sub p1, h2.dp O.sub p2, (pl60_shaped p1).1, (pl60_shaped p2).1, Nat.le_trans (pl60_shaped p1).2 (by decide), q _ _ (O.val (.bl _))⟩
theorem od_eq {c : Cfg} : OpDen c (rEqP c.K false) gEq := od_eqN false fun x y s e => by
  unfold gEq at e
  split at e
  · rename_i h
    rw [Bool.and_eq_true] at h
    cases e
    exact ⟨h.1, h.2, rfl⟩
  · cases e
theorem od_ne {c : Cfg} : OpDen c (rEqP c.K true) gNe := od_eqN true fun x y s e => by
  unfold gNe at e
  split at e
  · rename_i h
    rw [Bool.and_eq_true] at h
    cases e
    exact ⟨h.1, h.2, rfl⟩
  · cases e
/-- the items of a list, a tuple -/
def itemsD : D → Option (List D)
  | .tup ds => some ds
  | .lst ds => some ds
  | _ => none
def inD (x : D) (ds : List D) : Bool := ds.any fun z => eqD z x
def gInN (neg : Bool) (x y : D) : Option S := match itemsD y with
  | some ds => if pl60 x && plA 60 ds then ok1 (.bl (if neg then !inD x ds else inD x ds)) else none
  | none => none
def gIn : D → D → Option S := gInN false
def gNotIn : D → D → Option S := gInN true
theorem od_in {c : Cfg} {neg : Bool} : OpDen c (rInP c.K neg) (gInN neg) := by
  intro B ts vs ρ σ H Q x y v u s r e q
  obtain ⟨G, O, h1, h2⟩ := r.two
  unfold gInN at e
  split at e
  · rename_i ds hi
    split at e
    · rename_i hp
      rw [Bool.and_eq_true] at hp
      cases e
      have e3 : (toPs ds).any (fun z => PyData.eqv z (toP x)) = inD x ds := by
        rw [toPs_map, List.any_map]
        rfl
      refine ⟨toP x, toPs ds, h1.dp O.sub hp.1, ?_, (pl60_shaped hp.1).1, (plA_plain hp.2).1, Nat.le_trans (pl60_shaped hp.1).2 (by decide), ?_⟩
      · cases y <;> first | cases hi | skip
        · have := h2.dp (n := 61) O.sub (by simpa [pl] using hp.2)
          simp only [toP] at this
          exact .inr this
        · have := h2.dp (n := 61) O.sub (by simpa [pl] using hp.2)
          simp only [toP] at this
          exact .inl this
      · rw [e3]
        exact q _ _ (O.val (.bl _))
    · cases e
  · cases e
def gBB (f : Int → Int → Bool) : D → D → Option S
  | .int i, .int j => ok1 (.bl (f i j))
  | _, _ => none
theorem od_BB {c : Cfg} {f : Int → Int → Bool} : OpDen c (rI0 fun i j => .bl (f i j)) (gBB f) := by
  intro B ts vs ρ σ H Q x y v u s r e q
  obtain ⟨G, O, h1, h2⟩ := r.two
  cases x <;> cases y <;> first | cases e | skip
  cases h1
  cases h2
  exact ⟨_, _, rfl, rfl, q _ _ (O.val (.bl _))⟩
def gLt : D → D → Option S := gBB fun i j => decide (i < j)
def gLe : D → D → Option S := gBB fun i j => decide (i ≤ j)
def gGt : D → D → Option S := gBB fun i j => decide (j < i)
def gGe : D → D → Option S := gBB fun i j => decide (j ≤ i)
def isN : D → Bool
  | .non => true
  | _ => false
def gIsN (x y : D) : Option S := if isN y then ok1 (.bl (isN x)) else none
def gNotN (x y : D) : Option S := if isN y then ok1 (.bl (!isN x)) else none
theorem Rp.isN {c : Cfg} {G : Hp} {v : V} {x : D} (h : Rp c G v x) : decide (v = .non) = isN x := by
  cases h <;> rfl
theorem od_isN {c : Cfg} : OpDen c (fun x y H Q => y = .non ∧ Q (.bl (decide (x = .non))) H) gIsN := by
  intro B ts vs ρ σ H Q x y v u s r e q
  obtain ⟨G, O, h1, h2⟩ := r.two
  unfold gIsN at e
  split at e
  · rename_i hy
    cases e
    have : u = .non := by
      rw [← h2.isN] at hy
      exact of_decide_eq_true hy
    exact ⟨this, by rw [h1.isN]; exact q _ _ (O.val (.bl _))⟩
  · cases e
theorem od_notN {c : Cfg} : OpDen c (fun x y H Q => y = .non ∧ Q (.bl (!decide (x = .non))) H) gNotN := by
  intro B ts vs ρ σ H Q x y v u s r e q
  obtain ⟨G, O, h1, h2⟩ := r.two
  unfold gNotN at e
  split at e
  · rename_i hy
    cases e
    have : u = .non := by
      rw [← h2.isN] at hy
      exact of_decide_eq_true hy
    exact ⟨this, by rw [h1.isN]; exact q _ _ (O.val (.bl _))⟩
  · cases e
/-! ### subscripts -/
def gIx : D → D → Option S
  | .tup xs, .int i => (atI xs i).bind ok1
  | .lst xs, .int i => (atI xs i).bind ok1
  | .scr ns, .int i => (atI ns i).bind fun n => ok1 (.int n)
  | .str z, .int i => if small z.length then (atI z.cps.toList i).bind fun k => ok1 (.str ⟨#[k]⟩) else none
  | _, _ => none
theorem RpAll.atI {c : Cfg} {G : Hp} {us : List V} {xs : List D} {i : Int} {d : D} (h : RpAll c G us xs) (e : atI xs i = some d) : ∃ v, atI us i = some v ∧ Rp c G v d := by
  unfold L2.atI at e ⊢
  rw [h.length]
  cases e1 : ixN xs.length i with
  | none => rw [e1] at e; cases e
  | some j =>
    rw [e1] at e
    exact h.get e
theorem atI_map {α β : Type} {f : α → β} {xs : List α} {i : Int} : atI (xs.map f) i = (atI xs i).map f := by
  unfold atI
  rw [List.length_map]
  cases ixN xs.length i with
  | none => rfl
  | some j => exact List.getElem?_map
theorem od_ix {c : Cfg} : OpDen c (rIx c.K) gIx := by
  intro B ts vs ρ σ H Q x y v u s r e q
  obtain ⟨G, O, h1, h2⟩ := r.two
  cases x <;> cases y <;> first | cases e | skip
  · rename_i z i
    have e : (if small z.length then (atI z.cps.toList i).bind fun k => ok1 (.str ⟨#[k]⟩) else none) = some s := e
    split at e
    · rename_i hz
      cases h1
      cases h2
      cases e1 : atI z.cps.toList i with
      | none => rw [e1] at e; cases e
      | some k =>
        rw [e1] at e
        cases e
        exact .inr (.inr ⟨z, i, k, rfl, rfl, small_line hz, e1, q _ _ (O.val (.str _))⟩)
    · cases e
  · rename_i xs i
    have e : (atI xs i).bind ok1 = some s := e
    cases e1 : atI xs i with
    | none => rw [e1] at e; cases e
    | some d =>
      rw [e1] at e
      cases e
      cases h2
      obtain ⟨a, us, rfl, ha, ka⟩ := h1.tupE
      obtain ⟨w, e2, hw⟩ := ka.atI e1
      exact .inr (.inl ⟨a, us, i, w, rfl, rfl, SqT.up O.sub ha, e2, q _ _ (O.val hw)⟩)
  · rename_i xs i
    have e : (atI xs i).bind ok1 = some s := e
    cases e1 : atI xs i with
    | none => rw [e1] at e; cases e
    | some d =>
      rw [e1] at e
      cases e
      cases h2
      obtain ⟨a, us, rfl, ha, ka⟩ := h1.lstE
      obtain ⟨w, e2, hw⟩ := ka.atI e1
      exact .inl ⟨a, us, i, w, rfl, rfl, SqL.of (O.sub _ _ ha), e2, q _ _ (O.val hw)⟩
  · rename_i ns i
    have e : (atI ns i).bind (fun n => ok1 (.int n)) = some s := e
    cases e1 : atI ns i with
    | none => rw [e1] at e; cases e
    | some n =>
      rw [e1] at e
      cases e
      cases h2
      obtain ⟨a, rfl, ha⟩ := h1.scrE
      exact .inl ⟨a, _, i, _, rfl, rfl, Same.seq O.sub ha, by rw [atI_map, e1]; rfl, q _ _ (O.val (.int _))⟩
/-! ### displays -/
def mTup (fa : M (List D)) : M S := fun ρ => (fa ρ).then fun ds ρ1 => if small ds.length then .ok (.d (.tup ds)) ρ1 else .stuck
def mLst (fa : M (List D)) : M S := fun ρ => (fa ρ).then fun ds ρ1 => if small ds.length then .ok (.o none (.lst ds)) ρ1 else .stuck
section
variable {c : Cfg} {W : WX} {tA : TA} {fA : M (List D)}
theorem den_tup (ha : DenA c W tA fA) : Den c W (tTupN tA) (mTup fA) := by
  intro B ts vs ρ σ H Q rp h
  unfold mTup at h
  rw [post_then] at h
  refine ha B ts vs ρ σ H _ rp (h.imp1 fun ds ρ1 h us H1 hl r1 => ?_)
  split at h
  · rename_i hz
    obtain ⟨G, O, k⟩ := r1.opn hl
    exact ⟨by rw [hl]; exact small_line hz, fun p o hp ho => h _ _ (O.new hp rfl fun G' m e => .tup (.inl (.inr ⟨o, e⟩)) (k.mono m) fun _ => ⟨o, e, ho⟩)⟩
  · exact h.elim
theorem den_lst (ha : DenA c W tA fA) : Den c W (tLst tA) (mLst fA) := by
  intro B ts vs ρ σ H Q rp h
  unfold mLst at h
  rw [post_then] at h
  refine ha B ts vs ρ σ H _ rp (h.imp1 fun ds ρ1 h us H1 hl r1 => ?_)
  split at h
  · rename_i hz
    obtain ⟨G, O, k⟩ := r1.opn hl
    exact ⟨by rw [hl]; exact small_line hz, fun p hp => h _ _ (O.newO hp fun H' e => ⟨_, e, k⟩)⟩
  · exact h.elim
end
/-! ### calls of built-ins -/
theorem Rep.one' {c : Cfg} {B : Base} {ts : En} {vs : List (Option V)} {ρ : En} {σ : L2.St} {H : Hp} {x : D} {us : List V} (hl : us.length = [x].length) (r : Rep c B (tmp [x] ++ ts) (tmv us ++ vs) ρ σ H) : ∃ v, us = [v] ∧ ∃ G, Opn c B ts vs ρ σ H G ∧ Rp c G v x := by
  obtain ⟨G, O, k⟩ := r.opn hl
  cases k with
  | cons h k =>
    cases k
    exact ⟨_, rfl, G, O, h⟩
theorem Rep.two' {c : Cfg} {B : Base} {ts : En} {vs : List (Option V)} {ρ : En} {σ : L2.St} {H : Hp} {x y : D} {us : List V} (hl : us.length = [x, y].length) (r : Rep c B (tmp [x, y] ++ ts) (tmv us ++ vs) ρ σ H) : ∃ v w, us = [v, w] ∧ ∃ G, Opn c B ts vs ρ σ H G ∧ Rp c G v x ∧ Rp c G w y := by
  obtain ⟨G, O, k⟩ := r.opn hl
  cases k with
  | cons h k =>
    cases k with
    | cons h' k =>
      cases k
      exact ⟨_, _, rfl, G, O, h, h'⟩
def rLenG (K : PySem.W.Frag) : List V → Hp → VK → Prop := fun xs H Q => (∃ p ys, xs = [.ref p] ∧ (SqL K H p ys ∨ SqT K H p ys) ∧ Q (.int ys.length) H) ∨ (∃ z, xs = [.str z] ∧ z.length ≤ sizeLine ∧ Q (.int z.length) H)
theorem cr_lenG {X : Cx} : CallR X (.builtin "len") (rLenG X.K) := CallR.or call_len_seq call_len_str
def lenD : D → Option Nat
  | .tup ds => some ds.length
  | .lst ds => some ds.length
  | .scr ns => some ns.length
  | .str z => if small z.length then some z.length else none
  | _ => none
def gLen : List D → Option S
  | [x] => (lenD x).bind fun n => ok1 (.int n)
  | _ => none
theorem cd_len {c : Cfg} : CbDen c (rLenG c.K) gLen := by
  intro B ts vs ρ σ H Q ds us s hl r e q
  match ds, hl, r, e with
  | [x], hl, r, e =>
    obtain ⟨v, rfl, G, O, h⟩ := r.one' hl
    have e : (lenD x).bind (fun n => ok1 (.int n)) = some s := e
    cases x with
    | str z =>
      have e : ((if small z.length then some z.length else none).bind fun n => ok1 (.int n)) = some s := e
      split at e
      · rename_i hz
        cases e
        cases h
        exact .inr ⟨z, rfl, small_line hz, q _ _ (O.val (.int _))⟩
      · cases e
    | tup ds =>
      cases e
      obtain ⟨a, xs, rfl, ha, ka⟩ := h.tupE
      exact .inl ⟨a, xs, rfl, .inr (SqT.up O.sub ha), by rw [ka.length]; exact q _ _ (O.val (.int _))⟩
    | lst ds =>
      cases e
      obtain ⟨a, xs, rfl, ha, ka⟩ := h.lstE
      exact .inl ⟨a, xs, rfl, .inl (SqL.of (O.sub _ _ ha)), by rw [ka.length]; exact q _ _ (O.val (.int _))⟩
    | scr ns =>
      cases e
      obtain ⟨a, rfl, ha⟩ := h.scrE
      exact .inl ⟨a, _, rfl, .inl (Same.seq O.sub ha), by rw [List.length_map]; exact q _ _ (O.val (.int _))⟩
    | _ => cases e
  | [], _, _, e => cases e
  | _ :: _ :: _, _, _, e => cases e
/-- tuple(x), list(x) of a list, a tuple -/
def gTuple : List D → Option S
  | [.tup ds] => ok1 (.tup ds)
  | [.lst ds] => ok1 (.tup ds)
  | _ => none
theorem cd_tuple {c : Cfg} : CbDen c (rTupN c.K) gTuple := by
  intro B ts vs ρ σ H Q ds us s hl r e q
  match ds, hl, r, e with
  | [.tup ds], hl, r, e =>
    cases e
    obtain ⟨v, rfl, G, O, h⟩ := r.one' hl
    obtain ⟨a, xs, rfl, ha, ka, na⟩ := h.tupN
    exact ⟨a, xs, rfl, .inr ⟨SqT.up O.sub ha, q _ _ (O.val (.tup ha ka na))⟩⟩
  | [.lst ds], hl, r, e =>
    cases e
    obtain ⟨v, rfl, G, O, h⟩ := r.one' hl
    obtain ⟨a, xs, rfl, ha, ka⟩ := h.lstE
    exact ⟨a, xs, rfl, .inl ⟨SqL.of (O.sub _ _ ha), fun p o hp ho => q _ _ (O.new hp rfl fun G' m e => .tup (.inl (.inr ⟨o, e⟩)) (ka.mono m) fun _ => ⟨o, e, ho⟩)⟩⟩
def gList : List D → Option S
  | [.tup ds] => some (.o none (.lst ds))
  | [.lst ds] => some (.o none (.lst ds))
  | _ => none
theorem cd_list {c : Cfg} : CbDen c (fun xs H Q => ∃ p ys, xs = [.ref p] ∧ (SqL c.K H p ys ∨ SqT c.K H p ys) ∧ ∀ l, H l = none → Q (.ref l) (upd H l (.lst ys))) gList := by
  intro B ts vs ρ σ H Q ds us s hl r e q
  match ds, hl, r, e with
  | [.tup ds], hl, r, e =>
    cases e
    obtain ⟨v, rfl, G, O, h⟩ := r.one' hl
    obtain ⟨a, xs, rfl, ha, ka⟩ := h.tupE
    exact ⟨a, xs, rfl, .inr (SqT.up O.sub ha), fun p hp => q _ _ (O.newO hp fun H' e => ⟨_, e, ka⟩)⟩
  | [.lst ds], hl, r, e =>
    cases e
    obtain ⟨v, rfl, G, O, h⟩ := r.one' hl
    obtain ⟨a, xs, rfl, ha, ka⟩ := h.lstE
    exact ⟨a, xs, rfl, .inl (SqL.of (O.sub _ _ ha)), fun p hp => q _ _ (O.newO hp fun H' e => ⟨_, e, ka⟩)⟩
/-- all, any of a list of bools -/
def blsD : List D → Option (List Bool)
  | [] => some []
  | .bl b :: ds => (blsD ds).map (b :: ·)
  | _ => none
theorem RpAll.bls {c : Cfg} {G : Hp} : ∀ {us : List V} {ds : List D} {bs : List Bool}, blsD ds = some bs → RpAll c G us ds → us = bs.map V.bl
  | _, [], _, e, h => by cases e; cases h; rfl
  | _, d :: ds, bs, e, h => by
    cases d <;> first | cases e | skip
    rename_i b
    have e : (blsD ds).map (b :: ·) = some bs := e
    cases e1 : blsD ds with
    | none => rw [e1] at e; cases e
    | some bs' =>
      rw [e1] at e
      cases e
      cases h with
      | cons h k =>
        cases h
        rw [k.bls e1]
        rfl
def gAll : List D → Option S
  | [.lst ds] => (blsD ds).bind fun bs => ok1 (.bl (bs.all id))
  | _ => none
def gAny : List D → Option S
  | [.lst ds] => (blsD ds).bind fun bs => ok1 (.bl (bs.any id))
  | _ => none
theorem cd_all {c : Cfg} : CbDen c (rAll c.K) gAll := by
  intro B ts vs ρ σ H Q ds us s hl r e q
  match ds, hl, r, e with
  | [.lst ds], hl, r, e =>
    obtain ⟨v, rfl, G, O, h⟩ := r.one' hl
    obtain ⟨a, xs, rfl, ha, ka⟩ := h.lstE
    have e : (blsD ds).bind (fun bs => ok1 (.bl (bs.all id))) = some s := e
    cases e1 : blsD ds with
    | none => rw [e1] at e; cases e
    | some bs =>
      rw [e1] at e
      cases e
      have := ka.bls e1
      subst this
      exact ⟨a, bs, rfl, SqL.of (O.sub _ _ ha), q _ _ (O.val (.bl _))⟩
theorem cd_any {c : Cfg} : CbDen c (rAny c.K) gAny := by
  intro B ts vs ρ σ H Q ds us s hl r e q
  match ds, hl, r, e with
  | [.lst ds], hl, r, e =>
    obtain ⟨v, rfl, G, O, h⟩ := r.one' hl
    obtain ⟨a, xs, rfl, ha, ka⟩ := h.lstE
    have e : (blsD ds).bind (fun bs => ok1 (.bl (bs.any id))) = some s := e
    cases e1 : blsD ds with
    | none => rw [e1] at e; cases e
    | some bs =>
      rw [e1] at e
      cases e
      have := ka.bls e1
      subst this
      exact ⟨a, bs, rfl, SqL.of (O.sub _ _ ha), q _ _ (O.val (.bl _))⟩
end Fx
/-! tests, statements, targets, loops, comprehensions -/
namespace Fx
open PySem PySem.Spec PyProof.Rows L2
theorem RpAll.sl {c : Cfg} {B : Base} {G H : Hp} {ts : En} {vs : List (Option V)} {own : Owns} : ∀ {us : List V} {ds : List D}, RpAll c G us ds → Sl c B G H ts vs own → Sl c B G H ((ds.map fun x => some (S.d x)) ++ ts) (us.map some ++ vs) own
  | _, _, .nil, h => h
  | _, _, .cons a k, h => .d a (RpAll.sl k h)
/-! ### tests -/
def mTest (f : M S) : M Bool := fun ρ => (dv f ρ).then fun x ρ' => match x with
  | .bl b => .ok b ρ'
  | _ => .stuck
def mNot (f : M Bool) : M Bool := fun ρ => (f ρ).then fun b ρ' => .ok (!b) ρ'
def mAnd (f g : M Bool) : M Bool := fun ρ => (f ρ).then fun b ρ' => if b = true then g ρ' else .ok false ρ'
def mOr (f g : M Bool) : M Bool := fun ρ => (f ρ).then fun b ρ' => if b = true then .ok true ρ' else g ρ'
def mAndV (f g : M S) : M S := fun ρ => (mTest f ρ).then fun b ρ' => if b = true then g ρ' else .ok (.d (.bl false)) ρ'
def mOrV (f g : M S) : M S := fun ρ => (mTest f ρ).then fun b ρ' => if b = true then .ok (.d (.bl true)) ρ' else g ρ'
def mNotV (f : M S) : M S := fun ρ => (mTest f ρ).then fun b ρ' => .ok (.d (.bl (!b))) ρ'
def mIf (t : M Bool) (f g : M S) : M S := fun ρ => (t ρ).then fun b ρ' => if b = true then f ρ' else g ρ'
def mYes : M Bool := fun ρ => .ok true ρ
section
variable {c : Cfg} {W : WX} {B : Base} {H : Hp} {ts : En} {vs : List (Option V)} {ρ : En} {σ : L2.St} {te ta tb : TE} {fe fa fb : M S} {tt tu : TT} {ft fu : M Bool}
theorem Den.test (h : Den c W te fe) {Q : Bool → Hp → Prop} (r : Rep c B ts vs ρ σ H) (q : Post (fun b ρ' => ∀ H', Rep c B ts vs ρ' σ H' → Q b H') (ErrP c W B ts vs σ) (mTest fe ρ)) : te σ H fun x H' => ∃ k, x = .bl k ∧ Q k H' := by
  unfold mTest at q
  rw [post_then] at q
  refine h.dv r (q.imp1 fun x ρ' p v H' r' => ?_)
  cases x <;> first | exact p.elim | skip
  obtain ⟨G, O, hv⟩ := r'.one
  cases hv
  exact ⟨_, rfl, p H' r'.drop⟩
theorem dt_test (h : Den c W te fe) : DenT c W (tTest te) (mTest fe) := fun B ts vs ρ σ H Q r q => h.test r q
theorem dt_B (h : Den c W te fe) : DenT c W (tB te) (mTest fe) := fun B ts vs ρ σ H Q r q => h.test r q
theorem dt_not (h : DenT c W tt ft) : DenT c W (tNot tt) (mNot ft) := fun B ts vs ρ σ H Q r q => by
  unfold mNot at q
  rw [post_then] at q
  exact h B ts vs ρ σ H _ r q
theorem dt_and (h : DenT c W tt ft) (k : DenT c W tu fu) : DenT c W (tAnd tt tu) (mAnd ft fu) := fun B ts vs ρ σ H Q r q => by
  unfold mAnd at q
  rw [post_then] at q
  refine h B ts vs ρ σ H _ r (q.imp1 fun b ρ' p H' r' => ?_)
  cases b with
  | true => exact k B ts vs ρ' σ H' Q r' p
  | false => exact p H' r'
theorem dt_or (h : DenT c W tt ft) (k : DenT c W tu fu) : DenT c W (tOr tt tu) (mOr ft fu) := fun B ts vs ρ σ H Q r q => by
  unfold mOr at q
  rw [post_then] at q
  refine h B ts vs ρ σ H _ r (q.imp1 fun b ρ' p H' r' => ?_)
  cases b with
  | true => exact p H' r'
  | false => exact k B ts vs ρ' σ H' Q r' p
theorem dt_yes : DenT c W tYes mYes := fun B ts vs ρ σ H Q r q => q H r
theorem OkP.bl {Q : VK} {b : Bool} {ρ : En} (h : OkP c B ts vs σ Q (.d (.bl b)) ρ) {H : Hp} (r : Rep c B ts vs ρ σ H) : Q (.bl b) H := h _ _ (Rep.repl (ds := []) (us := []) r rfl fun G _ => .bl b)
theorem den_andV (h : Den c W ta fa) (k : Den c W tb fb) : Den c W (tAndV ta tb) (mAndV fa fb) := fun B ts vs ρ σ H Q r q => by
  unfold mAndV at q
  rw [post_then] at q
  refine h.test (Q := fun b H1 => if b = true then tb σ H1 Q else Q (.bl false) H1) r (q.imp1 fun b ρ' p H' r' => ?_)
  cases b with
  | true => exact k B ts vs ρ' σ H' Q r' p
  | false => exact OkP.bl p r'
theorem den_notV (h : Den c W ta fa) : Den c W (tNotV ta) (mNotV fa) := fun B ts vs ρ σ H Q r q => by
  unfold mNotV at q
  rw [post_then] at q
  exact h.test r (q.imp1 fun b ρ' p H' r' => OkP.bl p r')
theorem den_if (h : DenT c W tt ft) (ka : Den c W ta fa) (kb : Den c W tb fb) : Den c W (tIf tt ta tb) (mIf ft fa fb) := fun B ts vs ρ σ H Q r q => by
  unfold mIf at q
  rw [post_then] at q
  refine h B ts vs ρ σ H _ r (q.imp1 fun b ρ' p H' r' => ?_)
  cases b with
  | true => exact ka B ts vs ρ' σ H' Q r' p
  | false => exact kb B ts vs ρ' σ H' Q r' p
end
/-! ### statements -/
inductive Fl where
  | nx | rt (s : S) | bk | ct
def EndP (c : Cfg) (B : Base) (ts : En) (vs : List (Option V)) (D : Ends) : Fl → En → Prop
  | .nx, ρ => ∀ σ H, Rep c B ts vs ρ σ H → D.nx σ H
  | .bk, ρ => ∀ σ H, Rep c B ts vs ρ σ H → D.bk σ H
  | .ct, ρ => ∀ σ H, Rep c B ts vs ρ σ H → D.ct σ H
  | .rt s, ρ => ∀ v σ H, Rep c B (some s :: ts) (some v :: vs) ρ σ H → D.rt v H
def ErrS (c : Cfg) (W : WX) (B : Base) (ts : En) (vs : List (Option V)) (e : Err) (ρ : En) : Prop := ∀ σ k d H, c.err e k d H → Rep c B ts vs ρ σ H → W k d σ H
def DenS (c : Cfg) (W : WX) (t : TS) (F : M Fl) : Prop := ∀ B ts vs ρ σ H D, Rep c B ts vs ρ σ H → Post (EndP c B ts vs D) (ErrS c W B ts vs) (F ρ) → t D σ H
/-- but for the slots js -/
def Off (js : List Nat) (σ σ' : L2.St) : Prop := σ'.length = σ.length ∧ ∀ i, i ∉ js → σ'[i]? = σ[i]?
def DenG (c : Cfg) (W : WX) (g : TG) (F : D → M Unit) (js : List Nat) : Prop := ∀ B ts vs ρ σ H x v Q, Rep c B (some (.d x) :: ts) (some v :: vs) ρ σ H → Post (fun _ ρ' => ∀ σ' H', Off js σ σ' → Rep c B ts vs ρ' σ' H' → Q σ' H') (ErrS c W B ts vs) (F x ρ) → g v σ H Q
def DenGs (c : Cfg) (W : WX) (g : TGs) (F : List D → M Unit) (js : List Nat) : Prop := ∀ B ts vs ρ σ H ds us Q, us.length = ds.length → Rep c B ((ds.map fun x => some (S.d x)) ++ ts) (us.map some ++ vs) ρ σ H → Post (fun _ ρ' => ∀ σ' H', Off js σ σ' → Rep c B ts vs ρ' σ' H' → Q σ' H') (ErrS c W B ts vs) (F ds ρ) → g us σ H Q
def mNx : M Fl := fun ρ => .ok .nx ρ
def mBk : M Fl := fun ρ => .ok .bk ρ
def mCt : M Fl := fun ρ => .ok .ct ρ
def mSt : M Fl := fun _ => .stuck
def mSeq (F G : M Fl) : M Fl := fun ρ => (F ρ).then fun f ρ' => match f with
  | .nx => G ρ'
  | .rt s => .ok (.rt s) ρ'
  | .bk => .ok .bk ρ'
  | .ct => .ok .ct ρ'
def mRet (f : M S) : M Fl := fun ρ => (f ρ).then fun s ρ' => .ok (.rt s) ρ'
def mRetN : M Fl := fun ρ => .ok (.rt (.d .non)) ρ
/-- the value of a name is handed back, its cell with it -/
def mRetO (i : Nat) : M Fl := fun ρ => match ρ[i]? with
  | some (some (.o none x)) => .ok (.rt (.o none x)) (ρ.set i none)
  | some (some (.d x)) => .ok (.rt (.d x)) ρ
  | _ => .stuck
def mIfS (t : M Bool) (F G : M Fl) : M Fl := fun ρ => (t ρ).then fun b ρ' => if b = true then F ρ' else G ρ'
def mDrop (f : M S) : M Fl := fun ρ => (f ρ).then fun _ ρ' => .ok .nx ρ'
def mAsg (f : M S) (g : D → M Unit) : M Fl := fun ρ => (dv f ρ).then fun x ρ' => (g x ρ').then fun _ ρ2 => .ok .nx ρ2
def mAsgO (i : Nat) (f : M S) : M Fl := fun ρ => (f ρ).then fun s ρ' => match s with
  | .o none x => .ok .nx (ρ'.set i (some (.o none x)))
  | .d x => .ok .nx (ρ'.set i (some (.d x)))
  | _ => .stuck
def gmName (i : Nat) : D → M Unit := fun x ρ => .ok () (ρ.set i (some (.d x)))
def gmNil : List D → M Unit := fun ds ρ => match ds with
  | [] => .ok () ρ
  | _ => .stuck
def gmCons (g : D → M Unit) (gs : List D → M Unit) : List D → M Unit := fun ds ρ => match ds with
  | d :: r => (g d ρ).then fun _ ρ' => gs r ρ'
  | [] => .stuck
def gmTup (n : Nat) (gs : List D → M Unit) : D → M Unit := fun x ρ => match x with
  | .tup ds => if ds.length = n then gs ds ρ else .stuck
  | _ => .stuck
section
variable {c : Cfg} {W : WX} {te : TE} {fe : M S} {tt : TT} {ft : M Bool} {t u : TS} {F G : M Fl} {g : TG} {gm : D → M Unit} {js js' : List Nat}
theorem ErrS.toP {B : Base} {ts : En} {vs : List (Option V)} {σ : L2.St} {e : Err} {ρ : En} (h : ErrS c W B ts vs e ρ) : ErrP c W B ts vs σ e ρ := fun k d H' he r => h σ k d H' he r
theorem ErrS.drop {B : Base} {ts : En} {vs : List (Option V)} {s : Option S} {v : Option V} {e : Err} {ρ : En} (h : ErrS c W B ts vs e ρ) : ErrS c W B (s :: ts) (v :: vs) e ρ := fun σ k d H' he r => h σ k d H' he r.drop
theorem ds_nx : DenS c W tNext mNx := fun B ts vs ρ σ H D r q => q σ H r
theorem ds_never : DenS c W tNever mSt := fun B ts vs ρ σ H D r q => q
theorem ds_seq (h : DenS c W t F) (k : DenS c W u G) : DenS c W (tSeq t u) (mSeq F G) := fun B ts vs ρ σ H D r q => by
  unfold mSeq at q
  rw [post_then] at q
  refine h B ts vs ρ σ H { D with nx := u D } r (q.imp1 fun f ρ' p => ?_)
  cases f with
  | nx => exact fun σ' H' r' => k B ts vs ρ' σ' H' D r' p
  | rt s => exact p
  | bk => exact p
  | ct => exact p
theorem ds_ret (h : Den c W te fe) : DenS c W (tRet te) (mRet fe) := fun B ts vs ρ σ H D r q => by
  unfold mRet at q
  rw [post_then] at q
  exact h B ts vs ρ σ H _ r (q.imp (fun s ρ' p v H' r' => p v σ H' r') fun _ _ h => h.toP)
theorem ds_if (h : DenT c W tt ft) (k : DenS c W t F) (l : DenS c W u G) : DenS c W (tIfS tt t u) (mIfS ft F G) := fun B ts vs ρ σ H D r q => by
  unfold mIfS at q
  rw [post_then] at q
  refine h B ts vs ρ σ H _ r (q.imp (fun b ρ' p H' r' => ?_) fun _ _ h => h.toP)
  cases b with
  | true => exact k B ts vs ρ' σ H' D r' p
  | false => exact l B ts vs ρ' σ H' D r' p
theorem ds_drop (h : Den c W te fe) : DenS c W (tDrop te) (mDrop fe) := fun B ts vs ρ σ H D r q => by
  unfold mDrop at q
  rw [post_then] at q
  exact h B ts vs ρ σ H _ r (q.imp (fun s ρ' p v H' r' => p σ H' r'.drop) fun _ _ h => h.toP)
theorem ds_asg (h : Den c W te fe) (k : DenG c W g gm js) : DenS c W (tAsg te g) (mAsg fe gm) := fun B ts vs ρ σ H D r q => by
  unfold mAsg at q
  rw [post_then] at q
  refine h.dv r (q.imp (fun x ρ' p v H' r' => ?_) fun _ _ h => h.toP)
  rw [post_then] at p
  exact k B ts vs ρ' σ H' x v D.nx r' (p.imp1 fun _ ρ2 p2 σ2 H2 _ r2 => p2 σ2 H2 r2)
theorem ds_asgO {i : Nat} (h : Den c W te fe) : DenS c W (tAsg te (gName i)) (mAsgO i fe) := fun B ts vs ρ σ H D r q => by
  unfold mAsgO at q
  rw [post_then] at q
  refine h B ts vs ρ σ H _ r (q.imp (fun s ρ' p v H' r' => ?_) fun _ _ h => h.toP)
  cases s with
  | d x => exact p _ H' r'.set
  | o b x =>
    cases b with
    | some _ => exact p.elim
    | none => exact p _ H' r'.set
  | q _ _ => exact p.elim
theorem dg_name {i : Nat} : DenG c W (gName i) (gmName i) [i] := fun B ts vs ρ σ H x v Q r q => q _ H ⟨by rw [List.length_set], fun j hj => List.getElem?_set_ne fun e => hj (by simp [e])⟩ r.set
theorem dgs_nil : DenGs c W gNil gmNil [] := fun B ts vs ρ σ H ds us Q hl r q => by
  cases ds with
  | nil =>
    cases us with
    | nil => exact ⟨rfl, q σ H ⟨rfl, fun _ _ => rfl⟩ r⟩
    | cons _ _ => simp at hl
  | cons _ _ => exact q.elim
theorem dgs_cons {gs : TGs} {gms : List D → M Unit} (h : DenG c W g gm js) (k : DenGs c W gs gms js') : DenGs c W (gCons g gs) (gmCons gm gms) (js ++ js') := fun B ts vs ρ σ H ds us Q hl r q => by
  cases ds with
  | nil => exact q.elim
  | cons x ds =>
    cases us with
    | nil => simp at hl
    | cons v us =>
      have hl' : us.length = ds.length := by simpa using hl
      refine ⟨v, us, rfl, ?_⟩
      have q : Post _ _ ((gm x ρ).then fun _ ρ' => gms ds ρ') := q
      rw [post_then] at q
      refine h B _ _ ρ σ H x v _ r (q.imp (fun _ ρ' p σ' H' o1 r' => k B ts vs ρ' σ' H' ds us Q hl' r' (p.imp1 fun _ ρ2 p σ2 H2 o2 r2 => p σ2 H2 ⟨o2.1.trans o1.1, fun i hi => (o2.2 i fun z => hi (List.mem_append_right _ z)).trans (o1.2 i fun z => hi (List.mem_append_left _ z))⟩ r2)) fun e ρ' h σ' k' d H' he r' => h σ' k' d H' he ?_)
      have r2 := Rep.dropN (ds := ds.reverse) (us := us.reverse) (by simpa using hl') (by simpa [tmp, tmv] using r')
      exact r2
theorem dg_tup {gs : TGs} {gms : List D → M Unit} {n : Nat} (k : DenGs c W gs gms js) : DenG c W (gTup c.K n gs) (gmTup n gms) js := fun B ts vs ρ σ H x v Q r q => by
  cases x <;> first | exact q.elim | skip
  rename_i ds
  have q : Post _ _ (if ds.length = n then gms ds ρ else .stuck) := q
  split at q
  · rename_i hn
    obtain ⟨G, o1, o2, kk, h1, h2⟩ := r
    cases h1 with
    | d hv h1 =>
      obtain ⟨a, xs, rfl, ha, ka⟩ := hv.tupE
      refine ⟨a, xs, rfl, SqT.up kk.sub ha, by rw [ka.length, hn], k B ts vs ρ σ H ds xs Q ka.length ⟨G, o1, o2, kk, ?_, h2⟩ q⟩
      exact ka.sl h1
  · exact q.elim
end
/-! ### loops -/
/-- what a walk gives, turn by turn, while what it walks waits -/
def IsWalk (c : Cfg) (st : List D) (sv : List V) (J : It) (items : List D) : Prop := ∃ n Gw Y, Walk J n Gw Y ∧ n = items.length ∧
  (∀ B ts vs ρ σ H, Rep c B (tmp st ++ ts) (tmv sv ++ vs) ρ σ H → Gw H) ∧
  ∀ B ts vs ρ σ H k x H', k < n → Rep c B (tmp st ++ ts) (tmv sv ++ vs) ρ σ H → Y k H x H' → ∃ d, items[k]? = some d ∧ Rep c B (some (.d d) :: (tmp st ++ ts)) (some x :: (tmv sv ++ vs)) ρ σ H'
def OkI (c : Cfg) (B : Base) (ts : En) (vs : List (Option V)) (σ : L2.St) (R : It → Hp → Prop) (items : List D) (ρ : En) : Prop :=
  ∀ J st sv H', sv.length = st.length → Rep c B (tmp st ++ ts) (tmv sv ++ vs) ρ σ H' → IsWalk c st sv J items → R J H'
def DenI (c : Cfg) (W : WX) (wi : TI) (f : M (List D)) : Prop := ∀ B ts vs ρ σ H R, Rep c B ts vs ρ σ H → Post (OkI c B ts vs σ R) (ErrP c W B ts vs σ) (f ρ) → wi σ H R
/-- a for's turns -/
def mLoop (gm : D → M Unit) (F : M Fl) : List D → M Fl
  | [] => fun ρ => .ok .nx ρ
  | x :: xs => fun ρ => (gm x ρ).then fun _ ρ1 => (F ρ1).then fun f ρ2 => match f with
    | .nx => mLoop gm F xs ρ2
    | .ct => mLoop gm F xs ρ2
    | .bk => .ok .nx ρ2
    | .rt s => .ok (.rt s) ρ2
def mFor (fI : M (List D)) (gm : D → M Unit) (F : M Fl) : M Fl := fun ρ => (fI ρ).then fun items ρ1 => mLoop gm F items ρ1
def mWhile (ft : M Bool) (F : M Fl) : Nat → M Fl
  | 0 => fun _ => .stuck
  | n + 1 => fun ρ => (ft ρ).then fun b ρ1 => if b = true then (F ρ1).then fun f ρ2 => match f with
      | .nx => mWhile ft F n ρ2
      | .ct => mWhile ft F n ρ2
      | .bk => .ok .nx ρ2
      | .rt s => .ok (.rt s) ρ2
    else .ok .nx ρ1
section
variable {c : Cfg} {W : WX} {wi : TI} {fI : M (List D)} {te : TE} {fe : M S} {tt : TT} {ft : M Bool} {t u : TS} {F G : M Fl} {g : TG} {gm : D → M Unit} {js js' : List Nat}
theorem EndP.dropN {B : Base} {ts : En} {vs : List (Option V)} {st : List D} {sv : List V} {s : S} {v : V} {ρ : En} {σ : L2.St} {H : Hp} (hl : sv.length = st.length) (r : Rep c B (some s :: (tmp st ++ ts)) (some v :: (tmv sv ++ vs)) ρ σ H) : Rep c B (some s :: ts) (some v :: vs) ρ σ H := by
  obtain ⟨G, o1, o2, k, h1, h2⟩ := r
  obtain ⟨w, os, o1', ew, e1, rfl, h1'⟩ := h1.unone
  cases ew
  exact ⟨G, os ++ o1', o2, k, Sl.one e1 (h1'.tmp hl).2, h2⟩
theorem ds_for (h : DenI c W wi fI) (k : DenG c W g gm js) (l : DenS c W t F) : DenS c W (tFor wi g t) (mFor fI gm F) := fun B ts vs ρ σ H D r q => by
  unfold mFor at q
  rw [post_then] at q
  refine h B ts vs ρ σ H _ r (q.imp (fun items ρ1 q J st sv H1 hl r1 w => ?_) fun _ _ h => h.toP)
  obtain ⟨n, Gw, Y, wk, rfl, hG, hY⟩ := w
  refine for_it wk (fun i σ H => ∃ ρ, Rep c B (tmp st ++ ts) (tmv sv ++ vs) ρ σ H ∧ Post (EndP c B ts vs D) (ErrS c W B ts vs) (mLoop gm F (items.drop i) ρ)) ⟨ρ1, r1, q⟩ (fun i σ H _ ⟨ρ, r, _⟩ => hG _ _ _ _ _ _ r) ?_ ?_
  · rintro i x σ1 H1 H2 hi ⟨ρ, r, q⟩ y
    obtain ⟨d, ed, r2⟩ := hY _ _ _ _ _ _ _ _ _ hi r y
    have hd : items.drop i = d :: items.drop (i + 1) := by
      rw [List.drop_eq_getElem_cons hi]
      rw [List.getElem?_eq_getElem hi] at ed
      cases ed
      rfl
    rw [hd] at q
    have q : Post _ _ ((gm d ρ).then fun _ ρ1 => (F ρ1).then fun f ρ2 => _) := q
    rw [post_then] at q
    have er : ∀ e ρ, ErrS c W B ts vs e ρ → ErrS c W B (tmp st ++ ts) (tmv sv ++ vs) e ρ := fun e ρ h σ k d H' he r => h σ k d H' he (r.dropN hl)
    refine k B _ _ ρ σ1 H2 d x _ r2 (q.imp (fun _ ρ2 q σ2 H3 _ r3 => ?_) er)
    rw [post_then] at q
    refine l B _ _ ρ2 σ2 H3 _ r3 (q.imp (fun f ρ3 p => ?_) er)
    cases f with
    | nx => exact fun σ4 H4 r4 => ⟨ρ3, r4, p⟩
    | ct => exact fun σ4 H4 r4 => ⟨ρ3, r4, p⟩
    | bk => exact fun σ4 H4 r4 => p σ4 H4 (r4.dropN hl)
    | rt s => exact fun v σ4 H4 r4 => p v σ4 H4 (EndP.dropN hl r4)
  · rintro σ1 H1 ⟨ρ, r, q⟩
    rw [List.drop_length] at q
    exact q σ1 H1 (r.dropN hl)
theorem ds_while {n : Nat} (h : DenT c W tt ft) (l : DenS c W t F) : DenS c W (tWhile tt t) (mWhile ft F n) := fun B ts vs ρ σ H D r q => by
  refine ⟨fun m σ H => ∃ ρ, Rep c B ts vs ρ σ H ∧ Post (EndP c B ts vs D) (ErrS c W B ts vs) (mWhile ft F m ρ), ⟨n, ρ, r, q⟩, ?_⟩
  rintro m σ H ⟨ρ, r, q⟩
  cases m with
  | zero => exact q.elim
  | succ m =>
    have q : Post _ _ ((ft ρ).then fun b ρ1 => _) := q
    rw [post_then] at q
    refine h B ts vs ρ σ H _ r (q.imp (fun b ρ1 q H1 r1 => ?_) fun _ _ h => h.toP)
    cases b with
    | false => exact q σ H1 r1
    | true =>
      have q : Post _ _ ((F ρ1).then fun f ρ2 => _) := q
      rw [post_then] at q
      refine ⟨fun σ H => ∃ ρ, Rep c B ts vs ρ σ H ∧ Post (EndP c B ts vs D) (ErrS c W B ts vs) (mWhile ft F m ρ), fun σ' H' h => ⟨m, Nat.lt_succ_self m, h⟩, ?_⟩
      refine l B ts vs ρ1 σ H1 _ r1 (q.imp1 fun f ρ2 p => ?_)
      cases f with
      | nx => exact fun σ4 H4 r4 => ⟨ρ2, r4, p⟩
      | ct => exact fun σ4 H4 r4 => ⟨ρ2, r4, p⟩
      | bk => exact p
      | rt s => exact p
end
/-! ### what is walked -/
def iSeq (f : M S) : M (List D) := fun ρ => (dv f ρ).then fun x ρ' => match itemsD x with
  | some ds => .ok ds ρ'
  | none => .stuck
def intsFrom (lo : Int) : Nat → List D
  | 0 => []
  | n + 1 => .int lo :: intsFrom (lo + 1) n
theorem intsFrom_length : ∀ (n : Nat) (lo : Int), (intsFrom lo n).length = n
  | 0, _ => rfl
  | n + 1, lo => by simp [intsFrom, intsFrom_length n]
theorem intsFrom_get : ∀ (n : Nat) (lo : Int) (k : Nat), k < n → (intsFrom lo n)[k]? = some (.int (lo + k))
  | 0, _, _, h => absurd h (Nat.not_lt_zero _)
  | n + 1, lo, 0, _ => by simp [intsFrom]
  | n + 1, lo, k + 1, h => by
    simp only [intsFrom, List.getElem?_cons_succ]
    rw [intsFrom_get n (lo + 1) k (by omega)]
    congr 2
    push_cast
    omega
def rOk (i : Int) : Bool := decide (-4611686018427387904 ≤ i) && decide (i < 4611686018427387904)
def iRange1 (fa : M (List D)) : M (List D) := fun ρ => (fa ρ).then fun ds ρ' => match ds with
  | [.int j] => if rOk j then .ok (intsFrom 0 j.toNat) ρ' else .stuck
  | _ => .stuck
def iRange2 (fa : M (List D)) : M (List D) := fun ρ => (fa ρ).then fun ds ρ' => match ds with
  | [.int i, .int j] => if rOk i && rOk j then .ok (intsFrom i (j - i).toNat) ρ' else .stuck
  | _ => .stuck
section
variable {c : Cfg} {W : WX} {wi : TI} {fI : M (List D)} {te : TE} {fe : M S} {tA : TA} {fA : M (List D)}
theorem rOk_iff {i : Int} : rOk i = true ↔ -(2 ^ 62) ≤ i ∧ i < 2 ^ 62 := by
  unfold rOk
  simp only [Bool.and_eq_true, decide_eq_true_eq]
  constructor <;> (intro h; constructor <;> omega)
theorem walk_ints {lo : Int} {n : Nat} : IsWalk c [] [] (Itr lo n) (intsFrom lo n) := by
  refine ⟨n, _, _, walk_range, (intsFrom_length n lo).symm, fun _ _ _ _ _ _ _ => trivial, ?_⟩
  rintro B ts vs ρ σ H k x H' hk r ⟨rfl, rfl⟩
  exact ⟨_, intsFrom_get n lo k hk, Rep.repl (ds := []) (us := []) r rfl fun G _ => .int _⟩
theorem di_range1 (h : DenA c W tA fA) : DenI c W (iRng1 tA) (iRange1 fA) := fun B ts vs ρ σ H R r q => by
  unfold iRange1 at q
  rw [post_then] at q
  refine h B ts vs ρ σ H _ r (q.imp1 fun ds ρ' p us H' hl r' => ?_)
  split at p
  · rename_i j
    split at p
    · rename_i hj
      rw [rOk_iff] at hj
      obtain ⟨v, rfl, G, O, hv⟩ := r'.one' hl
      cases hv
      exact ⟨j, rfl, hj.1, hj.2, p _ [] [] H' rfl (Rep.dropN (ds := [.int j]) (us := [.int j]) rfl r') walk_ints⟩
    · exact p.elim
  · exact p.elim
theorem di_range2 (h : DenA c W tA fA) : DenI c W (iRng2 tA) (iRange2 fA) := fun B ts vs ρ σ H R r q => by
  unfold iRange2 at q
  rw [post_then] at q
  refine h B ts vs ρ σ H _ r (q.imp1 fun ds ρ' p us H' hl r' => ?_)
  split at p
  · rename_i i j
    split at p
    · rename_i hj
      rw [Bool.and_eq_true, rOk_iff, rOk_iff] at hj
      obtain ⟨v, w, rfl, G, O, hv, hw⟩ := r'.two' hl
      cases hv
      cases hw
      exact ⟨i, j, rfl, ⟨hj.1.1, hj.1.2, hj.2.1, hj.2.2⟩, p _ [] [] H' rfl (Rep.dropN (ds := [.int i, .int j]) (us := [.int i, .int j]) rfl r') walk_ints⟩
    · exact p.elim
  · exact p.elim
end
end Fx
/-! zip of two tuples, its pairs kept by a name: the pair that was handed out before may be alive or not -/
namespace Fx
open PySem RZ
open Builtin.SmallTypes (ownedTupleIsFree ownedTupleHandOut nextOf)
section
variable {prog : Program} {w : World} {A : Around} {E : Value → Shared → Prop} {s : Shared} {z TI TO i1 i2 l1 l2 : Addr} {k1 k2 : Nat} {xs ys : Array Value} {x y v : Value} {f : Bool}
/-- the zip object: v names the pair that it handed out, if any -/
abbrev ZAt (h : Heap) (z TI TO : Addr) (v : Value) (f : Bool) : Prop := h.get? z = some { cls := .type "zip", dict := none, data := .fields #[v, .bool f, .bool false, .ref TI, .ref TO], slots := #[] }
def Old (v : Value) : Prop := v = .none ∨ ∃ T : Addr, v = rawInt T
theorem zip_free {Q : Bool → Shared → Prop} (g : ZAt s.heap z TI TO v f) (hv : Old v) (q : ∀ b h' f', ZAt h' z TI TO v f' → Heap.SameBut z s.heap h' → Q b { s with heap := h' }) :
    wpAny (model prog w) A (ownedTupleIsFree (Value.ref z)) Q E s := by
  have look : ∀ (a : Addr) (P : Option Obj → Shared → Prop), P (s.heap.get? a) s → wpAny (model prog w) A (loadIfAlive a) P E s := fun a P h _ _ _ => h
  unfold ownedTupleIsFree
  rcases hv with rfl | ⟨T, rfl⟩
  · exact wpAny_bind (wpAny_field g rfl (x := Value.none) rfl (wpAny_pure (q true s.heap f g (Heap.SameBut.refl _ _))))
  · apply wpAny_bind
    refine wpAny_field g rfl (x := rawInt T) rfl ?_
    show wpAny _ _ (loadIfAlive (Int.toNat (T : Int)) >>= _) _ _ _
    rw [Int.toNat_natCast]
    apply wpAny_bind
    apply look
    cases s.heap.get? T with
    | none => exact wpAny_pure (q true s.heap f g (Heap.SameBut.refl _ _))
    | some o =>
      simp only [Option.isNone_some, Bool.false_eq_true, ite_false]
      apply wpAny_bind
      refine wpAny_field g rfl (x := Value.bool f) rfl ?_
      by_cases e : f = true
      · subst e
        exact wpAny_pure (q false s.heap true g (Heap.SameBut.refl _ _))
      · have e : f = false := by simpa using e
        subst e
        exact wpAny_bind (wpAny_setField_rec g (by simp) fun h' g' same => wpAny_pure (q false h' true g' same))
end
end Fx
/-! zip of a tuple and a list, its pairs taken apart -/
namespace Fx
open PySem PySem.Spec PyProof.Rows L2 RZ
open Builtin.SmallTypes (ownedTupleIsFree ownedTupleHandOut nextOf)
section
variable {prog : Program} {w : World} {A : Around} {E : Value → Shared → Prop} {s : Shared} {z TI TO i1 i2 l1 l2 : Addr} {k1 k2 : Nat} {xs ys : Array Value} {x y v : Value} {f : Bool}
/-- next(z), both have an item -/
theorem zip_turnM {Q : Value → Shared → Prop} (D : ZipApart z TI TO i1 i2 l1 l2) (g : ZAt s.heap z TI TO v f) (hv : Old v) (t1 : IsPair s.heap TI (.ref i1) (.ref i2)) (t2 : ∃ a b, IsPair s.heap TO a b)
    (j1 : s.heap.IsTupleIter i1 l1 k1) (j2 : s.heap.IsListIter i2 l2 k2) (c1 : s.heap.IsTuple l1 xs) (c2 : s.heap.IsList l2 ys) (ex : xs[k1]? = some x) (ey : ys[k2]? = some y)
    (q : ∀ h' v' f', Old v' → ZAt h' z TI TO v' f' → (∃ a b, IsPair h' TO a b) → h'.IsTupleIter i1 l1 (k1 + 1) → h'.IsListIter i2 l2 (k2 + 1) → IsPair h' s.heap.objs.size x y → h'.objs.size = s.heap.objs.size + 1 →
      (∀ c o, c ≠ z → c ≠ TO → c ≠ i1 → c ≠ i2 → s.heap.get? c = some o → h'.get? c = some o) → Q (.ref s.heap.objs.size) { s with heap := h' }) :
    wpAny (model prog w) A (Builtin.«zip.__next__» ⟨[Value.ref z], []⟩) (fun r s' => ∃ u, r = .done (.ret u) ∧ Q u s') E s := by
  obtain ⟨a, b, t2⟩ := t2
  show wpAny _ _ (field (Value.ref z) 2 >>= _) _ _ _
  apply wpAny_bind
  refine wpAny_field g rfl (x := Value.bool false) rfl ?_
  show wpAny _ _ (field (Value.ref z) 3 >>= _) _ _ _
  apply wpAny_bind
  refine wpAny_field g rfl (x := Value.ref TI) rfl ?_
  apply wpAny_bind
  apply wpAny_seqItems t1 rfl
  show wpAny _ _ (ownedTupleIsFree (Value.ref z) >>= _) _ _ _
  apply wpAny_bind
  refine zip_free g hv fun free h1 f1 g1 s1 => ?_
  have m1 : ∀ c o, c ≠ z → s.heap.get? c = some o → h1.get? c = some o := fun c o n e => s1.extBut _ _ n e
  cases free with
  | false =>
    simp only [Bool.false_eq_true, ite_false]
    apply wpAny_bind
    rw [← Array.forIn_toList]
    simp only [List.forIn_cons, List.forIn_nil]
    apply wpAny_bind
    apply wpAny_bind
    apply wpAny_holding
    show wpAny _ _ (nextOf (Value.ref i1) >>= _) _ _ _
    apply wpAny_bind
    refine nextOf_tuple_item (s := { s with heap := h1 }) (j1.extBut s1.extBut D.i1z) (c1.extBut s1.extBut D.l1z) ex fun h2 p2 s2 => wpAny_pure (wpAny_pure ?_)
    apply wpAny_bind
    apply wpAny_bind
    apply wpAny_holding
    show wpAny _ _ (nextOf (Value.ref i2) >>= _) _ _ _
    apply wpAny_bind
    refine wpAny_nextOf_list_item (s := { s with heap := h2 }) ((j2.extBut s1.extBut D.i2z).extBut s2.extBut D.i12.symm) ((c2.extBut s1.extBut D.l2z).extBut s2.extBut D.l2i1) ey fun h3 p3 s3 => wpAny_pure (wpAny_pure (wpAny_pure ?_))
    show wpAny _ _ (newTuple [x, y] >>= _) _ _ _
    apply wpAny_bind
    refine wpAny_newTuple ?_
    have n : h3.objs.size = s.heap.objs.size := by rw [s3.1, s2.1, s1.1]
    have m3 : ∀ c o, c ≠ z → c ≠ i1 → c ≠ i2 → s.heap.get? c = some o → h3.get? c = some o := fun c o n1 n2 n3 e => s3.extBut _ _ n3 (s2.extBut _ _ n2 (m1 c o n1 e))
    have g3 : ZAt h3 z TI TO v f1 := s3.extBut _ _ D.i2z.symm (s2.extBut _ _ D.i1z.symm g1)
    have up : ∀ c o, h3.get? c = some o → (h3.push { cls := .type "tuple", data := .seq #[x, y] }).get? c = some o := fun c o e => Heap.get?_push_of_some _ e
    have new : IsPair (h3.push { cls := .type "tuple", data := .seq #[x, y] }) h3.objs.size x y := Heap.get?_push_size _ rfl
    have len : (h3.push { cls := .type "tuple", data := .seq #[x, y] }).objs.size = h3.objs.size + 1 := Heap.size_push ..
    refine wpAny_pure ⟨_, rfl, ?_⟩
    show Q (Value.ref h3.objs.size) _
    rw [n] at new len ⊢
    exact q _ v f1 hv (up _ _ g3) ⟨a, b, up _ _ (m3 _ _ D.TOz D.TOi1 D.TOi2 t2)⟩ ((p2.extBut s3.extBut D.i12).at fun o e => up _ o e) (p3.at fun o e => up _ o e) new len fun c o n1 n2 n3 n4 e => up _ _ (m3 c o n1 n3 n4 e)
  | true =>
    simp only [ite_true]
    apply wpAny_bind
    apply wpAny_rule
    apply wpAny_bind
    refine wpAny_field g1 rfl (x := Value.ref TO) rfl ?_
    apply wpAny_bind
    refine wpAny_setField_rec g1 (by simp) fun h2 g2 s2 => ?_
    replace g2 : ZAt h2 z TI TO .ellipsis f1 := g2
    apply wpAny_bind
    simp only [List.zipIdx_cons, List.zipIdx_nil, List.forIn_cons, List.forIn_nil]
    apply wpAny_bind
    apply wpAny_bind
    apply wpAny_onRaise
    show wpAny _ _ (nextOf (Value.ref i1) >>= _) _ _ _
    apply wpAny_bind
    refine nextOf_tuple_item (s := { s with heap := h2 }) ((j1.extBut s1.extBut D.i1z).extBut s2.extBut D.i1z) ((c1.extBut s1.extBut D.l1z).extBut s2.extBut D.l1z) ex fun h3 p3 s3 => wpAny_pure ?_
    have o3 : IsPair h3 TO a b := s3.extBut _ _ D.TOi1 (s2.extBut _ _ D.TOz (m1 _ _ D.TOz t2))
    apply wpAny_bind
    apply wpAny_seqItems o3 rfl
    apply wpAny_bind
    refine wpAny_updateSeq_pair o3 fun h4 o4 s4 => ?_
    replace o4 : IsPair h4 TO x b := o4
    apply wpAny_bind
    refine wpAny_letGo (wpAny_pure ?_)
    apply wpAny_bind
    apply wpAny_bind
    apply wpAny_onRaise
    show wpAny _ _ (nextOf (Value.ref i2) >>= _) _ _ _
    apply wpAny_bind
    refine wpAny_nextOf_list_item (s := { s with heap := h4 }) ((((j2.extBut s1.extBut D.i2z).extBut s2.extBut D.i2z).extBut s3.extBut D.i12.symm).extBut s4.extBut D.TOi2.symm) ((((c2.extBut s1.extBut D.l2z).extBut s2.extBut D.l2z).extBut s3.extBut D.l2i1).extBut s4.extBut D.l2TO) ey fun h5 p5 s5 => wpAny_pure ?_
    have o5 : IsPair h5 TO x b := s5.extBut _ _ D.TOi2 o4
    apply wpAny_bind
    apply wpAny_seqItems o5 rfl
    apply wpAny_bind
    refine wpAny_updateSeq_pair o5 fun h6 o6 s6 => ?_
    replace o6 : IsPair h6 TO x y := o6
    apply wpAny_bind
    refine wpAny_letGo (wpAny_pure (wpAny_pure ?_))
    apply wpAny_bind
    apply wpAny_seqItems o6 rfl
    apply wpAny_bind
    refine wpAny_newTuple ?_
    have n : h6.objs.size = s.heap.objs.size := by rw [s6.1, s5.1, s4.1, s3.1, s2.1, s1.1]
    have g6 : ZAt h6 z TI TO .ellipsis f1 := s6.extBut _ _ D.TOz.symm (s5.extBut _ _ D.i2z.symm (s4.extBut _ _ D.TOz.symm (s3.extBut _ _ D.i1z.symm g2)))
    have m6 : ∀ c o, c ≠ z → c ≠ TO → c ≠ i1 → c ≠ i2 → s.heap.get? c = some o → h6.get? c = some o := fun c o n1 n2 n3 n4 e => s6.extBut _ _ n2 (s5.extBut _ _ n4 (s4.extBut _ _ n2 (s3.extBut _ _ n3 (s2.extBut _ _ n1 (m1 c o n1 e)))))
    have q1 : h6.IsTupleIter i1 l1 (k1 + 1) := ((p3.extBut s4.extBut D.TOi1.symm).extBut s5.extBut D.i12).extBut s6.extBut D.TOi1.symm
    have q2 : h6.IsListIter i2 l2 (k2 + 1) := p5.extBut s6.extBut D.TOi2.symm
    have zl : z < h6.objs.size := Heap.lt_size g6
    show wpAny _ _ (ownedTupleHandOut (Value.ref z) (Value.ref h6.objs.size) >>= _) _ _ _
    apply wpAny_bind
    unfold ownedTupleHandOut
    have g7 : ZAt (h6.push { cls := .type "tuple", data := .seq #[x, y] }) z TI TO .ellipsis f1 := Heap.get?_push_of_some _ g6
    apply wpAny_bind
    refine wpAny_setField_rec g7 (by simp) fun h8 g8 s8 => ?_
    replace g8 : ZAt h8 z TI TO (rawInt h6.objs.size) f1 := g8
    refine wpAny_setField_rec g8 (by simp) fun h9 g9 s9 => ?_
    replace g9 : ZAt h9 z TI TO (rawInt h6.objs.size) false := g9
    have up : ∀ c o, c ≠ z → h6.get? c = some o → h9.get? c = some o := fun c o n1 e => s9.extBut _ _ n1 (s8.extBut _ _ n1 (Heap.get?_push_of_some _ e))
    have new : IsPair h9 h6.objs.size x y := s9.extBut _ _ (Nat.ne_of_gt zl) (s8.extBut _ _ (Nat.ne_of_gt zl) (Heap.get?_push_size _ rfl))
    have len : h9.objs.size = h6.objs.size + 1 := by rw [s9.1, s8.1, Heap.size_push]
    refine wpAny_pure ⟨_, rfl, ?_⟩
    show Q (Value.ref h6.objs.size) _
    rw [n] at g9 new len ⊢
    exact q h9 _ false (.inr ⟨_, rfl⟩) g9 ⟨x, y, up _ _ D.TOz o6⟩ (q1.at fun o e => up _ o D.i1z e) (q2.at fun o e => up _ o D.i2z e) new len fun c o n1 n2 n3 n4 e => up c o n1 (m6 c o n1 n2 n3 n4 e)
/-- next(z), one of the two has come to its end -/
theorem zip_overM {Q : Fin → Shared → Prop} (hh : A.handled = none) (D : ZipApart z TI TO i1 i2 l1 l2) (g : ZAt s.heap z TI TO v f) (hv : Old v) (t1 : IsPair s.heap TI (.ref i1) (.ref i2)) (t2 : ∃ a b, IsPair s.heap TO a b)
    (j1 : s.heap.IsTupleIter i1 l1 k1) (j2 : s.heap.IsListIter i2 l2 k2) (c1 : s.heap.IsTuple l1 xs) (c2 : s.heap.IsList l2 ys) (ee : xs[k1]? = none ∨ ys[k2]? = none)
    (q : ∀ h' e, (∀ c o, c ≠ z → c ≠ TO → c ≠ i1 → c ≠ i2 → s.heap.get? c = some o → h'.get? c = some o) → (∃ o, h'.get? e = some o ∧ o.cls = .type "StopIteration") → E (.ref e) { s with heap := h' }) :
    wpAny (model prog w) A (Builtin.«zip.__next__» ⟨[Value.ref z], []⟩) Q E s := by
  obtain ⟨a, b, t2⟩ := t2
  show wpAny _ _ (field (Value.ref z) 2 >>= _) _ _ _
  apply wpAny_bind
  refine wpAny_field g rfl (x := Value.bool false) rfl ?_
  show wpAny _ _ (field (Value.ref z) 3 >>= _) _ _ _
  apply wpAny_bind
  refine wpAny_field g rfl (x := Value.ref TI) rfl ?_
  apply wpAny_bind
  apply wpAny_seqItems t1 rfl
  show wpAny _ _ (ownedTupleIsFree (Value.ref z) >>= _) _ _ _
  apply wpAny_bind
  refine zip_free g hv fun free h1 f1 g1 s1 => ?_
  have m1 : ∀ c o, c ≠ z → s.heap.get? c = some o → h1.get? c = some o := fun c o n e => s1.extBut _ _ n e
  cases free with
  | false =>
    simp only [Bool.false_eq_true, ite_false]
    apply wpAny_bind
    rw [← Array.forIn_toList]
    simp only [List.forIn_cons, List.forIn_nil]
    apply wpAny_bind
    apply wpAny_bind
    apply wpAny_holding
    show wpAny _ _ (nextOf (Value.ref i1) >>= _) _ _ _
    apply wpAny_bind
    cases ex : xs[k1]? with
    | none => exact nextOf_tuple_end (s := { s with heap := h1 }) hh (j1.extBut s1.extBut D.i1z) (c1.extBut s1.extBut D.l1z) ex fun h2 e s2 stop => q h2 e (fun c o n1 _ n3 _ k => s2 _ _ n3 (m1 c o n1 k)) stop
    | some x =>
      have ey : ys[k2]? = none := ee.resolve_left fun k => by rw [ex] at k; cases k
      refine nextOf_tuple_item (s := { s with heap := h1 }) (j1.extBut s1.extBut D.i1z) (c1.extBut s1.extBut D.l1z) ex fun h2 p2 s2 => wpAny_pure (wpAny_pure ?_)
      apply wpAny_bind
      apply wpAny_bind
      apply wpAny_holding
      show wpAny _ _ (nextOf (Value.ref i2) >>= _) _ _ _
      apply wpAny_bind
      exact wpAny_nextOf_list_end (s := { s with heap := h2 }) hh ((j2.extBut s1.extBut D.i2z).extBut s2.extBut D.i12.symm) ((c2.extBut s1.extBut D.l2z).extBut s2.extBut D.l2i1) ey fun h3 e s3 stop => q h3 e (fun c o n1 _ n3 n4 k => s3 _ _ n4 (s2.extBut _ _ n3 (m1 c o n1 k))) stop
  | true =>
    simp only [ite_true]
    apply wpAny_bind
    apply wpAny_rule
    apply wpAny_bind
    refine wpAny_field g1 rfl (x := Value.ref TO) rfl ?_
    apply wpAny_bind
    refine wpAny_setField_rec g1 (by simp) fun h2 g2 s2 => ?_
    replace g2 : ZAt h2 z TI TO .ellipsis f1 := g2
    apply wpAny_bind
    simp only [List.zipIdx_cons, List.zipIdx_nil, List.forIn_cons, List.forIn_nil]
    apply wpAny_bind
    apply wpAny_bind
    apply wpAny_onRaise
    show wpAny _ _ (nextOf (Value.ref i1) >>= _) _ _ _
    apply wpAny_bind
    have back : ∀ (h3 : Heap) (e : Addr), ZAt h3 z TI TO .ellipsis f1 → (∀ c o, c ≠ z → c ≠ TO → c ≠ i1 → c ≠ i2 → s.heap.get? c = some o → h3.get? c = some o) → (∃ o, h3.get? e = some o ∧ o.cls = .type "StopIteration") →
        wpAny (model prog w) A (setField (Value.ref z) 0 .none) (fun _ s' => E (.ref e) s') E { s with heap := h3 } := fun h3 e g3 m3 ⟨o, ho, hc⟩ => by
      have ne : e ≠ z := fun k => by
        rw [k, g3] at ho
        cases ho
        simp at hc
      exact wpAny_setField_rec (s := { s with heap := h3 }) g3 (by simp) fun h4 _ s4 => q h4 e (fun c o n1 n2 n3 n4 k => s4.extBut _ _ n1 (m3 c o n1 n2 n3 n4 k)) ⟨o, s4.extBut _ _ ne ho, hc⟩
    cases ex : xs[k1]? with
    | none => exact nextOf_tuple_end (s := { s with heap := h2 }) hh ((j1.extBut s1.extBut D.i1z).extBut s2.extBut D.i1z) ((c1.extBut s1.extBut D.l1z).extBut s2.extBut D.l1z) ex fun h3 e s3 stop => back h3 e (s3 _ _ D.i1z.symm g2) (fun c o n1 _ n3 _ k => s3 _ _ n3 (s2.extBut _ _ n1 (m1 c o n1 k))) stop
    | some x =>
      have ey : ys[k2]? = none := ee.resolve_left fun k => by rw [ex] at k; cases k
      refine nextOf_tuple_item (s := { s with heap := h2 }) ((j1.extBut s1.extBut D.i1z).extBut s2.extBut D.i1z) ((c1.extBut s1.extBut D.l1z).extBut s2.extBut D.l1z) ex fun h3 p3 s3 => wpAny_pure ?_
      have o3 : IsPair h3 TO a b := s3.extBut _ _ D.TOi1 (s2.extBut _ _ D.TOz (m1 _ _ D.TOz t2))
      apply wpAny_bind
      apply wpAny_seqItems o3 rfl
      apply wpAny_bind
      refine wpAny_updateSeq_pair o3 fun h4 o4 s4 => ?_
      apply wpAny_bind
      refine wpAny_letGo (wpAny_pure ?_)
      apply wpAny_bind
      apply wpAny_bind
      apply wpAny_onRaise
      show wpAny _ _ (nextOf (Value.ref i2) >>= _) _ _ _
      apply wpAny_bind
      exact wpAny_nextOf_list_end (s := { s with heap := h4 }) hh ((((j2.extBut s1.extBut D.i2z).extBut s2.extBut D.i2z).extBut s3.extBut D.i12.symm).extBut s4.extBut D.TOi2.symm) ((((c2.extBut s1.extBut D.l2z).extBut s2.extBut D.l2z).extBut s3.extBut D.l2i1).extBut s4.extBut D.l2TO) ey fun h5 e s5 stop =>
        back h5 e (s5 _ _ D.i2z.symm (s4.extBut _ _ D.TOz.symm (s3.extBut _ _ D.i1z.symm g2))) (fun c o n1 n2 n3 n4 k => s5 _ _ n4 (s4.extBut _ _ n2 (s3.extBut _ _ n3 (s2.extBut _ _ n1 (m1 c o n1 k))))) stop
theorem next_turnM {Q : Option Value → Shared → Prop} (D : ZipApart z TI TO i1 i2 l1 l2) (g : ZAt s.heap z TI TO v f) (hv : Old v) (t1 : IsPair s.heap TI (.ref i1) (.ref i2)) (t2 : ∃ a b, IsPair s.heap TO a b)
    (j1 : s.heap.IsTupleIter i1 l1 k1) (j2 : s.heap.IsListIter i2 l2 k2) (c1 : s.heap.IsTuple l1 xs) (c2 : s.heap.IsList l2 ys) (ex : xs[k1]? = some x) (ey : ys[k2]? = some y)
    (q : ∀ h' v' f', Old v' → ZAt h' z TI TO v' f' → (∃ a b, IsPair h' TO a b) → h'.IsTupleIter i1 l1 (k1 + 1) → h'.IsListIter i2 l2 (k2 + 1) → IsPair h' s.heap.objs.size x y → h'.objs.size = s.heap.objs.size + 1 →
      (∀ c o, c ≠ z → c ≠ TO → c ≠ i1 → c ≠ i2 → s.heap.get? c = some o → h'.get? c = some o) → Q (some (.ref s.heap.objs.size)) { s with heap := h' }) : wpAny (model prog w) A (pyNext (Value.ref z)) Q E s := by
  have ty : s.TypeIs (Value.ref z) "zip" := ⟨_, g, rfl⟩
  unfold pyNext
  apply wpAny_bind
  apply wpAny_attempt
  refine wpAny_callSpecial?_slot (name := Str.ofString "__next__") ty F.slot_zip_next ?_
  refine wpAny_call_entry F.slot_zip_next ty F.entry_zip_next ?_ (F.args_zip_next_1 _)
  exact zip_turnM D g hv t1 t2 j1 j2 c1 c2 ex ey fun h' v' f' b1 b2 b3 b4 b5 b6 b7 b8 => wpAny_pure (q h' v' f' b1 b2 b3 b4 b5 b6 b7 b8)
theorem next_overM {Q : Option Value → Shared → Prop} (hh : A.handled = none) (D : ZipApart z TI TO i1 i2 l1 l2) (g : ZAt s.heap z TI TO v f) (hv : Old v) (t1 : IsPair s.heap TI (.ref i1) (.ref i2)) (t2 : ∃ a b, IsPair s.heap TO a b)
    (j1 : s.heap.IsTupleIter i1 l1 k1) (j2 : s.heap.IsListIter i2 l2 k2) (c1 : s.heap.IsTuple l1 xs) (c2 : s.heap.IsList l2 ys) (ee : xs[k1]? = none ∨ ys[k2]? = none)
    (q : ∀ h', (∀ c o, c ≠ z → c ≠ TO → c ≠ i1 → c ≠ i2 → s.heap.get? c = some o → h'.get? c = some o) → Q none { s with heap := h' }) : wpAny (model prog w) A (pyNext (Value.ref z)) Q E s := by
  have ty : s.TypeIs (Value.ref z) "zip" := ⟨_, g, rfl⟩
  unfold pyNext
  apply wpAny_bind
  apply wpAny_attempt
  refine wpAny_callSpecial?_slot (name := Str.ofString "__next__") ty F.slot_zip_next ?_
  refine wpAny_call_entry F.slot_zip_next ty F.entry_zip_next ?_ (F.args_zip_next_1 _)
  refine zip_overM hh D g hv t1 t2 j1 j2 c1 c2 ee fun h' e kp ⟨o, ho, hc⟩ => ?_
  apply wpAny_bind
  refine wpAny_isInstance (T := "StopIteration") (b := true) ⟨o, ho, hc⟩ isSubtype_stop ?_
  exact wpAny_pure (q _ kp)
/-- the pair that a name pattern took apart is let go -/
theorem zip_letGo {Q : Unit → Shared → Prop} {elts : List Expr} {kk : Nat} {pos : Pos} {T : Addr} (g : ZAt s.heap z TI TO v f) (hv : Old v)
    (q : ∀ h' v', Old v' → ZAt h' z TI TO v' f → Heap.SameBut z s.heap h' → Q () { s with heap := h' }) :
    wpAny (model prog w) A (letOwnedTupleGo (.Tuple elts kk pos) (.ref z) (.ref T)) Q E s := by
  unfold letOwnedTupleGo
  apply wpAny_bind
  refine wpAny_load g ?_
  dsimp only
  split
  · apply wpAny_bind
    apply wpAny_rule
    exact wpAny_setField_rec g (by simp) fun h' g' same => q h' .none (.inl rfl) g' same
  · exact wpAny_pure (q s.heap v hv g (Heap.SameBut.refl _ _))
end
/-- the tuple at a and the list at b as they stand at each turn, the items in new pairs -/
def ItzM (K : PySem.W.Frag) (a b : Addr) : It where
  go i H := ∃ (xs ys : List V) (x y : V), SqT K H a xs ∧ SqL K H b ys ∧ xs[i]? = some x ∧ ys[i]? = some y
  yld i H v H' := ∃ T x y, v = .ref T ∧ H T = none ∧ H' = upd H T (.tup [x, y]) ∧ (∀ xs, SqT K H a xs → xs[i]? = some x) ∧ ∀ ys, SqL K H b ys → ys[i]? = some y
  stop i H := ∃ xs ys : List V, SqT K H a xs ∧ SqL K H b ys ∧ (xs.length ≤ i ∨ ys.length ≤ i)
/-- the state of such a zip -/
def ZStM (a b z TI TO i1 i2 : Addr) (i : Nat) (h : Heap) : Prop := (∃ v f, Old v ∧ ZAt h z TI TO v f) ∧ IsPair h TI (.ref i1) (.ref i2) ∧ (∃ x y, IsPair h TO x y) ∧ h.IsTupleIter i1 a i ∧ h.IsListIter i2 b i
theorem of5 {c z TI TO i1 i2 : Addr} (h : c ∈ [z, TI, TO, i1, i2]) : c = z ∨ c = TI ∨ c = TO ∨ c = i1 ∨ c = i2 := by simpa using h
theorem turn_zipM {P : Program} {w : World} {K : PySem.W.Frag} {elts : List Expr} {kk : Nat} {tpos : Pos} {a b z TI TO i1 i2 : Addr} (D : ZipApart z TI TO i1 i2 a b) : Turn P w K (.Tuple elts kk tpos) (ItzM K a b) [z, TI, TO, i1, i2] z (ZStM a b z TI TO i1 i2) where
  mem := List.mem_cons_self
  obj := by
    rintro i h ⟨⟨v, f, _, g⟩, t1, ⟨x, y, t2⟩, ⟨o1, e1, _, d1⟩, o2, e2, _, d2⟩ c hc
    rcases of5 hc with rfl | rfl | rfl | rfl | rfl
    · exact ⟨_, g, fun v q => nomatch q⟩
    · exact ⟨_, t1, fun v q => nomatch q⟩
    · exact ⟨_, t2, fun v q => nomatch q⟩
    · exact ⟨o1, e1, fun v q => by rw [d1] at q; cases q⟩
    · exact ⟨o2, e2, fun v q => by rw [d2] at q; cases q⟩
  keep := by
    rintro i h h' ⟨⟨v, f, hv, g⟩, t1, ⟨x, y, t2⟩, j1, j2⟩ k
    exact ⟨⟨v, f, hv, k z (by simp) _ g⟩, k TI (by simp) _ t1, ⟨x, y, k TO (by simp) _ t2⟩, j1.at fun o q => k i1 (by simp) o q, j2.at fun o q => k i2 (by simp) o q⟩
  item := by
    rintro X rfl rfl rfl hc i pins s σ H E I hf ⟨⟨v, f, hv, g⟩, t1, t2, j1, j2⟩ ⟨xs, ys, x, y, sx, sy, ex, ey⟩
    obtain ⟨us, rx, px, _⟩ := I.tuple sx
    obtain ⟨ws, ry, py, _⟩ := I.list sy
    obtain ⟨u, eu, ru⟩ := rx.get ex
    obtain ⟨u', eu', ru'⟩ := ry.get ey
    refine next_turnM D g hv t1 t2 j1 j2 (show s.heap.IsTuple a us.toArray from px) (show s.heap.IsList b ws.toArray from py.isList) (x := u) (y := u') (by simpa using eu) (by simpa using eu') fun h1 v1 f1 hv1 g1 t21 j11 j21 new1 len1 kp1 => ⟨_, rfl, ?_⟩
    refine zip_letGo (s := { s with heap := h1 }) g1 hv1 fun h' v' hv' g' sb => ?_
    have zl : z < s.heap.objs.size := Heap.lt_size g
    have kp : ∀ c o, c ≠ z → c ≠ TO → c ≠ i1 → c ≠ i2 → s.heap.get? c = some o → h'.get? c = some o := fun c o n1 n2 n3 n4 e => sb.extBut _ _ n1 (kp1 c o n1 n2 n3 n4 e)
    have new : IsPair h' s.heap.objs.size u u' := sb.extBut _ _ (Nat.ne_of_gt zl) new1
    have ok : ObjOk X.prog X.w (upd H s.heap.objs.size (.tup [x, y])) h' s.heap.objs.size (.tup [x, y]) := ⟨(by decide : 2 ≤ sizeLine), [u, u'], .cons ru (.cons ru' .nil), ⟨_, new, rfl, _, rfl⟩⟩
    have off : ∀ c o, c ∉ [z, TI, TO, i1, i2] → s.heap.get? c = some o → h'.get? c = some o := fun c o n e => kp c o (fun q => n (by simp [q])) (fun q => n (by simp [q])) (fun q => n (by simp [q])) (fun q => n (by simp [q])) e
    have I' : Inv X pins σ (upd H s.heap.objs.size (.tup [x, y])) { s with heap := h' } := I.turnedNew (t' := s.toks) (ch := [z, TI, TO, i1, i2]) off hf (Nat.le_refl _) ok
    have young : ∀ c, c ∈ [z, TI, TO, i1, i2] → c < s.heap.objs.size := by
      obtain ⟨x0, y0, t2⟩ := t2
      obtain ⟨_, e1, _⟩ := j1
      obtain ⟨_, e2, _⟩ := j2
      intro c hc
      rcases of5 hc with rfl | rfl | rfl | rfl | rfl
      · exact Heap.lt_size g
      · exact Heap.lt_size t1
      · exact Heap.lt_size t2
      · exact Heap.lt_size e1
      · exact Heap.lt_size e2
    obtain ⟨x2, y2, t22⟩ := t21
    refine ⟨.ref s.heap.objs.size, _, I', rfl, ⟨_, x, y, rfl, I.hok.fresh (Nat.le_refl _), rfl, fun l hl => ?_, fun l hl => ?_⟩, ⟨⟨v', f1, hv', g'⟩, kp _ _ D.TIz D.TITO D.TIi1 D.TIi2 t1, ⟨x2, y2, sb.extBut _ _ D.TOz t22⟩, j11.extBut sb.extBut D.i1z, j21.extBut sb.extBut D.i2z⟩, fun c hc => ?_⟩
    · rw [I.tuple_inj hl sx]
      exact ex
    · rw [I.list_inj hl sy]
      exact ey
    · rw [upd_ne (Nat.ne_of_lt (young c hc))]
      exact (hf c hc).1
  done := by
    rintro X rfl rfl rfl hc i pins s σ H E I hf ⟨⟨v, f, hv, g⟩, t1, t2, j1, j2⟩ ⟨xs, ys, sx, sy, he⟩
    obtain ⟨us, rx, px, _⟩ := I.tuple sx
    obtain ⟨ws, ry, py, _⟩ := I.list sy
    have n1 := rx.length
    have n2 := ry.length
    refine next_overM (I.ok.hd hc) D g hv t1 t2 j1 j2 (show s.heap.IsTuple a us.toArray from px) (show s.heap.IsList b ws.toArray from py.isList) ?_ fun h' kp => ⟨rfl, I.turnedL (t' := s.toks) (ch := [z, TI, TO, i1, i2]) (fun c o n e => kp c o (fun q => n (by simp [q])) (fun q => n (by simp [q])) (fun q => n (by simp [q])) (fun q => n (by simp [q])) e) hf⟩
    rcases he with q | q
    · exact .inl (by simp; omega)
    · exact .inr (by simp; omega)
  self := by
    rintro A i s Q E ⟨⟨v, f, _, g⟩, _⟩ h
    have ty : s.TypeIs (Value.ref z) "zip" := ⟨_, g, rfl⟩
    refine wpAny_pyIter_slot ty F.slot_zip_iter ?_
    refine wpAny_call_entry F.slot_zip_iter ty F.entry_zip_iter ?_ (F.args_zip_iter_1 _)
    show wpAny _ _ (ret (Value.ref z)) _ _ s
    exact wpAny_pure ⟨_, rfl, "zip", _, ty, F.slot_zip_next.lookup, h⟩
/-- what zip(t, l) makes, its objects one after another -/
def zObjs (n a b : Addr) : List Obj := [{ cls := .type "tuple_iterator", data := .fields #[.ref a, .int 0 0] }, { cls := .type "list_iterator", data := .fields #[.ref b, .int 0 0] },
  { cls := .type "tuple", data := .seq #[.ref n, .ref (n + 1)] }, { cls := .type "tuple", data := .seq #[.none, .none] }, { cls := .type "zip", data := .fields #[.none, .bool false, .bool false, .ref (n + 2), .ref (n + 3)] }]
theorem pushes_keep (c : Addr) (o : Obj) (os : List Obj) : ∀ h : Heap, h.get? c = some o → (os.foldl Heap.push h).get? c = some o := by
  induction os with
  | nil => exact fun h e => e
  | cons p os ih => exact fun h e => ih _ (Heap.get?_push_of_some _ e)
theorem pushes_get (o : Obj) (hf : o.isFreed = false) (os : List Obj) : ∀ (i : Nat) (h : Heap), os[i]? = some o → (os.foldl Heap.push h).get? (h.objs.size + i) = some o := by
  induction os with
  | nil => exact fun i h e => by simp at e
  | cons p os ih =>
    intro i h e
    cases i with
    | zero =>
      have e : p = o := by simpa using e
      subst e
      exact pushes_keep _ p os (h.push p) (Heap.get?_push_size h hf)
    | succ i =>
      have := ih i (h.push p) (by simpa using e)
      rw [Heap.size_push] at this
      rw [show h.objs.size + (i + 1) = h.objs.size + 1 + i by omega]
      exact this
theorem meets_zipM (a b : Addr) (xs ys : Array Value) :
    Meets (Builtin.«zip.__new__» ⟨[.type "zip", .ref a, .ref b], []⟩) fun _ R s => s.heap.IsTuple a xs ∧ s.heap.IsList b ys ∧
      R (.ok (.ret (.ref (s.heap.objs.size + 4)))) { s with heap := (zObjs s.heap.objs.size a b).foldl Heap.push s.heap } := by
  apply Meets.of_wp
  rintro prog w A R ⟨h, g, d, tk, os⟩ ⟨c1, c2, q⟩
  have sub := sub_zip
  have d1 : Heap.IsTuple (Shared.heap ⟨h, g, d, tk, os⟩) a xs := c1
  have d2 : Heap.IsList (Shared.heap ⟨h.push { cls := .type "tuple_iterator", data := .fields #[.ref a, .int 0 0] }, g, d, tk, os⟩) b ys := c2.at fun o e => Heap.get?_push_of_some _ e
  simp only [zObjs, List.foldl_cons, List.foldl_nil] at q
  wp_walk using wpAny_pyIter_tuple d1, wpAny_pyIter_list d2
  simp only [Heap.size_push, Nat.add_assoc, Nat.reduceAdd]
  exact ⟨_, rfl, q⟩
section
variable {prog : Program} {w : World} {A : Around} {E : Value → Shared → Prop} {s : Shared}
theorem call_zipM {a b : Addr} {xs ys : Array Value} {Q : Value → Shared → Prop} (c1 : s.heap.IsTuple a xs) (c2 : s.heap.IsList b ys)
    (q : ∀ h', ZStM a b (s.heap.objs.size + 4) (s.heap.objs.size + 2) (s.heap.objs.size + 3) s.heap.objs.size (s.heap.objs.size + 1) 0 h' → (∀ c o, s.heap.get? c = some o → h'.get? c = some o) → Q (.ref (s.heap.objs.size + 4)) { s with heap := h' }) :
    wpAny (model prog w) A (call (.type "zip") [.ref a, .ref b]) Q E s := by
  have at' : ∀ i o, (zObjs s.heap.objs.size a b)[i]? = some o → o.isFreed = false → ((zObjs s.heap.objs.size a b).foldl Heap.push s.heap).get? (s.heap.objs.size + i) = some o := fun i o e hf => pushes_get o hf _ i _ e
  have g4 := at' 4 _ rfl rfl
  refine callType_new F.called_zip (by decide) (F.typeCall_zip_2 _ _) (F.newCall_zip_2 _ _) (fun obj => F.args_object_init_3 obj _ _) F.entry_zip_new (meets_zipM a b xs ys) ⟨c1, c2, ?_⟩
  refine ⟨⟨_, g4, rfl⟩, q _ ⟨⟨.none, false, .inl rfl, g4⟩, at' 2 _ rfl rfl, ⟨_, _, at' 3 _ rfl rfl⟩, ⟨_, at' 0 _ rfl rfl, rfl, rfl⟩, ⟨_, at' 1 _ rfl rfl, rfl, rfl⟩⟩ fun c o => pushes_keep c o _ _⟩
end
def iZipTM (K : PySem.W.Frag) (ta : TA) : TI := fun σ H R => ta σ H fun vs H1 => ∃ a b xs ys, vs = [.ref a, .ref b] ∧ SqT K H1 a xs ∧ SqL K H1 b ys ∧ R (ItzM K a b) H1
theorem pi_zipM {X : Cx} {e e2 : Expr} {ta : TA} {p pos tpos : Pos} {elts : List Expr} {kk : Nat} (hg : Gl X "zip") (hm : X.mg "zip" = none) (ha : PA X [e, e2] ta)
    (hs : starEach [e, e2] X.env = (false, eval e X.env) :: starEach [e2] X.env := by rfl) (hpl : (backTo pos (starEach [e2] X.env)).any (·.1) = false := by rfl) :
    PI X (.Tuple elts kk tpos) (.Call (.Name "zip" p) [e, e2] [] pos) (iZipTM X.K ta) := by
  constructor
  intro pins s σ H R I h
  refine Call_ (ld_blt I hg hm PyProof.Rows.boot_zip ?_)
  refine PyProof.Rows.callWith_type1 (thn (ha.run pos pins s σ H _ I h) fun us s1 ⟨vs, H1, I1, r1, a, b, xs, ys, ev, sx, sy, q⟩ => ?_) hs hpl
  subst ev
  obtain ⟨u, u', rfl, ru, ru'⟩ := Vals.two r1
  cases ru
  cases ru'
  obtain ⟨its, _, px, _⟩ := I1.tuple sx
  obtain ⟨jts, _, py, _⟩ := I1.list sy
  have free : ∀ c, s1.heap.objs.size ≤ c → FpOk X pins H1 c := fun c hc => I1.fpOk hc (I1.hok.fresh hc)
  refine call_zipM (show s1.heap.IsTuple a its.toArray from px) (show s1.heap.IsList b jts.toArray from py.isList) fun h' st kp => ?_
  obtain ⟨⟨v, f, _, g⟩, _⟩ := id st
  have ty : Shared.TypeIs { s1 with heap := h' } (Value.ref (s1.heap.objs.size + 4)) "zip" := ⟨_, g, rfl⟩
  refine wpAny_pyIter_slot ty F.slot_zip_iter ?_
  refine wpAny_call_entry F.slot_zip_iter ty F.entry_zip_iter ?_ (F.args_zip_iter_1 _)
  show wpAny _ _ (ret (Value.ref (s1.heap.objs.size + 4))) _ _ _
  refine wpAny_pure ⟨_, rfl, "zip", _, ty, F.slot_zip_next.lookup, ?_⟩
  have la : a < s1.heap.objs.size := let ⟨_, e, _⟩ := px; Heap.lt_size e
  have lb : b < s1.heap.objs.size := py.lt
  refine ⟨s1.heap.objs.size + 4, [s1.heap.objs.size + 4, s1.heap.objs.size + 2, s1.heap.objs.size + 3, s1.heap.objs.size, s1.heap.objs.size + 1], ZStM a b _ _ _ _ _, _, H1, rfl, I1.kept (t' := s1.toks) kp, turn_zipM (PySem.W.ktu_apart s1.heap.objs.size a b la lb), st, fun c hc => ?_, q⟩
  rcases of5 hc with rfl | rfl | rfl | rfl | rfl
  · exact free _ (Nat.le_add_right _ _)
  · exact free _ (Nat.le_add_right _ _)
  · exact free _ (Nat.le_add_right _ _)
  · exact free _ (Nat.le_refl _)
  · exact free _ (Nat.le_add_right _ _)
end Fx
/-! for i, x in enumerate(t), t a tuple -/
namespace Rw
open PySem PySem.Spec PyProof.Rows L2
open Builtin
theorem enumNew {v : Value} {o : Obj} {G : Heap → Prop} (B : Begins v o G) :
    Meets (Builtin.«enumerate.__new__» ⟨[.type "enumerate", v], []⟩) (fun _ R s =>
      G s.heap ∧ R (.ok (.ret (.ref (s.heap.objs.size + 1))))
        { s with heap := (s.heap.push o).push ⟨.type "enumerate", none, .fields #[.none, .bool false, .ref s.heap.objs.size, rawInt 0, .none, .none], #[]⟩ }) :=
  .of_wp fun prog w A R s both => by
    obtain ⟨hp, g, d, tk, os⟩ := s
    obtain ⟨hg, both⟩ := both
    have isub := sub_enumerate
    have sz : (hp.push o).objs.size = hp.objs.size + 1 := Heap.size_push ..
    have it1 : ∀ {A' : Around} {E : Value → Shared → Prop} {Q : Value → Shared → Prop},
        Q (.ref hp.objs.size) ⟨hp.push o, g, d, tk, os⟩ → wpAny (model prog w) A' (pyIter v) Q E ⟨hp, g, d, tk, os⟩ :=
      fun q => B.iter prog w _ _ ⟨hp, g, d, tk, os⟩ _ hg q
    wp_walk using it1
    refine wpAny_stack_any fun st => wpAny_pure ?_
    split
    · rename_i c _ _ _ _ _
      cases (c == Value.type "enumerate") <;> (wp_walk using it1; exact ⟨_, rfl, by rw [sz]; exact both⟩)
    · wp_walk using it1
      exact ⟨_, rfl, by rw [sz]; exact both⟩
theorem enumCall {prog : Program} {w : World} {A : Around} {E : Value → Shared → Prop} {s : Shared}
    {v : Value} {o : Obj} {G : Heap → Prop} {Q : Value → Shared → Prop} (B : Begins v o G) (hg : G s.heap)
    (h : ∀ h', IsEnum h' (s.heap.objs.size + 1) s.heap.objs.size 0 .none → h'.get? s.heap.objs.size = some o →
      (∀ b ob, s.heap.get? b = some ob → h'.get? b = some ob) → Q (.ref (s.heap.objs.size + 1)) { s with heap := h' }) :
    wpAny (model prog w) A (call (.type "enumerate") [v]) Q E s := by
  have sz : (s.heap.push o).objs.size = s.heap.objs.size + 1 := Heap.size_push ..
  have at1 : IsEnum ((s.heap.push o).push ⟨.type "enumerate", none, .fields #[.none, .bool false, .ref s.heap.objs.size, rawInt 0, .none, .none], #[]⟩)
      (s.heap.objs.size + 1) s.heap.objs.size 0 .none := by
    have z := Heap.get?_push_size (s.heap.push o) (o := ⟨.type "enumerate", none, .fields #[.none, .bool false, .ref s.heap.objs.size, rawInt 0, .none, .none], #[]⟩) rfl
    rw [sz] at z
    exact z
  refine callType_new F.called_enumerate (by decide) (F.typeCall_enumerate_1 _) (F.newCall_enumerate_1 _) (fun obj => F.args_object_init_2 obj _)
    F.entry_enumerate_new (enumNew B) ⟨hg, ⟨_, at1, rfl⟩, h _ at1 ?_ ?_⟩
  · exact Heap.get?_push_of_some _ (Heap.get?_push_size _ B.free)
  · exact fun b ob x => Heap.get?_push_of_some _ (Heap.get?_push_of_some _ x)
/-- the tuple at a, each item in a new pair with its place -/
def ItE (K : PySem.W.Frag) (a : Addr) : It where
  go := fun i H => ∃ xs x, SqT K H a xs ∧ xs[i]? = some x
  yld := fun i H v H' => ∃ T x, v = .ref T ∧ H T = none ∧ H' = upd H T (.tup [.int (i : Nat), x]) ∧ ∀ xs, SqT K H a xs → xs[i]? = some x
  stop := fun i H => ∃ xs : List V, SqT K H a xs ∧ xs.length = i
theorem turnE {P : Program} {w : World} {K : PySem.W.Frag} {elts : List Expr} {kk : Nat} {tpos : Pos} (a e it : Addr) (hai : a ≠ it) (hea : e ≠ a) :
    Turn P w K (.Tuple elts kk tpos) (ItE K a) [e, it] e
      (fun i h => (∃ old, IsEnum h e it ((i : Nat) : Int) old) ∧ h.IsTupleIter it a i ∧ e ≠ it) where
  mem := List.mem_cons_self
  obj := by
    rintro i h ⟨⟨old, he⟩, ⟨o, ho, _, hd⟩, _⟩ b hb
    rcases List.mem_cons.mp hb with rfl | hb
    · exact ⟨_, he, fun v q => nomatch q⟩
    · obtain rfl := List.mem_singleton.mp hb
      exact ⟨o, ho, fun v q => by rw [hd] at q; cases q⟩
  keep := by
    rintro i h h' ⟨⟨old, he⟩, hi, hne⟩ k
    exact ⟨⟨old, k e List.mem_cons_self _ he⟩, hi.at fun o q => k it (List.mem_cons_of_mem _ List.mem_cons_self) o q, hne⟩
  item := by
    rintro X rfl rfl rfl hc i pins s σ H E I hf ⟨⟨old, he⟩, hit, hne⟩ ⟨xs, x, hq, hx⟩
    obtain ⟨its, rv, p, hz⟩ := I.tuple hq
    obtain ⟨u, hu, ru⟩ := rv.get hx
    have hel : e < s.heap.objs.size := Heap.lt_size he
    have hil : it < s.heap.objs.size := by
      obtain ⟨_, q, _⟩ := hit
      exact Heap.lt_size q
    have hlt : i < its.toArray.size := by
      have := (List.getElem?_eq_some_iff.mp hu).1
      simpa using this
    have D := Draws.tuple (prog := X.prog) (w := X.w) (A := X.A.in1) (I.ok.hd hc) it a hai its.toArray
    refine wpAny_pyNext_enum_itemD D he ⟨hit, p⟩ hlt hne (by simp [hne, hea]) fun y h' tk hy ho hit' hT hsz hk => ?_
    have yu : y = u := by
      have hy' : its[i]? = some y := by simpa using hy
      rw [hu] at hy'
      exact (Option.some.inj hy').symm
    subst yu
    refine ⟨_, rfl, wpAny_letOwnedTupleGo_enum (s := { s with heap := h', toks := tk + 1 }) ho fun h'' he' sb => ?_⟩
    have hT2 : h''.get? s.heap.objs.size = some { cls := .type "tuple", data := .seq #[.int i tk, y] } := (sb.2 _ (Nat.ne_of_gt hel)).trans hT
    have new : ObjOk X.prog X.w (upd H s.heap.objs.size (.tup [.int (i : Nat), x])) h'' s.heap.objs.size (.tup [.int (i : Nat), x]) :=
      ⟨(by decide : 2 ≤ sizeLine), [.int i tk, y], .cons ⟨_, rfl⟩ (.cons ru .nil), ⟨_, hT2, rfl, _, rfl⟩⟩
    have nin : ∀ b, b ∉ [e, it] → b ≠ e ∧ b ≠ it := fun b hb => ⟨fun z => hb (z ▸ List.mem_cons_self), fun z => hb (z ▸ List.mem_cons_of_mem _ List.mem_cons_self)⟩
    have I1 : Inv X pins σ (upd H s.heap.objs.size (.tup [.int (i : Nat), x])) { s with heap := h'', toks := tk + 1 } :=
      I.turnedNew (ch := [e, it]) (fun b ob hb q => (sb.2 b (nin b hb).1).trans (hk b ob (nin b hb).1 (nin b hb).2 q)) hf (Nat.le_refl _) new
    refine ⟨.ref s.heap.objs.size, _, I1, rfl, ⟨_, x, rfl, I.hok.fresh (Nat.le_refl _), rfl, fun ys hy2 => by rw [I.tuple_inj hy2 hq]; exact hx⟩, ⟨⟨y, ?_⟩, hit'.1.at fun o q => (sb.2 it (Ne.symm hne)).trans q, hne⟩, fun b hb => ?_⟩
    · have e1 : ((i + 1 : Nat) : Int) = (i : Int) + 1 := by omega
      rw [e1]
      exact he'
    · have hb' : b < s.heap.objs.size := by
        rcases List.mem_cons.mp hb with rfl | hb
        · exact hel
        · obtain rfl := List.mem_singleton.mp hb
          exact hil
      rw [upd_ne (Nat.ne_of_lt hb')]
      exact (hf b hb).1
  done := by
    rintro X rfl rfl rfl hc i pins s σ H E I hf ⟨⟨old, he⟩, hit, hne⟩ ⟨xs, hq, hx⟩
    obtain ⟨its, rv, p, hz⟩ := I.tuple hq
    have D := Draws.tuple (prog := X.prog) (w := X.w) (A := X.A.in1) (I.ok.hd hc) it a hai its.toArray
    obtain ⟨f0, f1, f2, f3, f4, f5⟩ := hf it (List.mem_cons_of_mem _ List.mem_cons_self)
    have hl := rv.length
    have e1 : i = its.toArray.size := by simp only [List.size_toArray]; omega
    refine wpAny_pyNext_enum_endD D he (e1 ▸ ⟨hit, p⟩) fun h' eb => ⟨rfl, I.turned (t' := s.toks) (fun b o hb q => eb b o hb q) f0 f1 f3 f4 f5⟩
  self := by
    rintro A i s Q E ⟨⟨_, he⟩, _⟩ h
    exact wpAny_pyIter_enum he h
def iEnumT (K : PySem.W.Frag) (ta : TA) : TI := fun σ H R => ta σ H fun vs H1 => ∃ a xs, vs = [.ref a] ∧ SqT K H1 a xs ∧ R (ItE K a) H1
theorem pi_enumT {X : Cx} {e : Expr} {ta : TA} {p pos tpos : Pos} {elts : List Expr} {kk : Nat} (hg : Gl X "enumerate") (hm : X.mg "enumerate" = none) (ha : PA X [e] ta)
    (hs : starEach [e] X.env = [(false, eval e X.env)] := by rfl) : PI X (.Tuple elts kk tpos) (.Call (.Name "enumerate" p) [e] [] pos) (iEnumT X.K ta) := by
  refine ⟨fun pins s σ H R I h => ?_⟩
  refine Call_ (ld_blt I hg hm boot_enumerate (PyProof.Rows.callWith_type1 (thn (ha.run pos pins s σ H _ I h) ?_) hs rfl))
  rintro us s1 ⟨vs, H1, I1, r1, a, xs, rfl, hq, q⟩
  obtain ⟨u, rfl, ru⟩ := vals1 r1
  cases ru
  obtain ⟨its, rv, p', hz⟩ := I1.tuple hq
  have hal : a < s1.heap.objs.size := by
    obtain ⟨_, q, _⟩ := p'
    exact Heap.lt_size q
  refine enumCall (begins_tuple a its.toArray) p' fun h' he hit hk => wpAny_pyIter_enum he ?_
  have I2 : Inv X pins σ H1 { s1 with heap := h' } := I1.kept (t' := s1.toks) hk
  refine ⟨s1.heap.objs.size + 1, [s1.heap.objs.size + 1, s1.heap.objs.size], _, _, H1, rfl, I2,
    turnE a (s1.heap.objs.size + 1) s1.heap.objs.size (Nat.ne_of_lt hal) (Nat.ne_of_gt (Nat.lt_succ_of_lt hal)),
    ⟨⟨.none, he⟩, ⟨_, hit, rfl, rfl⟩, Nat.succ_ne_self _⟩, fun b hb => ?_, q⟩
  have hle : s1.heap.objs.size ≤ b := by
    rcases List.mem_cons.mp hb with rfl | hb
    · exact Nat.le_succ _
    · exact Nat.le_of_eq (List.mem_singleton.mp hb).symm
  exact I1.fpOk hle (I1.hok.fresh hle)
end Rw
/-! what is walked, comprehensions -/
namespace Fx
open PySem PySem.Spec PyProof.Rows L2
section
variable {X : Cx} {tg e : Expr} {w1 w2 : TI}
theorem PI.or (h1 : PI X tg e w1) (h2 : PI X tg e w2) : PI X tg e (fun σ H R => w1 σ H R ∨ w2 σ H R) :=
  ⟨fun pins s σ H R I h => h.elim (h1.run pins s σ H R I) (h2.run pins s σ H R I)⟩
end
def iSeqT (K : PySem.W.Frag) (tl : TE) : TI := fun σ H R => iList K tl σ H R ∨ iTup K tl σ H R
def iEnumG (K : PySem.W.Frag) (ta : TA) : TI := fun σ H R => iEnum K ta σ H R ∨ Rw.iEnumT K ta σ H R
section
variable {c : Cfg} {W : WX} {B : Base} {ts : En} {vs : List (Option V)} {ρ : En} {σ : L2.St} {H : Hp} {te : TE} {fe : M S} {tA : TA} {fA : M (List D)}
/-- the first that waits, opened, still waiting -/
theorem Rep.top {x : D} {v : V} (r : Rep c B (some (.d x) :: ts) (some v :: vs) ρ σ H) : ∃ G, Opn c B (some (.d x) :: ts) (some v :: vs) ρ σ H G ∧ Rp c G v x := by
  obtain ⟨G, o1, o2, k, h1, h2⟩ := id r
  cases h1 with
  | d hv h1 =>
    refine ⟨G, ⟨k.sub, fun hv' => ⟨G, o1, o2, k, .d hv' (.d hv h1), h2⟩, fun {p o x} hp ho hx => ?_, fun {p o x} hp hx => ?_⟩, hv⟩
    · have gp := k.gnone hp
      have ow := own_new (o := o) k hp
      exact ⟨upd G p o, o1, o2, k.alloc hp ho, .d (hx _ (upd_sub gp) upd_same) (.d (hv.mono (upd_sub gp)) (h1.mono (upd_sub gp) fun q hq => ow q (List.mem_append_left _ hq))), h2.mono (upd_sub gp) fun q hq => ow q (List.mem_append_right _ hq)⟩
    · have ow := own_new (o := o) k hp
      exact ⟨G, p :: o1, o2, k.allocO hp, .o (hx _ upd_same) (fun _ e => nomatch e) (.d hv (h1.mono (fun _ _ e => e) fun q hq => ow q (List.mem_append_left _ hq))), h2.mono (fun _ _ e => e) fun q hq => ow q (List.mem_append_right _ hq)⟩
theorem Rep.top2 {x y : D} {v w : V} (r : Rep c B (some (.d y) :: some (.d x) :: ts) (some w :: some v :: vs) ρ σ H) : ∃ G, Opn c B (some (.d y) :: some (.d x) :: ts) (some w :: some v :: vs) ρ σ H G ∧ Rp c G v x ∧ Rp c G w y := by
  obtain ⟨G, o1, o2, k, h1, h2⟩ := id r
  cases h1 with
  | d hw h1 =>
    cases h1 with
    | d hv h1 =>
      refine ⟨G, ⟨k.sub, fun hv' => ⟨G, o1, o2, k, .d hv' (.d hw (.d hv h1)), h2⟩, fun {p o x} hp ho hx => ?_, fun {p o x} hp hx => ?_⟩, hv, hw⟩
      · have gp := k.gnone hp
        have ow := own_new (o := o) k hp
        exact ⟨upd G p o, o1, o2, k.alloc hp ho, .d (hx _ (upd_sub gp) upd_same) (.d (hw.mono (upd_sub gp)) (.d (hv.mono (upd_sub gp)) (h1.mono (upd_sub gp) fun q hq => ow q (List.mem_append_left _ hq)))), h2.mono (upd_sub gp) fun q hq => ow q (List.mem_append_right _ hq)⟩
      · have ow := own_new (o := o) k hp
        exact ⟨G, p :: o1, o2, k.allocO hp, .o (hx _ upd_same) (fun _ e => nomatch e) (.d hw (.d hv (h1.mono (fun _ _ e => e) fun q hq => ow q (List.mem_append_left _ hq)))), h2.mono (fun _ _ e => e) fun q hq => ow q (List.mem_append_right _ hq)⟩
/-- how a list, a tuple is read -/
def SqI (K : PySem.W.Frag) (l : Bool) (H : Hp) (a : Addr) (us : List V) : Prop := if l then SqL K H a us else SqT K H a us
def isLst : D → Bool
  | .lst _ => true
  | _ => false
theorem Rp.seq {G H : Hp} {v : V} {x : D} {ds : List D} (s : ∀ a o, G a = some o → H a = some o) (h : Rp c G v x) (e : itemsD x = some ds) : ∃ a us, v = .ref a ∧ SqI c.K (isLst x) H a us ∧ RpAll c G us ds := by
  cases x <;> first | cases e | skip
  · obtain ⟨a, us, rfl, ha, k⟩ := h.tupE
    exact ⟨a, us, rfl, SqT.up s ha, k⟩
  · obtain ⟨a, us, rfl, ha, k⟩ := h.lstE
    exact ⟨a, us, rfl, SqL.of (s _ _ ha), k⟩
/-- one whose items are ds, at a -/
def SrcAt (c : Cfg) (l : Bool) (n : Nat) (a : Addr) (H : Hp) : Prop := ∃ us, SqI c.K l H a us ∧ us.length = n
theorem src_of {x : D} {a : Addr} {ds : List D} (e : itemsD x = some ds) (r : Rep c B (some (.d x) :: ts) (some (.ref a) :: vs) ρ σ H) : SrcAt c (isLst x) ds.length a H := by
  obtain ⟨G, O, h⟩ := r.top
  obtain ⟨a', us, e1, h1, k⟩ := h.seq O.sub e
  cases e1
  exact ⟨us, h1, k.length⟩
/-- the turn's item, by any reading of the source -/
def TurnAt (c : Cfg) (l : Bool) (a : Addr) (k : Nat) (H : Hp) (x : V) : Prop := ∀ us, SqI c.K l H a us → us[k]? = some x
theorem turn_val {x : D} {a : Addr} {ds : List D} {k : Nat} {v : V} (e : itemsD x = some ds) (hk : k < ds.length) (r : Rep c B (some (.d x) :: ts) (some (.ref a) :: vs) ρ σ H) (t : TurnAt c (isLst x) a k H v) :
    ∃ d, ds[k]? = some d ∧ Rep c B (some (.d d) :: some (.d x) :: ts) (some v :: some (.ref a) :: vs) ρ σ H := by
  obtain ⟨G, O, h⟩ := r.top
  obtain ⟨a', us, e1, h1, kk⟩ := h.seq O.sub e
  cases e1
  obtain ⟨d, ed, hd⟩ := kk.getV (t us h1)
  exact ⟨d, ed, O.val hd⟩
theorem walk_seq {x : D} {a : Addr} {ds : List D} {J : It} (e : itemsD x = some ds) (hgo : ∀ i H, (∃ us y, SqI c.K (isLst x) H a us ∧ us[i]? = some y) → J.go i H) (hst : ∀ i H, (∃ us, SqI c.K (isLst x) H a us ∧ us.length = i) → J.stop i H)
    (hy : ∀ i H y H', J.yld i H y H' → H' = H ∧ TurnAt c (isLst x) a i H y) : IsWalk c [x] [.ref a] J ds := by
  refine ⟨ds.length, SrcAt c (isLst x) ds.length a, fun i H y H' => H' = H ∧ TurnAt c (isLst x) a i H y, ⟨?_, ?_, ?_⟩, rfl, fun B ts vs ρ σ H r => src_of e r, ?_⟩
  · rintro i H hi ⟨us, h1, h2⟩
    exact hgo i H ⟨us, us[i]'(by omega), h1, List.getElem?_eq_getElem (by omega)⟩
  · rintro H ⟨us, h1, h2⟩
    exact hst _ H ⟨us, h1, h2⟩
  · intro i H y H' _ _ h
    exact hy i H y H' h
  · rintro B ts vs ρ σ H k y H' hk r ⟨rfl, t⟩
    exact turn_val e hk r t
theorem di_seq (h : Den c W te fe) : DenI c W (iSeqT c.K te) (iSeq fe) := fun B ts vs ρ σ H R r q => by
  unfold iSeq at q
  rw [post_then] at q
  cases hk : dv fe ρ with
  | stuck => rw [hk] at q; exact q.elim
  | err e ρ' =>
    refine .inl (h.dv r ?_)
    rw [hk] at q ⊢
    exact q
  | ok x ρ' =>
    rw [hk] at q
    have q : Post (OkI c B ts vs σ R) (ErrP c W B ts vs σ) (match itemsD x with
      | some ds => .ok ds ρ'
      | none => .stuck) := q
    cases e : itemsD x with
    | none => rw [e] at q; exact q.elim
    | some ds =>
      rw [e] at q
      have q : OkI c B ts vs σ R ds ρ' := q
      by_cases hl : isLst x = true
      · refine .inl (h.dv r ?_)
        rw [hk]
        intro v H' r'
        obtain ⟨G, O, hv⟩ := r'.top
        obtain ⟨a, us, rfl, h1, k⟩ := hv.seq O.sub e
        rw [hl] at h1
        refine ⟨a, rfl, ⟨us, h1⟩, q _ [x] [.ref a] H' rfl r' (walk_seq e ?_ ?_ ?_)⟩
        · rintro i H ⟨us, y, h1, h2⟩
          rw [hl] at h1
          exact ⟨us, y, h1, h2⟩
        · rintro i H ⟨us, h1, h2⟩
          rw [hl] at h1
          exact ⟨us, h1, by omega⟩
        · rintro i H y H' ⟨rfl, h2⟩
          rw [hl]
          exact ⟨rfl, fun us h => h2 us h⟩
      · have hl : isLst x = false := by simpa using hl
        refine .inr (h.dv r ?_)
        rw [hk]
        intro v H' r'
        obtain ⟨G, O, hv⟩ := r'.top
        obtain ⟨a, us, rfl, h1, k⟩ := hv.seq O.sub e
        rw [hl] at h1
        refine ⟨a, rfl, ⟨us, h1⟩, q _ [x] [.ref a] H' rfl r' (walk_seq e ?_ ?_ ?_)⟩
        · rintro i H ⟨us, y, h1, h2⟩
          rw [hl] at h1
          exact ⟨us, y, h1, h2⟩
        · rintro i H ⟨us, h1, h2⟩
          rw [hl] at h1
          exact ⟨us, h1, by omega⟩
        · rintro i H y H' ⟨rfl, h2⟩
          rw [hl]
          exact ⟨rfl, fun us h => h2 us h⟩
/-! ### enumerate, zip, reversed -/
def enumD (n : Nat) : List D → List D
  | [] => []
  | d :: ds => .tup [.int n, d] :: enumD (n + 1) ds
theorem enumD_length : ∀ (ds : List D) (n : Nat), (enumD n ds).length = ds.length
  | [], _ => rfl
  | d :: ds, n => by simp [enumD, enumD_length ds]
theorem enumD_get : ∀ (ds : List D) (n k : Nat) (d : D), ds[k]? = some d → (enumD n ds)[k]? = some (.tup [.int ((n + k : Nat) : Int), d])
  | [], _, _, _, e => by simp at e
  | d :: ds, n, 0, d', e => by simp at e; subst e; simp [enumD]
  | d :: ds, n, k + 1, d', e => by
    simp only [enumD, List.getElem?_cons_succ]
    rw [enumD_get ds (n + 1) k d' (by simpa using e), show n + 1 + k = n + (k + 1) by omega]
def zipD : List D → List D → List D
  | d :: ds, e :: es => .tup [d, e] :: zipD ds es
  | _, _ => []
theorem zipD_length : ∀ (ds es : List D), (zipD ds es).length = min ds.length es.length
  | [], _ => by simp [zipD]
  | _ :: _, [] => by simp [zipD]
  | d :: ds, e :: es => by simp [zipD, zipD_length ds es]
theorem zipD_get : ∀ (ds es : List D) (k : Nat) (d e : D), ds[k]? = some d → es[k]? = some e → (zipD ds es)[k]? = some (.tup [d, e])
  | [], _, _, _, _, h, _ => by simp at h
  | _ :: _, [], _, _, _, _, h => by simp at h
  | d :: ds, e :: es, 0, d', e', h, h' => by simp at h h'; subst h; subst h'; simp [zipD]
  | d :: ds, e :: es, k + 1, d', e', h, h' => by
    simp only [zipD, List.getElem?_cons_succ]
    exact zipD_get ds es k d' e' (by simpa using h) (by simpa using h')
def iEnu (fA : M (List D)) : M (List D) := fun ρ => (fA ρ).then fun ds ρ' => match ds with
  | [x] => match itemsD x with
    | some es => .ok (enumD 0 es) ρ'
    | none => .stuck
  | _ => .stuck
theorem walk_enu {x : D} {a : Addr} {ds : List D} {J : It} (e : itemsD x = some ds) (hgo : ∀ i H, (∃ us y, SqI c.K (isLst x) H a us ∧ us[i]? = some y) → J.go i H) (hst : ∀ i H, (∃ us, SqI c.K (isLst x) H a us ∧ us.length = i) → J.stop i H)
    (hy : ∀ i H y H', J.yld i H y H' → ∃ T z, y = .ref T ∧ H T = none ∧ H' = upd H T (.tup [.int (i : Nat), z]) ∧ TurnAt c (isLst x) a i H z) : IsWalk c [x] [.ref a] J (enumD 0 ds) := by
  refine ⟨ds.length, SrcAt c (isLst x) ds.length a, fun i H y H' => ∃ T z, y = .ref T ∧ H T = none ∧ H' = upd H T (.tup [.int (i : Nat), z]) ∧ TurnAt c (isLst x) a i H z, ⟨?_, ?_, ?_⟩, (enumD_length ds 0).symm, fun B ts vs ρ σ H r => src_of e r, ?_⟩
  · rintro i H hi ⟨us, h1, h2⟩
    exact hgo i H ⟨us, us[i]'(by omega), h1, List.getElem?_eq_getElem (by omega)⟩
  · rintro H ⟨us, h1, h2⟩
    exact hst _ H ⟨us, h1, h2⟩
  · intro i H y H' _ _ h
    exact hy i H y H' h
  · rintro B ts vs ρ σ H k y H' hk r ⟨T, z, rfl, hT, rfl, t⟩
    obtain ⟨G, O, h⟩ := r.top
    obtain ⟨a', us, e1, h1, kk⟩ := h.seq O.sub e
    cases e1
    obtain ⟨d, ed, hd⟩ := kk.getV (t us h1)
    refine ⟨_, enumD_get ds 0 k d ed, ?_⟩
    rw [Nat.zero_add]
    exact O.new hT rfl fun G' m e' => .tup (.inl (.inl e')) (.cons (.int _) (.cons (hd.mono m) .nil)) fun z => nomatch z
theorem di_enu (h : DenA c W tA fA) : DenI c W (iEnumG c.K tA) (iEnu fA) := fun B ts vs ρ σ H R r q => by
  unfold iEnu at q
  rw [post_then] at q
  cases hk : fA ρ with
  | stuck => rw [hk] at q; exact q.elim
  | err e ρ' =>
    refine .inl (h B ts vs ρ σ H _ r ?_)
    rw [hk] at q ⊢
    exact q
  | ok ds ρ' =>
    rw [hk] at q
    match ds, q with
    | [x], q =>
      have q : Post (OkI c B ts vs σ R) (ErrP c W B ts vs σ) (match itemsD x with
        | some es => .ok (enumD 0 es) ρ'
        | none => .stuck) := q
      cases e : itemsD x with
      | none => rw [e] at q; exact q.elim
      | some es =>
        rw [e] at q
        have q : OkI c B ts vs σ R (enumD 0 es) ρ' := q
        by_cases hl : isLst x = true
        · refine .inl (h B ts vs ρ σ H _ r ?_)
          rw [hk]
          intro us H' hlen r'
          match us, hlen with
          | [v], _ =>
            obtain ⟨G, O, hv⟩ := Rep.top (ts := ts) (vs := vs) r'
            obtain ⟨a, us, rfl, h1, k⟩ := hv.seq O.sub e
            rw [hl] at h1
            refine ⟨a, us, rfl, h1, q _ [x] [.ref a] H' rfl r' (walk_enu e ?_ ?_ ?_)⟩
            · rintro i H ⟨us, y, h1, h2⟩
              rw [hl] at h1
              exact ⟨us, y, h1, h2⟩
            · rintro i H ⟨us, h1, h2⟩
              rw [hl] at h1
              exact ⟨us, h1, by omega⟩
            · rintro i H y H' ⟨T, z, h1, h2, h3, h4⟩
              rw [hl]
              exact ⟨T, z, h1, h2, h3, fun us h => h4 us h⟩
        · have hl : isLst x = false := by simpa using hl
          refine .inr (h B ts vs ρ σ H _ r ?_)
          rw [hk]
          intro us H' hlen r'
          match us, hlen with
          | [v], _ =>
            obtain ⟨G, O, hv⟩ := Rep.top (ts := ts) (vs := vs) r'
            obtain ⟨a, us, rfl, h1, k⟩ := hv.seq O.sub e
            rw [hl] at h1
            refine ⟨a, us, rfl, h1, q _ [x] [.ref a] H' rfl r' (walk_enu e ?_ ?_ ?_)⟩
            · rintro i H ⟨us, y, h1, h2⟩
              rw [hl] at h1
              exact ⟨us, y, h1, h2⟩
            · rintro i H ⟨us, h1, h2⟩
              rw [hl] at h1
              exact ⟨us, h1, h2⟩
            · rintro i H y H' ⟨T, z, h1, h2, h3, h4⟩
              rw [hl]
              exact ⟨T, z, h1, h2, h3, fun us h => h4 us h⟩
/-- no pair of a zip is one of tuples of numbers -/
def zipOk (xs ys : List D) : Bool := (zipD xs ys).all fun
  | .tup ds => !arcy ds
  | _ => true
theorem zipOk_get {xs ys ds : List D} (h : zipOk xs ys = true) {k : Nat} (e : (zipD xs ys)[k]? = some (.tup ds)) : arcy ds = false := by
  have := List.all_eq_true.mp h _ (List.mem_of_getElem? e)
  simpa using this
def iZip2 (fA : M (List D)) : M (List D) := fun ρ => (fA ρ).then fun ds ρ' => match ds with
  | [.lst xs, .lst ys] => if zipOk xs ys then .ok (zipD xs ys) ρ' else .stuck
  | [.tup xs, .tup ys] => if zipOk xs ys then .ok (zipD xs ys) ρ' else .stuck
  | _ => .stuck
theorem walk_zipH {x y : D} {a b : Addr} {ds es : List D} {J : It} {l m : Bool} (e : itemsD x = some ds) (e' : itemsD y = some es) (l1 : isLst x = l) (l2 : isLst y = m)
    (hgo : ∀ i H, (∃ us ws u w, SqI c.K l H a us ∧ SqI c.K m H b ws ∧ us[i]? = some u ∧ ws[i]? = some w) → J.go i H) (hst : ∀ i H, (∃ us ws, SqI c.K l H a us ∧ SqI c.K m H b ws ∧ (us.length ≤ i ∨ ws.length ≤ i)) → J.stop i H)
    (hy : ∀ i H v H', J.yld i H v H' → ∃ T u w, v = .ref T ∧ H T = none ∧ H' = upd H T (.tup [u, w]) ∧ TurnAt c l a i H u ∧ TurnAt c m b i H w) (hn : zipOk ds es = true) : IsWalk c [x, y] [.ref a, .ref b] J (zipD ds es) := by
  refine ⟨(zipD ds es).length, fun H => SrcAt c l ds.length a H ∧ SrcAt c m es.length b H, fun i H v H' => ∃ T u w, v = .ref T ∧ H T = none ∧ H' = upd H T (.tup [u, w]) ∧ TurnAt c l a i H u ∧ TurnAt c m b i H w, ⟨?_, ?_, ?_⟩, rfl, ?_, ?_⟩
  · rintro i H hi ⟨⟨us, h1, h2⟩, ws, h3, h4⟩
    rw [zipD_length] at hi
    exact hgo i H ⟨us, ws, us[i]'(by omega), ws[i]'(by omega), h1, h3, List.getElem?_eq_getElem (by omega), List.getElem?_eq_getElem (by omega)⟩
  · rintro H ⟨⟨us, h1, h2⟩, ws, h3, h4⟩
    exact hst _ H ⟨us, ws, h1, h3, by rw [zipD_length]; omega⟩
  · intro i H y H' _ _ h
    exact hy i H y H' h
  · intro B ts vs ρ σ H r
    have r1 : Rep c B (some (.d y) :: some (.d x) :: ts) (some (.ref b) :: some (.ref a) :: vs) ρ σ H := r
    have s2 := src_of e' r1
    have s1 := src_of e r1.drop
    rw [l1] at s1
    rw [l2] at s2
    exact ⟨s1, s2⟩
  · rintro B ts vs ρ σ H k v H' hk r ⟨T, u, w, rfl, hT, rfl, t1, t2⟩
    have r1 : Rep c B (some (.d y) :: some (.d x) :: ts) (some (.ref b) :: some (.ref a) :: vs) ρ σ H := r
    obtain ⟨G, O, hx, hy⟩ := r1.top2
    obtain ⟨a', us, e1, h1, k1⟩ := hx.seq O.sub e
    cases e1
    obtain ⟨b', ws, e2, h2, k2⟩ := hy.seq O.sub e'
    cases e2
    rw [l1] at h1
    rw [l2] at h2
    obtain ⟨d, ed, hd⟩ := k1.getV (t1 us h1)
    obtain ⟨d', ed', hd'⟩ := k2.getV (t2 ws h2)
    exact ⟨_, zipD_get ds es k d d' ed ed', O.new hT rfl fun G' m e' => .tup (.inl (.inl e')) (.cons (hd.mono m) (.cons (hd'.mono m) .nil)) fun z => absurd z (by rw [zipOk_get hn (zipD_get ds es k d d' ed ed')]; decide)⟩
theorem di_zip2 (h : DenA c W tA fA) : DenI c W (RZ.iZipA c.K tA) (iZip2 fA) := fun B ts vs ρ σ H R r q => by
  unfold iZip2 at q
  rw [post_then] at q
  refine h B ts vs ρ σ H _ r (q.imp1 fun ds ρ' p us H' hlen r' => ?_)
  split at p
  · rename_i xs ys
    by_cases hz : zipOk xs ys = true
    case neg => rw [if_neg hz] at p; exact p.elim
    rw [if_pos hz] at p
    match us, hlen with
    | [v, w], _ =>
      have r1 : Rep c B (some (.d (.lst ys)) :: some (.d (.lst xs)) :: ts) (some w :: some v :: vs) ρ' σ H' := r'
      obtain ⟨G, O, hx, hy⟩ := r1.top2
      obtain ⟨a, us, rfl, h1, k1⟩ := hx.seq O.sub rfl
      obtain ⟨b, ws, rfl, h2, k2⟩ := hy.seq O.sub rfl
      refine ⟨a, b, us, ws, rfl, .inl ⟨h1, h2, p _ [.lst xs, .lst ys] [.ref a, .ref b] H' rfl r' (walk_zipH (l := true) (m := true) rfl rfl rfl rfl ?_ ?_ ?_ hz)⟩⟩
      · rintro i H ⟨us, ws, u, w, h1, h2, h3, h4⟩
        exact ⟨us, ws, u, w, h1, h2, h3, h4⟩
      · rintro i H ⟨us, ws, h1, h2, h3⟩
        exact ⟨us, ws, h1, h2, h3⟩
      · rintro i H v H' ⟨T, u, w, h1, h2, h3, h4, h5⟩
        exact ⟨T, u, w, h1, h2, h3, fun us h => h4 us h, fun us h => h5 us h⟩
  · rename_i xs ys
    by_cases hz : zipOk xs ys = true
    case neg => rw [if_neg hz] at p; exact p.elim
    rw [if_pos hz] at p
    match us, hlen with
    | [v, w], _ =>
      have r1 : Rep c B (some (.d (.tup ys)) :: some (.d (.tup xs)) :: ts) (some w :: some v :: vs) ρ' σ H' := r'
      obtain ⟨G, O, hx, hy⟩ := r1.top2
      obtain ⟨a, us, rfl, h1, k1⟩ := hx.seq O.sub rfl
      obtain ⟨b, ws, rfl, h2, k2⟩ := hy.seq O.sub rfl
      refine ⟨a, b, us, ws, rfl, .inr ⟨h1, h2, p _ [.tup xs, .tup ys] [.ref a, .ref b] H' rfl r' (walk_zipH (l := false) (m := false) rfl rfl rfl rfl ?_ ?_ ?_ hz)⟩⟩
      · rintro i H ⟨us, ws, u, w, h1, h2, h3, h4⟩
        exact ⟨us, ws, u, w, h1, h2, h3, h4⟩
      · rintro i H ⟨us, ws, h1, h2, h3⟩
        exact ⟨us, ws, h1, h2, h3⟩
      · rintro i H v H' ⟨T, u, w, h1, h2, h3, h4, h5⟩
        exact ⟨T, u, w, h1, h2, h3, fun us h => h4 us h, fun us h => h5 us h⟩
  · exact p.elim
/-- a tuple and a list -/
def iZipX (fA : M (List D)) : M (List D) := fun ρ => (fA ρ).then fun ds ρ' => match ds with
  | [.tup xs, .lst ys] => if zipOk xs ys then .ok (zipD xs ys) ρ' else .stuck
  | _ => .stuck
theorem di_zipX (h : DenA c W tA fA) : DenI c W (iZipTM c.K tA) (iZipX fA) := fun B ts vs ρ σ H R r q => by
  unfold iZipX at q
  rw [post_then] at q
  refine h B ts vs ρ σ H _ r (q.imp1 fun ds ρ' p us H' hlen r' => ?_)
  split at p
  case _ xs ys =>
    by_cases hz : zipOk xs ys = true
    case neg => rw [if_neg hz] at p; exact p.elim
    rw [if_pos hz] at p
    match us, hlen with
    | [v, w], _ =>
      have r1 : Rep c B (some (.d (.lst ys)) :: some (.d (.tup xs)) :: ts) (some w :: some v :: vs) ρ' σ H' := r'
      obtain ⟨G, O, hx, hy⟩ := r1.top2
      obtain ⟨a, us, rfl, h1, k1⟩ := hx.seq O.sub rfl
      obtain ⟨b, ws, rfl, h2, k2⟩ := hy.seq O.sub rfl
      exact ⟨a, b, us, ws, rfl, h1, h2, p _ [.tup xs, .lst ys] [.ref a, .ref b] H' rfl r' (walk_zipH (l := false) (m := true) rfl rfl rfl rfl (fun _ _ g => g) (fun _ _ g => g) (fun _ _ _ _ g => g) hz)⟩
  case _ => exact p.elim
/-- two lists, two tuples, or a tuple and a list -/
def iZip' (fA : M (List D)) : M (List D) := fun ρ => (fA ρ).then fun ds ρ' => match ds with
  | [.lst xs, .lst ys] => if zipOk xs ys then .ok (zipD xs ys) ρ' else .stuck
  | [.tup xs, .tup ys] => if zipOk xs ys then .ok (zipD xs ys) ρ' else .stuck
  | [.tup xs, .lst ys] => if zipOk xs ys then .ok (zipD xs ys) ρ' else .stuck
  | _ => .stuck
theorem iZip'_or (fA : M (List D)) (ρ : En) : iZip' fA ρ = iZip2 fA ρ ∨ iZip' fA ρ = iZipX fA ρ := by
  unfold iZip' iZip2 iZipX
  cases fA ρ with
  | stuck => exact .inl rfl
  | err e ρ' => exact .inl rfl
  | ok ds ρ' =>
    rcases ds with _ | ⟨x, _ | ⟨y, _ | ⟨z, zs⟩⟩⟩
    · exact .inl rfl
    · cases x <;> exact .inl rfl
    · cases x <;> first | exact .inl rfl | (cases y <;> first | exact .inl rfl | exact .inr rfl)
    · cases x <;> first | exact .inl rfl | (cases y <;> exact .inl rfl)
def iZipB (K : PySem.W.Frag) (ta : TA) : TI := fun σ H R => RZ.iZipA K ta σ H R ∨ iZipTM K ta σ H R
theorem di_zip (h : DenA c W tA fA) : DenI c W (iZipB c.K tA) (iZip' fA) := fun B ts vs ρ σ H R r q => by
  rcases iZip'_or fA ρ with e | e
  · exact .inl (di_zip2 h B ts vs ρ σ H R r (e ▸ q))
  · exact .inr (di_zipX h B ts vs ρ σ H R r (e ▸ q))
end
/-! ### comprehensions -/
def wipeE (ρ : En) : List Nat → En
  | [] => ρ
  | v :: vs => (wipeE ρ vs).set v none
theorem wipeE_at (ρ : En) : ∀ (vs : List Nat) (i : Nat), i ∈ vs → (wipeE ρ vs).set i none = wipeE ρ vs
  | v :: vs, i, h => by
    unfold wipeE
    by_cases hv : v = i
    · subst hv
      rw [List.set_set]
    · rw [List.set_comm _ _ hv, wipeE_at ρ vs i ((List.mem_cons.mp h).resolve_left fun e => hv e.symm)]
theorem wipeE_id {ρ : En} : ∀ {own : List Nat}, (∀ v ∈ own, ρ.set v none = ρ) → wipeE ρ own = ρ
  | [], _ => rfl
  | v :: own, h => by
    unfold wipeE
    rw [wipeE_id fun w hw => h w (List.mem_cons_of_mem _ hw), h v List.mem_cons_self]
theorem wipe_in (σ : L2.St) : ∀ (vs : List Nat) (i : Nat), i ∈ vs → (wipe σ vs)[i]? = if i < σ.length then some none else none
  | v :: vs, i, h => by
    unfold wipe
    by_cases hv : v = i
    · subst hv
      by_cases hl : v < σ.length
      · rw [if_pos hl, List.getElem?_set_self (by rw [wipe_length]; exact hl)]
      · rw [if_neg hl, List.getElem?_eq_none (by rw [List.length_set, wipe_length]; omega)]
    · rw [List.getElem?_set_ne hv, wipe_in σ vs i ((List.mem_cons.mp h).resolve_left fun e => hv e.symm)]
theorem wipe_off (σ : L2.St) : ∀ (vs : List Nat) (i : Nat), i ∉ vs → (wipe σ vs)[i]? = σ[i]?
  | [], i, _ => rfl
  | v :: vs, i, h => by
    unfold wipe
    rw [List.getElem?_set_ne fun e => h (by simp [e]), wipe_off σ vs i fun e => h (List.mem_cons_of_mem _ e)]
theorem Off.wipe {js own : List Nat} {σ σ' : L2.St} (h : ∀ j ∈ js, j ∈ own) (o : Off js (wipe σ own) σ') : wipe σ' own = wipe σ own := by
  have hl : σ'.length = σ.length := by rw [o.1, wipe_length]
  apply List.ext_getElem?
  intro i
  by_cases hi : i ∈ own
  · rw [wipe_in _ _ _ hi, wipe_in _ _ _ hi, hl]
  · rw [wipe_off _ _ _ hi, o.2 i fun z => hi (h i z)]
section
variable {c : Cfg} {B : Base} {ts : En} {vs : List (Option V)} {ρ : En} {σ : L2.St} {H : Hp}
theorem Rep.wipe (r : Rep c B ts vs ρ σ H) : ∀ own : List Nat, Rep c B ts vs (wipeE ρ own) (wipe σ own) H
  | [] => r
  | v :: own => (Rep.wipe r own).forget none
theorem Rep.unwipe : ∀ (own : List Nat), (∀ v ∈ own, ρ.set v none = ρ) → Rep c B ts vs ρ (L2.wipe σ own) H → Rep c B ts vs ρ σ H
  | [], _, r => r
  | v :: own, h, r => by
    refine Rep.unwipe own (fun w hw => h w (List.mem_cons_of_mem _ hw)) ?_
    have r1 := r.forget (i := v) ((L2.wipe σ own)[v]?.getD none)
    rw [h v List.mem_cons_self] at r1
    have e : (L2.wipe σ (v :: own)).set v ((L2.wipe σ own)[v]?.getD none) = L2.wipe σ own := by
      show ((L2.wipe σ own).set v none).set v _ = _
      rw [List.set_set]
      apply List.ext_getElem?
      intro i
      by_cases hi : v = i
      · subst hi
        by_cases hl : v < (L2.wipe σ own).length
        · rw [List.getElem?_set_self hl, List.getElem?_eq_getElem hl]
          rfl
        · rw [List.getElem?_eq_none (by rw [List.length_set]; omega), List.getElem?_eq_none (by omega)]
      · rw [List.getElem?_set_ne hi]
    rw [e] at r1
    exact r1
/-- back from a turn -/
theorem Rep.back {σ2 : L2.St} {own : List Nat} (e : L2.wipe σ2 own = L2.wipe σ own) (r : Rep c B ts vs ρ σ2 H) : Rep c B ts vs (wipeE ρ own) σ H := by
  have r1 := r.wipe own
  rw [e] at r1
  exact Rep.unwipe own (fun v hv => wipeE_at ρ own v hv) r1
theorem RpAll.tmpS {c : Cfg} {B : Base} {G H : Hp} {us : List V} {ds : List D} {own : Owns} (k : RpAll c G us ds) (h : Sl c B G H ts vs own) : Sl c B G H (tmp ds ++ ts) (tmv us ++ vs) own := k.rev.sl h
theorem Rep.insO {st : List D} {sv : List V} {p : Addr} (hl : sv.length = st.length) (r : Rep c B (tmp st ++ ts) (tmv sv ++ vs) ρ σ H) (hp : H p = none) :
    Rep c B (tmp st ++ (some (.o none (.lst [])) :: ts)) (tmv sv ++ (some (.ref p) :: vs)) ρ σ (upd H p (.lst [])) := by
  obtain ⟨G, o1, o2, k, h1, h2⟩ := r
  obtain ⟨a1, a2⟩ := h1.tmp hl
  have ow := own_new (o := .lst []) k hp
  exact ⟨G, p :: o1, o2, k.allocO hp, a1.tmpS (.o ⟨[], upd_same, .nil⟩ (fun _ e => nomatch e) (a2.mono (fun _ _ e => e) fun q hq => ow q (List.mem_append_left _ hq))), h2.mono (fun _ _ e => e) fun q hq => ow q (List.mem_append_right _ hq)⟩
theorem Rep.appT {st acc : List D} {sv : List V} {p : Addr} {y : D} {v : V} (hl : sv.length = st.length) (r : Rep c B (some (.d y) :: (tmp st ++ (some (.o none (.lst acc)) :: ts))) (some v :: (tmv sv ++ (some (.ref p) :: vs))) ρ σ H) :
    ∃ us, H p = some (.lst us) ∧ us.length = acc.length ∧ Rep c B (tmp st ++ (some (.o none (.lst (acc ++ [y]))) :: ts)) (tmv sv ++ (some (.ref p) :: vs)) ρ σ (upd H p (.lst (us ++ [v]))) := by
  obtain ⟨G, o1, o2, k, h1, h2⟩ := r
  cases h1 with
  | d hv h1 =>
    obtain ⟨a1, a2⟩ := h1.tmp hl
    cases a2 with
    | @o _ _ _ _ _ own hc hb a2 =>
      obtain ⟨us, e, ku⟩ := hc
      have nd := k.nd
      rw [List.cons_append, List.nodup_cons] at nd
      have ne : ∀ q ∈ own ++ o2, upd H p (.lst (us ++ [v])) q = H q := fun q hq => upd_ne fun z => nd.1 (z ▸ hq)
      refine ⟨us, e, ku.length, G, p :: own, o2, k.write (List.mem_append_left _ List.mem_cons_self) e (.lst _), a1.tmpS (.o ⟨_, upd_same, ku.snoc hv⟩ hb (a2.mono (fun _ _ e => e) fun q hq => ne q (List.mem_append_left _ hq))), h2.mono (fun _ _ e => e) fun q hq => ne q (List.mem_append_right _ hq)⟩
theorem Rep.accT {st acc : List D} {sv : List V} {p : Addr} (hl : sv.length = st.length) (r : Rep c B (tmp st ++ (some (.o none (.lst acc)) :: ts)) (tmv sv ++ (some (.ref p) :: vs)) ρ σ H) : Rep c B (some (.o none (.lst acc)) :: ts) (some (.ref p) :: vs) ρ σ H := r.dropN hl
end
/-- an exception may not leave a comprehension -/
def Out.calm {α : Type} : Out α → Out α
  | .err _ _ => .stuck
  | o => o
def W0 : WX := fun _ _ _ _ => False
def mComp (gm : D → M Unit) (ft : M Bool) (fe : M S) (own : List Nat) : List D → List D → En → Out (List D)
  | [], acc, ρ => .ok acc ρ
  | x :: xs, acc, ρ => (gm x ρ).calm.then fun _ ρ1 => (ft ρ1).calm.then fun b ρ2 => if b = true then (dv fe ρ2).calm.then fun y ρ3 => if small (acc.length + 1) then mComp gm ft fe own xs (acc ++ [y]) (wipeE ρ3 own) else .stuck
    else mComp gm ft fe own xs acc (wipeE ρ2 own)
def mLc (fI : M (List D)) (gm : D → M Unit) (ft : M Bool) (fe : M S) (own : List Nat) : M S := fun ρ => (fI ρ).then fun items ρ1 => (mComp gm ft fe own items [] (wipeE ρ1 own)).then fun ds ρ2 => .ok (.o none (.lst ds)) ρ2
theorem post_calm {α : Type} {K : α → En → Prop} {E E' : Err → En → Prop} {m : Out α} (h : Post K E m.calm) : Post K E' m := by
  cases m with
  | ok a ρ => exact h
  | err e ρ => exact h.elim
  | stuck => exact h
section
variable {c : Cfg} {W : WX} {wi : TI} {fI : M (List D)} {te : TE} {fe : M S} {tt : TT} {ft : M Bool} {g : TG} {gm : D → M Unit} {js own : List Nat}
theorem den_lc (h : DenI c W wi fI) (k : DenG c W0 g gm js) (kt : DenT c W0 tt ft) (ke : Den c W0 te fe) (hj : ∀ j ∈ js, j ∈ own) : Den c W (tLc wi g tt te own) (mLc fI gm ft fe own) := fun B ts vs ρ σ H Q r q => by
  unfold mLc at q
  rw [post_then] at q
  refine h B ts vs ρ σ H _ r (q.imp1 fun items ρ1 q J st sv H1 hl r1 w D hD => ?_)
  obtain ⟨n, Gw, Y, wk, rfl, hG, hY⟩ := w
  rw [post_then] at q
  refine lc_it wk (fun i H => ∃ ρ acc, Rep c B (tmp st ++ (some (.o none (.lst acc)) :: ts)) (tmv sv ++ (some (.ref D) :: vs)) ρ σ H ∧ (∀ v ∈ own, ρ.set v none = ρ) ∧
    Post (fun ds ρ2 => OkP c B ts vs σ Q (.o none (.lst ds)) ρ2) (ErrP c W B ts vs σ) (mComp gm ft fe own (items.drop i) acc ρ)) ⟨wipeE ρ1 own, [], ?_, fun v hv => wipeE_at ρ1 own v hv, q⟩ (fun i H _ ⟨ρ, acc, r, _⟩ => hG _ _ _ _ _ _ r) ?_ ?_
  · exact (Rep.insO hl r1 hD).back rfl
  · rintro i x H1 H2 hi ⟨ρ, acc, r, hw, q⟩ y
    obtain ⟨d, ed, r2⟩ := hY _ _ _ _ _ _ _ _ _ hi r y
    have hd : items.drop i = d :: items.drop (i + 1) := by
      rw [List.drop_eq_getElem_cons hi]
      rw [List.getElem?_eq_getElem hi] at ed
      cases ed
      rfl
    rw [hd] at q
    have q : Post _ _ ((gm d ρ).calm.then fun _ ρ1 => (ft ρ1).calm.then fun b ρ2 => _) := q
    rw [post_then] at q
    have r3 : Rep c B (some (.d d) :: (tmp st ++ (some (.o none (.lst acc)) :: ts))) (some x :: (tmv sv ++ (some (.ref D) :: vs))) ρ (L2.wipe σ own) H2 := by
      have := r2.wipe own
      have e := wipeE_id hw
      rw [e] at this
      exact this
    refine k B _ _ ρ _ H2 d x _ r3 (post_calm (q.imp1 fun _ ρ2 q σ2 H3 o r4 => ?_))
    have eo := Off.wipe hj o
    refine ⟨eo, ?_⟩
    rw [post_then] at q
    refine kt B _ _ ρ2 σ2 H3 _ r4 (post_calm (q.imp1 fun b ρ3 q H4 r5 => ?_))
    cases b with
    | false => exact ⟨wipeE ρ3 own, acc, r5.back eo, fun v hv => wipeE_at ρ3 own v hv, q⟩
    | true =>
      have q : Post _ _ ((dv fe ρ3).calm.then fun y ρ4 => _) := q
      rw [post_then] at q
      refine ke.dv r5 (post_calm (q.imp1 fun y ρ4 q v H5 r6 => ?_))
      split at q
      · rename_i hz
        obtain ⟨us, e1, e2, r7⟩ := Rep.appT hl r6
        refine ⟨us, e1, ?_, wipeE ρ4 own, acc ++ [y], r7.back eo, fun v hv => wipeE_at ρ4 own v hv, q⟩
        have := small_line hz
        omega
      · exact q.elim
  · rintro H1 ⟨ρ, acc, r, _, q⟩
    rw [List.drop_length] at q
    exact q _ H1 (r.accT hl)
end
end Fx
/-! defs, their calls, fields, what is made -/
namespace Fx
open PySem PySem.Spec PyProof.Rows L2
open C8 (Cal Mak pe_c pe_mk)
/-! ### states within states -/
def er : S → S
  | .d x => .d x
  | .o _ x => .o none x
  | .q ks dss => .q ks dss
def erE (es : En) : En := es.map (Option.map er)
def bare (s : S) : Bool := match s with
  | .d _ => true
  | .o none _ => true
  | .o (some _) _ => false
  | .q _ _ => false
section
variable {c : Cfg} {B B' : Base} {G G' H H' : Hp} {ts es es' : En} {vs ws : List (Option V)} {ρ : En} {σ : L2.St} {own own' : Owns}
theorem Sl.er : ∀ {es : En} {vs : List (Option V)} {own : Owns}, Sl c B G H es vs own → Sl c B' G H (erE es) vs own
  | _, _, _, .nil => .nil
  | _, _, _, .skip k => .skip (Sl.er k)
  | _, _, _, .d h k => .d h (Sl.er k)
  | _, _, _, .o h _ k => .o h (fun _ e => nomatch e) (Sl.er k)
  | _, _, _, .q h k => .q h (Sl.er k)
theorem Sl.unflag : ∀ {es : En} {vs : List (Option V)} {own own' : Owns}, Sl c B G H es vs own → Sl c B' G' H' (erE es) vs own' → Sl c B G' H' es vs own'
  | [], _, _, _, .nil, h => by
    cases h
    exact .nil
  | none :: es, _, _, _, .skip k, h => by
    have h : Sl c B' G' H' (none :: erE es) _ _ := h
    cases h with
    | skip h => exact .skip (Sl.unflag k h)
  | some (.d x) :: es, _, _, _, .d _ k, h => by
    have h : Sl c B' G' H' (some (.d x) :: erE es) _ _ := h
    cases h with
    | d h1 h => exact .d h1 (Sl.unflag k h)
  | some (.o b x) :: es, _, _, _, .o _ hb k, h => by
    have h : Sl c B' G' H' (some (.o none x) :: erE es) _ _ := h
    cases h with
    | o h1 _ h2 => exact .o h1 hb (Sl.unflag k h2)
  | some (.q ks dss) :: es, _, _, _, .q _ k, h => by
    have h : Sl c B' G' H' (some (.q ks dss) :: erE es) _ _ := h
    cases h with
    | q h1 h2 => exact .q h1 (Sl.unflag k h2)
theorem Sl.app : ∀ {es : En} {vs : List (Option V)} {o1 o2 : Owns}, Sl c B G H es vs o1 → Sl c B G H es' ws o2 → Sl c B G H (es ++ es') (vs ++ ws) (o1 ++ o2)
  | _, _, _, _, .nil, h => h
  | _, _, _, _, .skip k, h => .skip (Sl.app k h)
  | _, _, _, _, .d a k, h => .d a (Sl.app k h)
  | _, _, _, _, .o a b k, h => .o a b (Sl.app k h)
  | _, _, _, _, .q a k, h => by
    rw [List.append_assoc]
    exact .q a (Sl.app k h)
theorem Sl.split : ∀ {es : En} {vs : List (Option V)} {own : Owns}, es.length = vs.length → Sl c B G H (es ++ es') (vs ++ ws) own → ∃ o1 o2, own = o1 ++ o2 ∧ Sl c B G H es vs o1 ∧ Sl c B G H es' ws o2
  | [], [], own, _, h => ⟨[], own, rfl, .nil, h⟩
  | [], _ :: _, _, e, _ => by simp at e
  | _ :: _, [], _, e, _ => by simp at e
  | none :: es, v :: vs, _, e, h => by
    have h : Sl c B G H (none :: (es ++ es')) (v :: (vs ++ ws)) _ := h
    cases h with
    | skip h =>
      obtain ⟨o1, o2, rfl, h1, h2⟩ := Sl.split (by simpa using e) h
      exact ⟨o1, o2, rfl, .skip h1, h2⟩
  | some (.d x) :: es, v :: vs, _, e, h => by
    have h : Sl c B G H (some (.d x) :: (es ++ es')) (v :: (vs ++ ws)) _ := h
    cases h with
    | d a h =>
      obtain ⟨o1, o2, rfl, h1, h2⟩ := Sl.split (by simpa using e) h
      exact ⟨o1, o2, rfl, .d a h1, h2⟩
  | some (.o b x) :: es, v :: vs, _, e, h => by
    have h : Sl c B G H (some (.o b x) :: (es ++ es')) (v :: (vs ++ ws)) _ := h
    cases h with
    | o a hb h3 =>
      obtain ⟨o1, o2, rfl, h1, h2⟩ := Sl.split (by simpa using e) h3
      exact ⟨_ :: o1, o2, rfl, .o a hb h1, h2⟩
  | some (.q ks dss) :: es, v :: vs, _, e, h => by
    have h : Sl c B G H (some (.q ks dss) :: (es ++ es')) (v :: (vs ++ ws)) _ := h
    cases h with
    | q a h3 =>
      obtain ⟨o1, o2, rfl, h1, h2⟩ := Sl.split (by simpa using e) h3
      exact ⟨_ ++ o1, o2, by rw [List.append_assoc], .q a h1, h2⟩
theorem RpAll.slot {us : List V} {ds : List D} (k : RpAll c G us ds) : Sl c B G H (ds.map fun x => some (S.d x)) (us.map some) [] := by
  have := k.sl (B := B) (H := H) (ts := []) (vs := []) (own := []) .nil
  rwa [List.append_nil, List.append_nil] at this
theorem OkB.anyB (k : OkB c B G H own) : OkB c B' G H own := ⟨k.sub, k.notbl, k.nd, k.out, k.tabs⟩
/-- into a def: what waits are its arguments, all else waits -/
theorem Rep.enter {ds : List D} {us : List V} (hl : us.length = ds.length) (r : Rep c B (tmp ds ++ ts) (tmv us ++ vs) ρ σ H) : Rep c B' (erE ts ++ erE ρ) (vs ++ σ) (ds.map fun x => some (S.d x)) (us.map some) H := by
  obtain ⟨G, o1, o2, k, h1, h2⟩ := r
  obtain ⟨a1, a2⟩ := h1.tmp hl
  exact ⟨G, o1 ++ o2, [], by rw [List.append_nil]; exact k.anyB, (a2.er).app h2.er, a1.slot⟩
/-- back from it -/
theorem Rep.leave {s : S} {v : V} {ρ' : En} {σ' : L2.St} {H0 : Hp} (hs : bare s = true) (r0 : Rep c B ts vs ρ σ H0) (r : Rep c B' (some s :: (erE ts ++ erE ρ)) (some v :: (vs ++ σ)) ρ' σ' H) : Rep c B (some s :: ts) (some v :: vs) ρ σ H := by
  obtain ⟨G0, p1, p2, k0, g1, g2⟩ := r0
  obtain ⟨G, o1, o2, k, h1, h2⟩ := r
  obtain ⟨w, os, o1', ew, e1, rfl, h1'⟩ := h1.unone
  cases ew
  obtain ⟨q1, q2, rfl, f1, f2⟩ := h1'.split (by rw [show (erE ts).length = ts.length by simp [erE]]; exact g1.length)
  have e1' : En1 c B G H s v os := by
    cases e1 with
    | d h => exact .d h
    | @o a b x hc hb =>
      cases b with
      | none => exact .o hc fun _ e => nomatch e
      | some k => cases hs
    | q h => cases hs
  refine ⟨G, os ++ q1, q2, k.anyB.subO (fun p hp => ?_) ?_, Sl.one e1' (g1.unflag f1), g2.unflag f2⟩
  · simp only [List.mem_append] at hp ⊢
    rcases hp with (hp | hp) | hp
    · exact .inl (.inl hp)
    · exact .inl (.inr (.inl hp))
    · exact .inl (.inr (.inr hp))
  · refine k.nd.sublist ?_
    rw [List.append_assoc os]
    exact List.sublist_append_left _ _
end
/-! ### defs -/
abbrev Fn := List S → Out S
/-- a def of np parameters and nN names, by its body -/
def runF (np nN : Nat) (body : M Fl) : Fn := fun args => if args.length = np then match body (args.map some ++ List.replicate (nN - np) none) with
    | .ok (.rt s) ρ => .ok s ρ
    | .ok .nx ρ => .ok (.d .non) ρ
    | .err e ρ => .err e ρ
    | _ => .stuck
  else .stuck
/-- what a def promises that nothing leaves by an exception -/
def spF (c : Cfg) (F : Fn) : Sp := fun vs H Q _ => ∃ B ts ws args, Rep c B ts ws (args.map some) (vs.map some) H ∧ Post (fun s ρ' => ∀ v σ' H', Rep c B (some s :: ts) (some v :: ws) ρ' σ' H' → Q v H') (fun _ _ => False) (F args)
theorem Rep.slots {c : Cfg} {B : Base} {ts : En} {vs : List (Option V)} {ρ : En} {σ : L2.St} {H : Hp} (n : Nat) (r : Rep c B ts vs ρ σ H) : Rep c B ts vs (ρ ++ List.replicate n none) (σ ++ List.replicate n none) H := by
  obtain ⟨G, o1, o2, k, h1, h2⟩ := r
  have : ∀ n : Nat, Sl c B G H (List.replicate n none) (List.replicate n none) [] := by
    intro n
    induction n with
    | zero => exact .nil
    | succ n ih => exact .skip ih
  refine ⟨G, o1, o2, k, h1, ?_⟩
  have := h2.app (this n)
  rwa [List.append_nil] at this
section
variable {P : Program} {w : World} {K : PySem.W.Frag} {mg : Str → Option Value} {base : Heap}
theorem fn_den {c : Cfg} {x qual : Str} {st : Stmt} {f : Addr} {fd : FuncData} {N ps : List Str} {k : Nat} {body : M Fl} (F : Fun K x qual st f fd) (Sc : FnScope N ps (defScope st))
    (hbody : ∀ (cdv : Value) (A : Around) (outer : List Env) (s : Shared) (H : Hp) (E : XK), Room k (A.deeper (envOfC qual (defScope st) s.heap.objs.size f cdv)) →
      ∃ t, PSs (cxOf L2.CX0 P w K mg base N qual (defScope st) f cdv A outer s H E).nox (defBody st) t ∧ DenS c W0 t body) : FnOk P w K mg base L2.CX0 (k + 1) f fd ps (spF c (runF ps.length N.length body)) := by
  have len : ∀ vs H Q E, spF c (runF ps.length N.length body) vs H Q E → vs.length = ps.length := by
    rintro vs H Q E ⟨B, ts, ws, args, r, p⟩
    obtain ⟨G, o1, o2, k, h1, h2⟩ := r
    have e := h2.length
    rw [List.length_map, List.length_map] at e
    unfold runF at p
    split at p
    · rename_i ha
      omega
    · exact p.elim
  refine F.ok Sc len fun cdv A outer s H vs Q E hr h => ?_
  have hl := len vs H Q E h
  obtain ⟨B, ts, ws, args, r, p⟩ := h
  obtain ⟨t, h1, h2⟩ := hbody cdv A outer s H E hr
  refine ⟨t, h1, ?_⟩
  unfold runF at p
  split at p
  · rename_i ha
    have r2 := r.slots (N.length - ps.length)
    have e1 : vs.map some ++ List.replicate (N.length - ps.length) none = L2.start N vs := by
      unfold L2.start
      rw [hl]
    rw [e1] at r2
    refine h2 B ts ws _ _ H _ r2 ?_
    cases hb : body (args.map some ++ List.replicate (N.length - ps.length) none) with
    | stuck => rw [hb] at p; exact p.elim
    | err e ρ => rw [hb] at p; exact p.elim
    | ok f ρ =>
      rw [hb] at p
      cases f with
      | rt s => exact fun v σ' H' r' => p v σ' H' r'
      | nx => exact fun σ' H' r' => p .non σ' H' (Rep.repl (ds := []) (us := []) r' rfl fun G _ => .non)
      | bk => exact p.elim
      | ct => exact p.elim
  · exact p.elim
end
/-! ### calls -/
def mCall (F : Fn) (fA : M (List D)) : M S := fun ρ => (fA ρ).then fun ds ρ1 => match F (ds.map .d) with
  | .ok s _ => if bare s then .ok s ρ1 else .stuck
  | _ => .stuck
section
variable {c : Cfg} {W : WX} {tA : TA} {fA : M (List D)} {F : Fn} {E : XK}
theorem den_call (h : DenA c W tA fA) : Den c W (tCall (spF c F) [] E tA) (mCall F fA) := fun B ts vs ρ σ H Q r q => by
  unfold mCall at q
  rw [post_then] at q
  refine h B ts vs ρ σ H _ r (q.imp1 fun ds ρ1 q us H1 hl r1 => ?_)
  show spF c F (us ++ []) H1 Q E
  rw [List.append_nil]
  refine ⟨⟨fun _ => none⟩, erE ts ++ erE ρ1, vs ++ σ, ds.map .d, by rw [List.map_map]; exact r1.enter hl, ?_⟩
  have r2 := r1.dropN hl
  cases hf : F (ds.map .d) with
  | stuck => rw [hf] at q; exact q.elim
  | err e ρ' => rw [hf] at q; exact q.elim
  | ok s ρ' =>
    rw [hf] at q
    have q : Post (OkP c B ts vs σ Q) (ErrP c W B ts vs σ) (if bare s then .ok s ρ1 else .stuck) := q
    split at q
    · rename_i hs
      exact fun v σ' H' r' => q v H' (Rep.leave hs r2 r')
    · exact q.elim
end
/-! ### an argument that may be changed -/
/-- the arguments but the one at slot i, which stands at place j -/
def OkC (c : Cfg) (B : Base) (ts : En) (vs : List (Option V)) (σ : L2.St) (i j : Nat) (Q : List V → Hp → Prop) (ds : List D) (ρ : En) : Prop :=
  ∀ us H' a, us.length = ds.length → Rep c B (tmp ds ++ ts) (tmv us ++ vs) ρ σ H' → σ[i]? = some (some (.ref a)) → j ≤ ds.length → Q (us.take j ++ .ref a :: us.drop j) H'
def DenC (c : Cfg) (W : WX) (tA : TA) (i j : Nat) (f : M (List D)) : Prop := ∀ B ts vs ρ σ H Q, Rep c B ts vs ρ σ H → Post (OkC c B ts vs σ i j Q) (ErrP c W B ts vs σ) (f ρ) → tA σ H Q
def isOwn (ρ : En) (i : Nat) : Bool := match ρ[i]? with
  | some (some (.o _ _)) => true
  | _ => false
def aOwn (i : Nat) (fr : M (List D)) : M (List D) := fun ρ => if isOwn ρ i then fr ρ else .stuck
section
variable {c : Cfg} {B B' : Base} {W : WX} {ta : TE} {fa : M S} {tr tA : TA} {fr fA : M (List D)} {F : Fn} {E : XK} {i j : Nat} {ts : En} {vs : List (Option V)} {ρ : En} {σ : L2.St} {H : Hp}
theorem dc_own (h : DenA c W tr fr) : DenC c W (tCons (tVar i) tr) i 0 (aOwn i fr) := fun B ts vs ρ σ H Q r q => by
  unfold aOwn at q
  split at q
  · rename_i ho
    unfold isOwn at ho
    split at ho
    · rename_i b x e
      obtain ⟨a, e1, _⟩ := r.varO e
      refine ⟨.ref a, e1, h B ts vs ρ σ H _ r (q.imp1 fun ds ρ1 q us H1 hl r1 => ?_)⟩
      exact q us H1 a hl r1 e1 (Nat.zero_le _)
    · cases ho
  · exact q.elim
def mCallO (F : Fn) (i j : Nat) (fA : M (List D)) : M S := fun ρ => (fA ρ).then fun ds ρ1 => match ρ1[i]? with
  | some (some (.o b x)) => if j ≤ ds.length then match F ((ds.take j).map .d ++ .o (some j) x :: (ds.drop j).map .d) with
      | .ok s ρ' => match ρ'[j]? with
        | some (some (.o (some j') y)) => if j' = j ∧ bare s = true then .ok s (ρ1.set i (some (.o b y))) else .stuck
        | _ => .stuck
      | _ => .stuck
    else .stuck
  | _ => .stuck
/-- into a def with a cell -/
theorem Sl.takeO : ∀ {es : En} {vs : List (Option V)} {own : Owns} {i : Nat} {b : Option Nat} {x : D} {G : Hp}, Sl c B G H es vs own → es[i]? = some (some (.o b x)) → ∃ a own', vs[i]? = some (some (.ref a)) ∧ Cell c G H a x ∧ (∀ k, b = some k → B.at_ k = some a) ∧ Sl c B G H (es.set i none) vs own' ∧ (∀ p ∈ own, p = a ∨ p ∈ own') ∧ (∀ p ∈ own', p ∈ own) ∧ a ∈ own ∧ (own.Nodup → own'.Nodup ∧ a ∉ own')
  | _, _, _, _, _, _, _, .nil, e => by simp at e
  | _, _, _, 0, _, _, _, .skip k, e => by simp at e
  | _, _, _, 0, _, _, _, .d h k, e => by simp at e
  | _, _, a :: own, 0, _, _, _, .o h hb k, e => by
    simp at e
    obtain ⟨rfl, rfl⟩ := e
    exact ⟨a, own, rfl, h, hb, .skip k, fun p hp => List.mem_cons.mp hp, fun p hp => List.mem_cons_of_mem _ hp, List.mem_cons_self, fun nd => ⟨(List.nodup_cons.mp nd).2, (List.nodup_cons.mp nd).1⟩⟩
  | _, _, _, i + 1, _, _, _, .skip k, e => by
    obtain ⟨a, own', h1, h2, h3, h4, h5⟩ := Sl.takeO (i := i) k (by simpa using e)
    exact ⟨a, own', h1, h2, h3, .skip h4, h5⟩
  | _, _, _, i + 1, _, _, _, .d h k, e => by
    obtain ⟨a, own', h1, h2, h3, h4, h5⟩ := Sl.takeO (i := i) k (by simpa using e)
    exact ⟨a, own', h1, h2, h3, .d h h4, h5⟩
  | _, _, b :: own, i + 1, _, _, _, .o h hb k, e => by
    obtain ⟨a, own', h1, h2, h3, h4, h5, h6, h7, h8⟩ := Sl.takeO (i := i) k (by simpa using e)
    refine ⟨a, b :: own', h1, h2, h3, .o h hb h4, fun p hp => ?_, fun p hp => ?_, List.mem_cons_of_mem _ h7, fun nd => ?_⟩
    · rcases List.mem_cons.mp hp with rfl | hp
      · exact .inr List.mem_cons_self
      · exact (h5 p hp).imp id (List.mem_cons_of_mem _)
    · rcases List.mem_cons.mp hp with rfl | hp
      · exact List.mem_cons_self
      · exact List.mem_cons_of_mem _ (h6 p hp)
    · rw [List.nodup_cons] at nd
      obtain ⟨n1, n2⟩ := h8 nd.2
      refine ⟨List.nodup_cons.mpr ⟨fun hm => nd.1 (h6 _ hm), n1⟩, fun hm => ?_⟩
      rcases List.mem_cons.mp hm with rfl | hm
      · exact nd.1 h7
      · exact n2 hm
  | _, _, _, 0, _, _, _, .q h k, e => by simp at e
  | _, _, _, i + 1, _, _, _, @Sl.q _ _ _ _ _ _ _ _ _ qs own h k, e => by
    obtain ⟨a, own', h1, h2, h3, h4, h5, h6, h7, h8⟩ := Sl.takeO (i := i) k (by simpa using e)
    refine ⟨a, qs ++ own', h1, h2, h3, .q h h4, fun p hp => ?_, fun p hp => ?_, List.mem_append_right _ h7, fun nd => ?_⟩
    · rcases List.mem_append.mp hp with hp | hp
      · exact .inr (List.mem_append_left _ hp)
      · exact (h5 p hp).imp id (List.mem_append_right _)
    · rcases List.mem_append.mp hp with hp | hp
      · exact List.mem_append_left _ hp
      · exact List.mem_append_right _ (h6 p hp)
    · have n0 := List.nodup_append.mp nd
      obtain ⟨n1, n2⟩ := h8 n0.2.1
      refine ⟨nodup_sub nd h6 n1, fun hm => ?_⟩
      rcases List.mem_append.mp hm with hm | hm
      · exact n0.2.2 _ hm _ h7 rfl
      · exact n2 hm
theorem Sl.cons_inv {G : Hp} {s : Option S} {es : En} {v : Option V} {vs : List (Option V)} {own : Owns} (h : Sl c B G H (s :: es) (v :: vs) own) : (s = none ∧ Sl c B G H es vs own) ∨ (∃ w x, s = some (.d x) ∧ v = some w ∧ Rp c G w x ∧ Sl c B G H es vs own) ∨
    (∃ a b x o', s = some (.o b x) ∧ v = some (.ref a) ∧ own = a :: o' ∧ Cell c G H a x ∧ (∀ k, b = some k → B.at_ k = some a) ∧ Sl c B G H es vs o') ∨
    ∃ a ks dss os o', s = some (.q ks dss) ∧ v = some (.ref a) ∧ own = os ++ o' ∧ QCell c G H a ks dss os ∧ Sl c B G H es vs o' := by
  cases h with
  | skip k => exact .inl ⟨rfl, k⟩
  | d h k => exact .inr (.inl ⟨_, _, rfl, rfl, h, k⟩)
  | o h hb k => exact .inr (.inr (.inl ⟨_, _, _, _, rfl, rfl, rfl, h, hb, k⟩))
  | q h k => exact .inr (.inr (.inr ⟨_, _, _, _, _, rfl, rfl, rfl, h, k⟩))
theorem Sl.putO {G : Hp} : ∀ {es : En} {vs : List (Option V)} {own : Owns} {i : Nat} {b : Option Nat} {x : D} {a : Addr}, Sl c B G H (es.set i none) vs own → i < es.length → vs[i]? = some (some (.ref a)) → Cell c G H a x → (∀ k, b = some k → B.at_ k = some a) → ∃ own', Sl c B G H (es.set i (some (.o b x))) vs own' ∧ (∀ p ∈ own', p = a ∨ p ∈ own) ∧ (own.Nodup → a ∉ own → own'.Nodup)
  | [], _, _, _, _, _, _, _, hi, _, _, _ => by simp at hi
  | s :: es, v :: vs, own, 0, b, x, a, h, _, ev, hc, hb => by
    have h : Sl c B G H (none :: es) (v :: vs) own := h
    simp at ev
    subst ev
    cases h with
    | skip h => exact ⟨a :: own, .o hc hb h, fun p hp => List.mem_cons.mp hp, fun nd na => List.nodup_cons.mpr ⟨na, nd⟩⟩
  | s :: es, [], own, 0, b, x, a, h, _, ev, hc, hb => by simp at ev
  | s :: es, [], own, i + 1, b, x, a, h, _, ev, hc, hb => by simp at ev
  | s :: es, v :: vs, own, i + 1, b, x, a, h, hi, ev, hc, hb => by
    have hj : i < es.length := by simpa using hi
    have ew : vs[i]? = some (some (.ref a)) := by simpa using ev
    rcases Sl.cons_inv (show Sl c B G H (s :: es.set i none) (v :: vs) own from h) with ⟨rfl, k⟩ | ⟨w, y, rfl, rfl, hh, k⟩ | ⟨a', b', y, o', rfl, rfl, rfl, hh, hb', k⟩ | ⟨a', ks, dss, os, o', rfl, rfl, rfl, hh, k⟩
    · obtain ⟨own', h1, h2, h3⟩ := Sl.putO k hj ew hc hb
      exact ⟨own', .skip h1, h2, h3⟩
    · obtain ⟨own', h1, h2, h3⟩ := Sl.putO k hj ew hc hb
      exact ⟨own', .d hh h1, h2, h3⟩
    · obtain ⟨own', h1, h2, h3⟩ := Sl.putO k hj ew hc hb
      refine ⟨a' :: own', .o hh hb' h1, fun p hp => ?_, fun nd na => ?_⟩
      · rcases List.mem_cons.mp hp with rfl | hp
        · exact .inr List.mem_cons_self
        · exact (h2 p hp).imp id (List.mem_cons_of_mem _)
      · rw [List.nodup_cons] at nd
        rw [List.mem_cons, not_or] at na
        refine List.nodup_cons.mpr ⟨fun hm => ?_, h3 nd.2 na.2⟩
        rcases h2 a' hm with e | hm
        · exact na.1 e.symm
        · exact nd.1 hm
    · obtain ⟨own', h1, h2, h3⟩ := Sl.putO k hj ew hc hb
      refine ⟨os ++ own', .q hh h1, fun p hp => ?_, fun nd na => ?_⟩
      · rcases List.mem_append.mp hp with hp | hp
        · exact .inr (List.mem_append_left _ hp)
        · exact (h2 p hp).imp id (List.mem_append_right _)
      · rw [List.nodup_append] at nd ⊢
        rw [List.mem_append, not_or] at na
        refine ⟨nd.1, h3 nd.2.1 na.2, fun x hx y hy e => ?_⟩
        rcases h2 y hy with z | z
        · exact na.1 (z ▸ e ▸ hx)
        · exact nd.2.2 x hx y z e
theorem Rep.enterO {ds : List D} {us : List V} {b : Option Nat} {x : D} {a : Addr} (hl : us.length = ds.length) (hj : j ≤ ds.length) (r : Rep c B (tmp ds ++ ts) (tmv us ++ vs) ρ σ H) (e : ρ[i]? = some (some (.o b x))) (ev : σ[i]? = some (some (.ref a))) :
    Rep c ⟨fun k => if k = j then some a else none⟩ (erE ts ++ erE (ρ.set i none)) (vs ++ σ) (((ds.take j).map S.d ++ S.o (some j) x :: (ds.drop j).map S.d).map some) ((us.take j ++ V.ref a :: us.drop j).map some) H := by
  obtain ⟨G, o1, o2, k, h1, h2⟩ := r
  obtain ⟨a1, a2⟩ := h1.tmp hl
  obtain ⟨a', own', e1, hc, _, h3, m1, m2, m3, m4⟩ := h2.takeO e
  rw [ev] at e1
  cases e1
  have nd := k.nd
  rw [List.nodup_append] at nd
  obtain ⟨n1, n2, n3⟩ := nd
  obtain ⟨n4, n5⟩ := m4 n2
  refine ⟨G, o1 ++ own', [a], k.anyB.subO (fun p hp => ?_) ?_, (a2.er).app h3.er, ?_⟩
  · rcases List.mem_append.mp hp with hp | hp
    · rcases List.mem_append.mp hp with hp | hp
      · exact List.mem_append_left _ hp
      · exact List.mem_append_right _ (m2 p hp)
    · simp at hp
      subst hp
      exact List.mem_append_right _ m3
  · rw [List.nodup_append, List.nodup_append]
    refine ⟨⟨n1, n4, fun x hx y hy => n3 x hx y (m2 y hy)⟩, by simp, fun x hx y hy => ?_⟩
    simp at hy
    subst hy
    rcases List.mem_append.mp hx with hx | hx
    · exact n3 x hx _ m3
    · exact fun z => n5 (z ▸ hx)
  · rw [List.map_append, List.map_cons, List.map_append, List.map_cons, List.map_map, List.map_map]
    have s1 : Sl c ⟨fun k => if k = j then some a else none⟩ G H ((ds.take j).map fun x => some (S.d x)) ((us.take j).map some) [] := (a1.take j).slot
    have s2 : Sl c ⟨fun k => if k = j then some a else none⟩ G H ((ds.drop j).map fun x => some (S.d x)) ((us.drop j).map some) [] := (a1.drop j).slot
    exact s1.app (.o hc (fun k hk => by cases hk; simp) s2)
theorem Rep.leaveO {s : S} {v : V} {ρ' : En} {σ' : L2.St} {H0 : Hp} {b : Option Nat} {x y : D} {a : Addr} (hs : bare s = true) (r0 : Rep c B ts vs ρ σ H0) (e : ρ[i]? = some (some (.o b x))) (ev : σ[i]? = some (some (.ref a)))
    (r : Rep c ⟨fun k => if k = j then some a else none⟩ (some s :: (erE ts ++ erE (ρ.set i none))) (some v :: (vs ++ σ)) ρ' σ' H) (e' : ρ'[j]? = some (some (.o (some j) y))) : Rep c B (some s :: ts) (some v :: vs) (ρ.set i (some (.o b y))) σ H := by
  obtain ⟨G0, p1, p2, k0, g1, g2⟩ := r0
  obtain ⟨a0, own0, e0, _, hb0, g3, _⟩ := g2.takeO e
  rw [ev] at e0
  cases e0
  obtain ⟨G, o1, o2, k, h1, h2⟩ := r
  obtain ⟨w, os, o1', ew, e1, rfl, h1'⟩ := h1.unone
  cases ew
  obtain ⟨q1, q2, rfl, f1, f2⟩ := h1'.split (by rw [show (erE ts).length = ts.length by simp [erE]]; exact g1.length)
  have e1' : En1 c B G H s v os := by
    cases e1 with
    | d h => exact .d h
    | @o a b x hc hb =>
      cases b with
      | none => exact .o hc fun _ e => nomatch e
      | some k => cases hs
    | q h => cases hs
  obtain ⟨a2, e2, hc2, m2, hb2⟩ := h2.getO e'
  have ea : a2 = a := by
    have := hb2 j rfl
    simp at this
    exact this.symm
  subst ea
  have hi : i < ρ.length := (List.getElem?_eq_some_iff.mp e).1
  have nd := k.nd
  rw [List.nodup_append, List.nodup_append, List.nodup_append] at nd
  obtain ⟨⟨n1, ⟨n2, n3, n4⟩, n5⟩, n6, n7⟩ := nd
  have na : a2 ∉ q2 := fun hm => n7 a2 (List.mem_append_right _ (List.mem_append_right _ hm)) a2 m2 rfl
  obtain ⟨own', f3, m3, m4⟩ := Sl.putO (g3.unflag f2) hi ev hc2 hb0
  refine ⟨G, os ++ q1, own', k.anyB.subO (fun p hp => ?_) ?_, Sl.one e1' (g1.unflag f1), f3⟩
  · simp only [List.mem_append] at hp ⊢
    rcases hp with (hp | hp) | hp
    · exact .inl (.inl hp)
    · exact .inl (.inr (.inl hp))
    · rcases m3 p hp with rfl | hp
      · exact .inr m2
      · exact .inl (.inr (.inr hp))
  · rw [List.nodup_append, List.nodup_append]
    refine ⟨⟨n1, n2, fun x hx y hy => n5 x hx y (List.mem_append_left _ hy)⟩, m4 n3 na, fun x hx y hy => ?_⟩
    rcases m3 y hy with rfl | hy
    · rcases List.mem_append.mp hx with hx | hx
      · exact n7 x (List.mem_append_left _ hx) _ m2
      · exact n7 x (List.mem_append_right _ (List.mem_append_left _ hx)) _ m2
    · rcases List.mem_append.mp hx with hx | hx
      · exact n5 x hx y (List.mem_append_right _ hy)
      · exact n4 x hx y hy
theorem den_callO (h : DenC c W tA i j fA) : Den c W (tCall (spF c F) [] E tA) (mCallO F i j fA) := fun B ts vs ρ σ H Q r q => by
  unfold mCallO at q
  rw [post_then] at q
  refine h B ts vs ρ σ H _ r (q.imp1 fun ds ρ1 q us H1 a hl r1 ev hj => ?_)
  show spF c F (us.take j ++ V.ref a :: us.drop j ++ []) H1 Q E
  rw [List.append_nil]
  split at q
  · rename_i b x e
    rw [if_pos hj] at q
    refine ⟨_, _, _, _, r1.enterO hl hj e ev, ?_⟩
    have r2 := r1.dropN hl
    cases hf : F ((ds.take j).map .d ++ .o (some j) x :: (ds.drop j).map .d) with
    | stuck => rw [hf] at q; exact q.elim
    | err e ρ' => rw [hf] at q; exact q.elim
    | ok s ρ' =>
      rw [hf] at q
      have q2 : Post (OkP c B ts vs σ Q) (ErrP c W B ts vs σ) (match ρ'[j]? with
        | some (some (.o (some j') y)) => if j' = j ∧ bare s = true then .ok s (ρ1.set i (some (.o b y))) else .stuck
        | _ => .stuck) := q
      clear q
      split at q2
      · rename_i j' y e'
        split at q2
        · rename_i hh
          obtain ⟨rfl, hs⟩ := hh
          exact fun v σ' H' r' => q2 v H' (Rep.leaveO hs r2 e ev r' e')
        · exact q2.elim
      · exact q2.elim
  · exact q.elim
end
/-! ### fields -/
/-- what the text tells of a class, of a field of it -/
structure FldOk (c : Cfg) (n : String) (f : Str) (i : Nat) : Prop where
  cl : Cls c.K (c.cls n)
  na : NoAttr c.K (c.cls n) f
  at_ : (c.flds n)[i]? = some f
  nd : (c.flds n).Nodup
def gFld (n : String) (i : Nat) : D → Option S
  | .ins m ds => if m = n then (ds[i]?).bind ok1 else none
  | _ => none
def mFldE (n : String) (i : Nat) (fe : M S) : M S := mUn (gFld n i) fe
section
variable {c : Cfg} {W : WX} {te : TE} {fe : M S} {n : String} {f : Str} {i k : Nat}
theorem lookup_at : ∀ {fs : List (Str × V)} {i : Nat} {f : Str}, (fs.map (·.1)).Nodup → (fs.map (·.1))[i]? = some f → ∃ v, fs.lookup f = some v ∧ (fs.map (·.2))[i]? = some v
  | [], _, _, _, e => by simp at e
  | (g, v) :: fs, 0, f, nd, e => by
    simp at e
    subst e
    exact ⟨v, by simp, rfl⟩
  | (g, v) :: fs, i + 1, f, nd, e => by
    rw [List.map_cons, List.nodup_cons] at nd
    have e : (fs.map (·.1))[i]? = some f := by simpa using e
    obtain ⟨w, h1, h2⟩ := lookup_at nd.2 e
    refine ⟨w, ?_, h2⟩
    have ne : f ≠ g := fun z => nd.1 (z ▸ List.mem_of_getElem? e)
    rw [List.lookup_cons, beq_eq_false_iff_ne.mpr ne]
    exact h1
/-- the field's value, where the first of the fields stand -/
theorem fld_read {K : FldOk c n f i} {fs : List (Str × V)} {ds : List D} {G : Hp} {x : D} (hn : fs.map (·.1) = (c.flds n).take ds.length) (k : RpAll c G (fs.map (·.2)) ds) (e : ds[i]? = some x) : ∃ v, fs.lookup f = some v ∧ Rp c G v x := by
  have hi : i < ds.length := (List.getElem?_eq_some_iff.mp e).1
  have nd : (fs.map (·.1)).Nodup := by
    rw [hn]
    exact K.nd.sublist (List.take_sublist _ _)
  obtain ⟨v, h1, h2⟩ := lookup_at nd (by rw [hn, List.getElem?_take_of_lt hi]; exact K.at_)
  obtain ⟨d, h3, h4⟩ := k.getV h2
  rw [e] at h3
  cases h3
  exact ⟨v, h1, h4⟩
theorem Rp.insE {G : Hp} {v : V} {ds : List D} (h : Rp c G v (.ins n ds)) : ∃ a dx fs, v = .ref a ∧ G a = some (.ins (c.cls n) dx fs) ∧ fs.map (·.1) = c.flds n ∧ RpAll c G (fs.map (·.2)) ds := by cases h with | ins h1 h2 h3 => exact ⟨_, _, _, rfl, h1, h2, h3⟩
theorem take_all {fs : List (Str × V)} {ds : List D} {G : Hp} (hn : fs.map (·.1) = c.flds n) (k : RpAll c G (fs.map (·.2)) ds) : fs.map (·.1) = (c.flds n).take ds.length := by
  rw [← hn, ← k.length, List.length_map, ← List.length_map (f := (·.1)), List.take_length]
theorem den_fld (K : FldOk c n f i) (h : Den c W te fe) : Den c W (tFld c.K te f) (mFldE n i fe) := fun B ts vs ρ σ H Q r q => by
  unfold mFldE mUn at q
  rw [post_then] at q
  refine h.dv r (q.imp1 fun x ρ1 q v H1 r1 => ?_)
  cases x <;> first | exact q.elim | skip
  rename_i m ds
  have q : Post (OkP c B ts vs σ Q) (ErrP c W B ts vs σ) (match (if m = n then (ds[i]?).bind ok1 else none) with
    | some s => .ok s ρ1
    | none => .stuck) := q
  by_cases hm : m = n
  · subst hm
    rw [if_pos rfl] at q
    cases e : ds[i]? with
    | none => rw [e] at q; exact q.elim
    | some x =>
      rw [e] at q
      obtain ⟨G, O, hv⟩ := r1.one
      obtain ⟨a, dx, fs, rfl, ha, hn, k⟩ := hv.insE
      obtain ⟨w, h1, h2⟩ := fld_read (K := K) (take_all hn k) k e
      exact ⟨a, _, dx, fs, w, rfl, O.sub _ _ ha, K.cl, K.na, h1, q _ _ (O.val h2)⟩
  · rw [if_neg hm] at q
    exact q.elim
/-- self.f = e, the next of its fields -/
def mSetF (n : String) (i k : Nat) (fe : M S) : M Fl := fun ρ => (dv fe ρ).then fun x ρ1 => match ρ1[k]? with
  | some (some (.o b (.ins m ds))) => if m = n ∧ ds.length = i then .ok .nx (ρ1.set k (some (.o b (.ins m (ds ++ [x]))))) else .stuck
  | _ => .stuck
theorem putF_new : ∀ {fs : List (Str × V)} {f : Str} {v : V}, f ∉ fs.map (·.1) → (putF f v fs).map (·.1) = fs.map (·.1) ++ [f] ∧ (putF f v fs).map (·.2) = fs.map (·.2) ++ [v]
  | [], f, v, _ => by simp [putF]
  | (g, u) :: fs, f, v, h => by
    rw [List.map_cons, List.mem_cons, not_or] at h
    obtain ⟨h1, h2⟩ := putF_new (v := v) h.2
    have e : putF f v ((g, u) :: fs) = (g, u) :: putF f v fs := by
      show (if g = f then (g, v) :: fs else (g, u) :: putF f v fs) = _
      rw [if_neg (fun z => h.1 z.symm)]
    rw [e]
    simp [h1, h2]
theorem ds_setF (K : FldOk c n f i) (hi : (c.flds n).length ≤ 100) (h : Den c W te fe) : DenS c W (sFld c.K (tVar k) te f) (mSetF n i k fe) := fun B ts vs ρ σ H D r q0 => by
  unfold mSetF at q0
  rw [post_then] at q0
  refine h.dv r (q0.imp (fun x ρ1 q v H1 r1 => ?_) fun _ _ h => h.toP)
  split at q
  · rename_i b m ds e
    split at q
    · rename_i hm
      obtain ⟨rfl, hl⟩ := hm
      obtain ⟨a, ev, G, sub, dx, fs, ha, hn, ka⟩ := r1.varO e
      have hil : i < (c.flds m).length := (List.getElem?_eq_some_iff.mp K.at_).1
      have hfl : fs.length = ds.length := by
        have := ka.length
        simpa using this
      have nf : f ∉ fs.map (·.1) := by
        rw [hn, hl]
        intro hm
        obtain ⟨j, hj, ej⟩ := List.mem_iff_getElem.mp hm
        have hj2 : j < i := by
          rw [List.length_take] at hj
          omega
        rw [List.getElem_take] at ej
        have e2 := (List.getElem?_eq_some_iff.mp K.at_).2
        have := (List.getElem_inj K.nd).mp (ej.trans e2.symm)
        omega
      refine ⟨.ref a, ev, a, _, dx, fs, rfl, ha, K.cl, K.na, by omega, ?_⟩
      refine q _ _ (Rep.write (ds := [x]) (us := [v]) e ev rfl r1 ha (.ins _ _ _) fun G H' e' hc hk => ?_)
      obtain ⟨dx', fs', ha', hn', ka'⟩ := hc
      rw [ha] at ha'
      cases ha'
      obtain ⟨p1, p2⟩ := putF_new (v := v) nf
      refine ⟨dx, _, e', ?_, ?_⟩
      · rw [p1, hn, List.length_append, List.length_singleton, hl, List.take_succ, K.at_]
        rfl
      · rw [p2]
        cases hk with
        | cons hk _ => exact ka'.snoc hk
    · exact q.elim
  · exact q.elim
end
/-- C(..) -/
def mMake (n : String) (nf : Nat) (F : Fn) (fA : M (List D)) : M S := fun ρ => (fA ρ).then fun ds ρ1 => match F (S.o (some 0) (D.ins n []) :: ds.map S.d) with
  | .ok (.d .non) ρ' => match (ρ'[0]? : Option (Option S)) with
    | some (some (.o (some j) (.ins m fs))) => if j = 0 ∧ m = n ∧ fs.length = nf then .ok (.d (.ins n fs)) ρ1 else .stuck
    | _ => .stuck
  | _ => .stuck
section
variable {c : Cfg} {W : WX} {tA : TA} {fA : M (List D)} {F : Fn} {n : String} {nf : Nat} {E : XK}
theorem Rep.foreign {B : Base} {ts : En} {vs : List (Option V)} {ρ : En} {σ : L2.St} {H : Hp} {p : Addr} {o : HO} (hp : H p = none) (r : Rep c B ts vs ρ σ H) : Rep c B ts vs ρ σ (upd H p o) := by
  obtain ⟨G, o1, o2, k, h1, h2⟩ := r
  have ow := own_new (o := o) k hp
  refine ⟨G, o1, o2, ⟨fun a u e => ?_, k.notbl, k.nd, fun q hq => ?_, tabs_new k.tabs hp⟩, h1.mono (fun _ _ e => e) fun q hq => ow q (List.mem_append_left _ hq), h2.mono (fun _ _ e => e) fun q hq => ow q (List.mem_append_right _ hq)⟩
  · rw [upd_ne (ne_of_none (k.sub a u e) hp)]
    exact k.sub a u e
  · rw [ow q hq]
    exact k.out q hq
theorem den_make (hnf : (c.flds n).length = nf) (h : DenA c W tA fA) : Den c W (tMake (c.cls n) (spF c F) [] E tA) (mMake n nf F fA) := fun B ts vs ρ σ H Q r q0 => by
  unfold mMake at q0
  rw [post_then] at q0
  refine h B ts vs ρ σ H _ r (q0.imp1 fun ds ρ1 q us H1 hl r1 => ?_)
  intro x dx hx hdx ne
  show spF c F (.ref x :: (us ++ [])) _ _ E
  rw [List.append_nil]
  have r2 := Rep.foreign (o := .own x) hdx r1
  have hx2 : upd H1 dx (.own x) x = none := by rw [upd_ne ne.symm]; exact hx
  have ra : Rep c ⟨fun k => if k = 0 then some x else none⟩ (erE ts ++ erE ρ1) (vs ++ σ) ((S.o (some 0) (.ins n []) :: ds.map S.d).map some) ((V.ref x :: us).map some) (upd (upd H1 dx (.own x)) x (.ins (c.cls n) dx [])) := by
    obtain ⟨G, o1, o2, k, h1, h2⟩ := r2
    obtain ⟨a1, a2⟩ := h1.tmp hl
    have k2 := (k.allocO (o := .ins (c.cls n) dx []) hx2)
    have ow := own_new (o := .ins (c.cls n) dx []) k hx2
    have nd := k2.nd
    rw [List.nodup_cons] at nd
    refine ⟨G, o1 ++ o2, [x], (k2.anyB).subO (fun p hp => ?_) ?_, ((a2.mono (fun _ _ e => e) fun q hq => ow q (List.mem_append_left _ hq)).er).app (h2.mono (fun _ _ e => e) fun q hq => ow q (List.mem_append_right _ hq)).er, ?_⟩
    · rcases List.mem_append.mp hp with hp | hp
      · exact List.mem_cons_of_mem _ hp
      · simp at hp
        subst hp
        exact List.mem_cons_self
    · rw [List.nodup_append]
      refine ⟨nd.2, by simp, fun y hy z hz => ?_⟩
      simp at hz
      subst hz
      exact fun e => nd.1 (e ▸ hy)
    · rw [List.map_cons, List.map_map]
      exact .o ⟨dx, [], upd_same, by simp, .nil⟩ (fun k hk => by cases hk; rfl) a1.slot
  refine ⟨_, _, _, _, ra, ?_⟩
  have r3 := r1.dropN hl
  cases hf : F (S.o (some 0) (D.ins n []) :: ds.map S.d) with
  | stuck => rw [hf] at q; exact q.elim
  | err e ρ' => rw [hf] at q; exact q.elim
  | ok s ρ' =>
    rw [hf] at q
    match s, q with
    | .d .non, q =>
      have q2 : Post (OkP c B ts vs σ Q) (ErrP c W B ts vs σ) (match (ρ'[0]? : Option (Option S)) with
        | some (some (.o (some j) (.ins m fs))) => if j = 0 ∧ m = n ∧ fs.length = nf then .ok (.d (.ins n fs)) ρ1 else .stuck
        | _ => .stuck) := q
      clear q
      split at q2
      · rename_i j m fs e'
        split at q2
        · rename_i hh
          obtain ⟨rfl, rfl, hfs⟩ := hh
          intro v σ' H' r'
          obtain ⟨G, o1, o2, k, h1, h2⟩ := r'
          obtain ⟨a, ev, hc, hm, hb⟩ := h2.getO e'
          have ea : a = x := by
            have := hb 0 rfl
            simp at this
            exact this.symm
          subst ea
          cases h1 with
          | d hv h1 =>
            cases hv
            refine ⟨rfl, q2 _ _ ?_⟩
            obtain ⟨dx', gs, ha, hn, ka⟩ := hc
            obtain ⟨G0, p1, p2, k0, g1, g2⟩ := r3
            obtain ⟨q1, q2, rfl, f1, f2⟩ := h1.split (by rw [show (erE ts).length = ts.length by simp [erE]]; exact g1.length)
            have nd := k.nd
            rw [List.nodup_append] at nd
            have gp := (k.out a (List.mem_append_right _ hm)).1
            have k3 : OkB c B (upd G a (.ins (c.cls m) dx' gs)) H' (q1 ++ q2) := (k.anyB).freeze (List.mem_append_right _ hm) ha rfl (fun q hq => ⟨List.mem_append_left _ hq, nd.2.2 q hq a hm⟩) nd.1
            refine ⟨_, q1, q2, k3, .d (.ins upd_same ?_ (ka.mono (upd_sub gp))) ((g1.unflag f1).mono (upd_sub gp) fun _ _ => rfl), (g2.unflag f2).mono (upd_sub gp) fun _ _ => rfl⟩
            rw [hn, hfs, ← hnf, List.take_length]
        · exact q2.elim
      · exact q2.elim
end
end Fx
/-! slices, chains, truth, isinstance, cells of names -/
namespace Fx
open PySem PySem.Spec PyProof.Rows L2
/-! ### slices -/
def cutD (xs : List D) (lo hi : Option Int) : List D := (xs.drop (HT.sIx xs.length 0 lo)).take (HT.sIx xs.length xs.length hi - HT.sIx xs.length 0 lo)
theorem RpAll.cut {c : Cfg} {G : Hp} {us : List V} {xs : List D} (k : RpAll c G us xs) (lo hi : Option Int) : RpAll c G (cutV us lo hi) (cutD xs lo hi) := by
  unfold cutV cutD
  rw [k.length]
  exact (k.drop _).take _
def rSlG (K : PySem.W.Frag) : V → Option Int → Option Int → Hp → VK → Prop := fun x lo hi H Q => rSlN K x lo hi H Q ∨ rSlL K x lo hi H Q ∨ C8.rSlX x lo hi H Q
theorem sl_G {X : Cx} : SlR X (rSlG X.K) := SlR.or sl_tupN (SlR.or sl_list C8.sl_txt)
def gSl (x : D) (lo hi : Option Int) : Option S := match x with
  | .tup xs => ok1 (.tup (cutD xs lo hi))
  | .lst xs => some (.o none (.lst (cutD xs lo hi)))
  | .str z => if small z.length then ok1 (.str (Txt.slice z lo hi)) else none
  | _ => none
def oNone : M (Option Int) := fun ρ => .ok none ρ
def oSome (f : M S) : M (Option Int) := fun ρ => (dv f ρ).then fun x ρ' => match x with
  | .int i => .ok (some i) ρ'
  | _ => .stuck
def DenO (c : Cfg) (W : WX) (to : TO) (f : M (Option Int)) : Prop := ∀ B ts vs ρ σ H Q, Rep c B ts vs ρ σ H → Post (fun o ρ' => ∀ H', Rep c B ts vs ρ' σ H' → Q o H') (ErrP c W B ts vs σ) (f ρ) → to σ H Q
def mSl (fe : M S) (fl fh : M (Option Int)) : M S := fun ρ => (dv fe ρ).then fun x ρ1 => (fl ρ1).then fun lo ρ2 => (fh ρ2).then fun hi ρ3 => match gSl x lo hi with
  | some s => .ok s ρ3
  | none => .stuck
section
variable {c : Cfg} {W : WX} {te ta tb tc : TE} {fe fa fb fc : M S} {tl th : TO} {fl fh : M (Option Int)}
theorem do_none : DenO c W tNoPart oNone := fun B ts vs ρ σ H Q r q => q H r
theorem do_some (h : Den c W te fe) : DenO c W (tPart te) (oSome fe) := fun B ts vs ρ σ H Q r q => by
  unfold oSome at q
  rw [post_then] at q
  refine h.dv r (q.imp1 fun x ρ1 q v H1 r1 => ?_)
  cases x <;> first | exact q.elim | skip
  obtain ⟨G, O, hv⟩ := r1.one
  cases hv
  exact ⟨_, rfl, q H1 r1.drop⟩
theorem cutD_all {xs : List D} {lo hi : Option Int} (h : HT.sIx xs.length 0 lo = 0 ∧ HT.sIx xs.length xs.length hi = xs.length) : cutD xs lo hi = xs := by
  unfold cutD
  rw [h.1, h.2]
  simp
theorem den_sl (h : Den c W te fe) (hl : DenO c W tl fl) (hh : DenO c W th fh) : Den c W (tSl (rSlG c.K) te tl th) (mSl fe fl fh) := fun B ts vs ρ σ H Q r q => by
  unfold mSl at q
  rw [post_then] at q
  refine h.dv r (q.imp1 fun x ρ1 q1 v H1 r1 => ?_)
  rw [post_then] at q1
  refine hl B _ _ ρ1 σ H1 _ r1 (q1.imp (fun lo ρ2 q2 H2 r2 => ?_) fun _ _ h => h.drop)
  rw [post_then] at q2
  refine hh B _ _ ρ2 σ H2 _ r2 (q2.imp (fun hi ρ3 q3 H3 r3 => ?_) fun _ _ h => h.drop)
  obtain ⟨G, O, hv⟩ := r3.one
  cases x with
  | tup xs =>
    obtain ⟨a, us, rfl, ha, k, n⟩ := hv.tupN
    refine .inl ⟨a, us, rfl, SqT.up O.sub ha, fun hw => ?_, fun hw p o hp ho => ?_⟩
    · rw [k.length] at hw
      have e : cutD xs lo hi = xs := cutD_all hw
      have q4 : OkP c B ts vs σ Q (.d (.tup (cutD xs lo hi))) ρ3 := q3
      rw [e] at q4
      exact q4 _ _ (O.val (.tup ha k n))
    · exact q3 _ _ (O.new hp rfl fun G' m e => .tup (.inl (.inr ⟨o, e⟩)) ((k.cut lo hi).mono m) fun _ => ⟨o, e, ho⟩)
  | lst xs =>
    obtain ⟨a, us, rfl, ha, k⟩ := hv.lstE
    exact .inr (.inl ⟨a, us, rfl, SqL.of (O.sub _ _ ha), fun p hp => q3 _ _ (O.newO hp fun H' e => ⟨_, e, k.cut lo hi⟩)⟩)
  | str z =>
    have q4 : Post (OkP c B ts vs σ Q) (ErrP c W B ts vs σ) (match (if small z.length then ok1 (.str (Txt.slice z lo hi)) else none) with
      | some s => .ok s ρ3
      | none => .stuck) := q3
    by_cases hz : small z.length = true
    · rw [if_pos hz] at q4
      cases hv
      exact .inr (.inr ⟨z, rfl, small_line hz, q4 _ _ (O.val (.str _))⟩)
    · rw [if_neg hz] at q4
      exact q4.elim
  | _ => exact q3.elim
/-! ### a op b op c -/
def mChain (g g' : D → D → Option S) (fa fb fc : M S) : M S := fun ρ => (dv fa ρ).then fun x ρ1 => (dv fb ρ1).then fun y ρ2 => match g x y with
  | some (.d (.bl true)) => (dv fc ρ2).then fun z ρ3 => match g' y z with
      | some s => .ok s ρ3
      | none => .stuck
  | some (.d (.bl false)) => .ok (.d (.bl false)) ρ2
  | _ => .stuck
theorem den_chain {r r' : R2} {g g' : D → D → Option S} (ho : OpDen c r g) (ho' : OpDen c r' g') (hmono : ∀ x y H Q Q', (∀ v H', Q v H' → Q' v H') → r x y H Q → r x y H Q') (ha : Den c W ta fa) (hb : Den c W tb fb) (hc : Den c W tc fc) : Den c W (tChain r r' ta tb tc) (mChain g g' fa fb fc) := fun B ts vs ρ σ H Q rp q => by
  unfold mChain at q
  rw [post_then] at q
  refine ha.dv rp (q.imp1 fun x ρ1 q1 v H1 r1 => ?_)
  rw [post_then] at q1
  refine hb.dv r1 (q1.imp (fun y ρ2 q2 u H2 r2 => ?_) fun _ _ h => h.drop)
  have fin : ∀ b, g x y = some (.d (.bl b)) → (if b = true then ∀ H3, Rep c B (some (.d y) :: ts) (some u :: vs) ρ2 σ H3 → tc σ H3 (fun w' H4 => r' u w' H4 Q) else ∀ H3, Rep c B ts vs ρ2 σ H3 → Q (.bl false) H3) → r v u H2 fun z H3 => ∃ k, z = .bl k ∧ (if k = true then tc σ H3 (fun w' H4 => r' u w' H4 Q) else Q (.bl false) H3) := by
    intro b hg hk
    -- keep y waiting
    have r3 : Rep c B (some (.d y) :: some (.d x) :: some (.d y) :: ts) (some u :: some v :: some u :: vs) ρ2 σ H2 := by
      obtain ⟨G, o1, o2, k, h1, h2⟩ := r2
      cases h1 with
      | d a h1 =>
        cases h1 with
        | d b h1 => exact ⟨G, o1, o2, k, .d a (.d b (.d a h1)), h2⟩
    refine ho B _ _ ρ2 σ H2 _ x y v u _ r3 hg fun w H3 r4 => ?_
    obtain ⟨G, O, hw⟩ := r4.one
    cases hw
    refine ⟨b, rfl, ?_⟩
    cases b with
    | true => exact hk H3 r4.drop
    | false => exact hk H3 r4.drop.drop
  split at q2
  · rename_i hg
    refine fin true hg fun H3 r3 => ?_
    rw [post_then] at q2
    refine hc.dv r3 (q2.imp (fun z ρ3 q3 w H4 r4 => ?_) fun _ _ h => h.drop)
    split at q3
    · rename_i s hs
      exact ho' B ts vs ρ3 σ H4 Q y z u w s r4 hs q3
    · exact q3.elim
  · rename_i hg
    exact fin false hg fun H3 r3 => OkP.bl q2 r3
  · exact q2.elim
end
/-! ### truth -/
def truD : D → Option Bool
  | .non => some false
  | .bl b => some b
  | .int i => some (i != 0)
  | .str z => if small z.length then some ((z.length : Int) != 0) else none
  | .tup ds => some (!ds.isEmpty)
  | .lst ds => some (!ds.isEmpty)
  | _ => none
def mTruth (fe : M S) : M Bool := fun ρ => (dv fe ρ).then fun x ρ1 => match truD x with
  | some b => .ok b ρ1
  | none => .stuck
/-- .. of a name's cell -/
def mTruthO (i : Nat) : M Bool := fun ρ => match ρ[i]? with
  | some (some (.o _ (.lst ds))) => .ok (!ds.isEmpty) ρ
  | some (some (.d x)) => match truD x with
    | some b => .ok b ρ
    | none => .stuck
  | _ => .stuck
section
variable {c : Cfg} {W : WX} {te : TE} {fe : M S} {i : Nat}
theorem isEmpty_len {α β : Type} {xs : List α} {ys : List β} (h : xs.length = ys.length) : xs.isEmpty = ys.isEmpty := by
  cases xs <;> cases ys <;> first | rfl | simp at h
theorem Rp.tru {G H : Hp} {v : V} {x : D} {b : Bool} (s : ∀ a o, G a = some o → H a = some o) (h : Rp c G v x) (e : truD x = some b) : TruV c.K v H b := by
  cases x with
  | non => cases e; cases h; rfl
  | bl b => cases e; cases h; rfl
  | int i => cases e; cases h; rfl
  | str z =>
    have e : (if small z.length then some ((z.length : Int) != 0) else none) = some b := e
    split at e
    · rename_i hz
      cases e
      cases h
      exact ⟨small_line hz, rfl⟩
    · cases e
  | tup ds =>
    cases e
    obtain ⟨a, us, rfl, ha, k⟩ := h.tupE
    exact .inr (.inl ⟨us, SqT.up s ha, by rw [isEmpty_len k.length]⟩)
  | lst ds =>
    cases e
    obtain ⟨a, us, rfl, ha, k⟩ := h.lstE
    exact .inl ⟨us, SqL.of (s _ _ ha), by rw [isEmpty_len k.length]⟩
  | _ => cases e
def tTru (K : PySem.W.Frag) (te : TE) : TT := fun σ H Q => te σ H fun x H1 => ∃ k, TruV K x H1 k ∧ Q k H1
theorem dt_truth (h : Den c W te fe) : DenT c W (tTru c.K te) (mTruth fe) := fun B ts vs ρ σ H Q r q => by
  unfold mTruth at q
  rw [post_then] at q
  refine h.dv r (q.imp1 fun x ρ1 q v H1 r1 => ?_)
  split at q
  · rename_i b e
    obtain ⟨G, O, hv⟩ := r1.one
    exact ⟨b, hv.tru O.sub e, q H1 r1.drop⟩
  · exact q.elim
theorem dt_truthO : DenT c W (tTru c.K (tVar i)) (mTruthO i) := fun B ts vs ρ σ H Q r q => by
  unfold mTruthO at q
  split at q
  · rename_i b ds e
    obtain ⟨a, ev, G, sub, us, ha, k⟩ := r.varO e
    exact ⟨.ref a, ev, _, .inl ⟨us, SqL.of ha, rfl⟩, by rw [isEmpty_len k.length]; exact q H r⟩
  · rename_i x e
    split at q
    · rename_i b eb
      obtain ⟨v, ev, r1⟩ := r.var e
      obtain ⟨G, O, hv⟩ := r1.one
      exact ⟨v, ev, b, hv.tru O.sub eb, q H r⟩
    · exact q.elim
  · exact q.elim
end
/-! ### isinstance -/
def tyD : D → Option String
  | .non => some "NoneType"
  | .bl _ => some "bool"
  | .int _ => some "int"
  | .str _ => some "str"
  | .tup _ => some "tuple"
  | .lst _ => some "list"
  | _ => none
theorem Rp.tyX {c : Cfg} {G H : Hp} {v : V} {x : D} {n : String} (s : ∀ a o, G a = some o → H a = some o) (h : Rp c G v x) (e : tyD x = some n) : TyX c.K H v (.type n) := by
  cases h with
  | non => cases e; exact .base .non
  | bl b => cases e; exact .base (.bl b)
  | int i => cases e; exact .base (.int i)
  | str z => cases e; exact .base (.str z)
  | tup ha _ =>
    cases e
    rcases SqT.up s ha with (ha | ⟨o, ha⟩) | ⟨o, its, m, hk, hc, _⟩
    · exact .base (.tup ha)
    · exact .fTuple ha
    · exact .kTuple hk hc
  | lst ha _ => cases e; exact .base (.lst (s _ _ ha))
  | _ => cases e
def isTy (n : String) (x : D) : Option Bool := match n, x with
  | "int", .int _ => some true
  | "int", .bl _ => some true
  | "int", .non => some false
  | "int", .str _ => some false
  | "int", .tup _ => some false
  | "int", .lst _ => some false
  | "bool", .bl _ => some true
  | "bool", .int _ => some false
  | "bool", .non => some false
  | "bool", .str _ => some false
  | "bool", .tup _ => some false
  | "bool", .lst _ => some false
  | "str", .str _ => some true
  | "str", .int _ => some false
  | "str", .bl _ => some false
  | "str", .non => some false
  | "str", .tup _ => some false
  | "str", .lst _ => some false
  | "tuple", .tup _ => some true
  | "tuple", .int _ => some false
  | "tuple", .bl _ => some false
  | "tuple", .non => some false
  | "tuple", .str _ => some false
  | "tuple", .lst _ => some false
  | "list", .lst _ => some true
  | "list", .int _ => some false
  | "list", .bl _ => some false
  | "list", .non => some false
  | "list", .str _ => some false
  | "list", .tup _ => some false
  | _, _ => none
theorem isTy_kit {n : String} {x : D} {b : Bool} (h : isTy n x = some b) : ∃ m, tyD x = some m ∧ kitB m n = some b := by
  unfold isTy at h
  split at h <;> first | cases h | skip
  all_goals exact ⟨_, rfl, by decide +kernel⟩
def gIsi : List D → Option S
  | [x, .ty n] => (isTy n x).bind fun b => ok1 (.bl b)
  | _ => none
theorem cd_isi {c : Cfg} : CbDen c (rIsi c.K) gIsi := by
  intro B ts vs ρ σ H Q ds us s hl r e q
  match ds, hl, r, e with
  | [x, .ty n], hl, r, e =>
    obtain ⟨v, w, rfl, G, O, h1, h2⟩ := r.two' hl
    have e : (isTy n x).bind (fun b => ok1 (.bl b)) = some s := e
    cases e1 : isTy n x with
    | none => rw [e1] at e; cases e
    | some b =>
      rw [e1] at e
      cases e
      cases h2
      obtain ⟨m, t1, t2⟩ := isTy_kit e1
      exact ⟨v, .ty n, .type m, .type n, b, rfl, .ty n, h1.tyX O.sub t1, kit_ty t2, q _ _ (O.val (.bl _))⟩
/-- isinstance of an own class -/
structure ClsOk (c : Cfg) (n : String) : Prop where
  cl : Cls c.K (c.cls n)
  at_ : PySem.W.findIn c.K (.ref (c.cls n)) "__class__" = some (some (.builtin "object.__class__"))
  get : PySem.W.specialIn c.K (.builtin "object.__class__") "__get__" = some (some (.builtin "getset_descriptor.__get__"))
  tk : PySem.W.takesIn c.K (.builtin "object.__class__") = some true
  mr : PySem.W.mroIn c.K (c.cls n) (.type "object") = some true
  self : PySem.W.kitOne c.K (.ref (c.cls n)) (.ref (c.cls n)) = some true
def tIsC (K : PySem.W.Frag) (C : Addr) (te : TE) : TE := tCB (rIsi K) (tCons te (tCons (tC (.ref C)) tNil))
def mIsC (n : String) (fe : M S) : M S := mUn (fun x => match x with
  | .ins m _ => if m = n then ok1 (.bl true) else none
  | _ => none) fe
theorem den_isC {c : Cfg} {W : WX} {n : String} {te : TE} {fe : M S} (K : ClsOk c n) (h : Den c W te fe) : Den c W (tIsC c.K (c.cls n) te) (mIsC n fe) := fun B ts vs ρ σ H Q r q => by
  unfold mIsC mUn at q
  rw [post_then] at q
  refine h.dv r (q.imp1 fun x ρ1 q v H1 r1 => ?_)
  cases x <;> first | exact q.elim | skip
  rename_i m ds
  have q2 : Post (OkP c B ts vs σ Q) (ErrP c W B ts vs σ) (match (if m = n then ok1 (.bl true) else none) with
    | some s => .ok s ρ1
    | none => .stuck) := q
  clear q
  by_cases hm : m = n
  · subst hm
    rw [if_pos rfl] at q2
    obtain ⟨G, O, hv⟩ := r1.one
    obtain ⟨a, dx, fs, rfl, ha, _, _⟩ := hv.insE
    exact ⟨.ref a, .ref _, .ref _, .ref _, true, rfl, .own _, .base (.ins (O.sub _ _ ha) K.cl K.at_ K.get K.tk K.mr), K.self, q2 _ _ (O.val (.bl _))⟩
  · rw [if_neg hm] at q2
    exact q2.elim
/-! ### cells of names: what is read of them, how they are changed -/
/-- what stands at a name, wherever -/
def peek (ρ : En) (i : Nat) : Option D := match ρ[i]? with
  | some (some (.d x)) => some x
  | some (some (.o _ x)) => some x
  | _ => none
section
variable {c : Cfg} {W : WX} {B : Base} {ts : En} {vs : List (Option V)} {ρ : En} {σ : L2.St} {H : Hp} {te : TE} {fe : M S} {i : Nat}
theorem Rep.peekL {ds : List D} (e : peek ρ i = some (.lst ds)) (r : Rep c B ts vs ρ σ H) : ∃ a us G o1 o2, σ[i]? = some (some (.ref a)) ∧ H a = some (.lst us) ∧ RpAll c G us ds ∧ OkB c B G H (o1 ++ o2) ∧ Sl c B G H ts vs o1 ∧ Sl c B G H ρ σ o2 := by
  unfold peek at e
  obtain ⟨G, o1, o2, k, h1, h2⟩ := r
  split at e
  · rename_i x e1
    cases e
    obtain ⟨v, ev, hv⟩ := h2.getD e1
    obtain ⟨a, us, rfl, ha, ka⟩ := hv.lstE
    exact ⟨a, us, G, o1, o2, ev, k.sub _ _ ha, ka, k, h1, h2⟩
  · rename_i b x e1
    cases e
    obtain ⟨a, ev, ⟨us, ha, ka⟩, _, _⟩ := h2.getO e1
    exact ⟨a, us, G, o1, o2, ev, ha, ka, k, h1, h2⟩
  · cases e
/-- len(x), x a name -/
def mLenO (i : Nat) : M S := fun ρ => match peek ρ i with
  | some (.lst ds) => .ok (.d (.int ds.length)) ρ
  | _ => match ρ[i]? with
    | some (some (.d x)) => match lenD x with
      | some n => .ok (.d (.int n)) ρ
      | none => .stuck
    | _ => .stuck
/-- x[e], x a name that holds a list -/
def peekL (ρ : En) (i : Nat) : Bool := match peek ρ i with
  | some (.lst _) => true
  | _ => false
def mIxO (i : Nat) (fe : M S) : M S := fun ρ => if peekL ρ i then (dv fe ρ).then fun y ρ1 => match peek ρ1 i, y with
    | some (.lst ds), .int k => match atI ds k with
      | some x => .ok (.d x) ρ1
      | none => .stuck
    | _, _ => .stuck
  else .stuck
theorem den_lenO : Den c W (tCB (rLenG c.K) (tCons (tVar i) tNil)) (mLenO i) := fun B ts vs ρ σ H Q r q => by
  unfold mLenO at q
  split at q
  · rename_i ds e
    obtain ⟨a, us, G, o1, o2, ev, ha, ka, k, h1, h2⟩ := r.peekL e
    exact ⟨.ref a, ev, .inl ⟨a, us, rfl, .inl (SqL.of ha), by rw [ka.length]; exact q _ _ (Rep.repl (ds := []) (us := []) r rfl fun G _ => .int _)⟩⟩
  · split at q
    · rename_i x ed
      split at q
      · rename_i n en
        obtain ⟨v, ev, r1⟩ := r.var ed
        refine ⟨v, ev, cd_len B ts vs ρ σ H Q [x] [v] (.d (.int n)) rfl r1 ?_ q⟩
        show (lenD x).bind (fun n => ok1 (.int n)) = _
        rw [en]
        rfl
      · exact q.elim
    · exact q.elim
theorem den_ixO (h : Den c W te fe) : Den c W (tOp (rIx c.K) (tVar i) te) (mIxO i fe) := fun B ts vs ρ σ H Q r q => by
  unfold mIxO at q
  split at q
  · rename_i hp
    unfold peekL at hp
    split at hp
    · rename_i ds0 e0
      obtain ⟨a0, us0, _, _, _, ev, _⟩ := r.peekL e0
      rw [post_then] at q
      refine ⟨.ref a0, ev, h.dv r (q.imp1 fun y ρ1 q1 v H1 r1 => ?_)⟩
      split at q1
      · rename_i ds k e1
        obtain ⟨G, O, hv⟩ := r1.one
        cases hv
        obtain ⟨a, us, G, o1, o2, ev1, ha, ka, kk, h1, h2⟩ := r1.peekL e1
        rw [ev] at ev1
        cases ev1
        split at q1
        · rename_i x ex
          obtain ⟨w, ew, hw⟩ := ka.atI ex
          refine .inl ⟨a0, us, k, w, rfl, rfl, SqL.of ha, ew, q1 _ _ ?_⟩
          cases h1 with
          | d _ h1 => exact ⟨G, o1, o2, kk, .d hw h1, h2⟩
        · exact q1.elim
      · exact q1.elim
    · cases hp
  · exact q.elim
/-- a name that holds a list -/
def ownL (ρ : En) (i : Nat) : Bool := match ρ[i]? with
  | some (some (.o _ (.lst _))) => true
  | _ => false
theorem ownL_at (h : ownL ρ i = true) (r : Rep c B ts vs ρ σ H) : ∃ a us, σ[i]? = some (some (.ref a)) ∧ H a = some (.lst us) := by
  unfold ownL at h
  split at h
  · rename_i b ds e
    obtain ⟨a, ev, G, sub, us, ha, k⟩ := r.varO e
    exact ⟨a, us, ev, ha⟩
  · cases h
def mMeth1 (i : Nat) (g : List D → D → Option (D × List D)) (fe : M S) : M S := fun ρ => if ownL ρ i then (dv fe ρ).then fun y ρ1 => match ρ1[i]? with
    | some (some (.o b (.lst ds))) => match g ds y with
      | some (z, es) => .ok (.d z) (ρ1.set i (some (.o b (.lst es))))
      | none => .stuck
    | _ => .stuck
  else .stuck
/-- how a method changes a list -/
def MthDen (c : Cfg) (r : V → List V → Hp → VK → Prop) (g : List D → D → Option (D × List D)) : Prop := ∀ (G H : Hp) (Q : VK) (a : Addr) (us : List V) (ds : List D) (y z : D) (v : V) (es : List D), (∀ b o, G b = some o → H b = some o) → H a = some (.lst us) → RpAll c G us ds → Rp c G v y → g ds y = some (z, es) →
  (∀ w us', Rp c G w z → RpAll c G us' es → Q w (upd H a (.lst us'))) → r (.ref a) [v] H Q
theorem den_meth1 {r : V → List V → Hp → VK → Prop} {g : List D → D → Option (D × List D)} (hm : MthDen c r g) (h : Den c W te fe) : Den c W (tBM c.K "list" r (tVar i) (tCons te tNil)) (mMeth1 i g fe) := fun B ts vs ρ σ H Q rp q => by
  unfold mMeth1 at q
  split at q
  · rename_i ho
    obtain ⟨a, us, ev, ha⟩ := ownL_at ho rp
    rw [post_then] at q
    refine ⟨.ref a, ev, .inl ⟨rfl, us, SqL.of ha⟩, h.dv rp (q.imp1 fun y ρ1 q1 v H1 r1 => ?_)⟩
    split at q1
    · rename_i b ds e1
      split at q1
      · rename_i z es eg
        obtain ⟨G, o1, o2, k, h1, h2⟩ := id r1
        obtain ⟨a', ev', ⟨us', ha', ka⟩, hmem, hb⟩ := h2.getO e1
        rw [ev] at ev'
        cases ev'
        cases h1 with
        | d hv h1 =>
          refine hm G H1 Q a us' ds y z v es k.sub ha' ka hv eg fun w us2 hw hk => q1 w _ ?_
          have nd := k.nd
          rw [List.nodup_append] at nd
          exact ⟨G, o1, o2, k.write (List.mem_append_right _ hmem) ha' (.lst _), .d hw (h1.mono (fun _ _ e => e) fun q hq => upd_ne fun z => nd.2.2 q hq a hmem z), h2.write nd.2.1 e1 ev (fun q hq => upd_ne hq) ⟨us2, upd_same, hk⟩⟩
      · exact q1.elim
    · exact q1.elim
  · exact q.elim
def mMeth0 (i : Nat) (g : List D → Option (D × List D)) : M S := fun ρ => match ρ[i]? with
  | some (some (.o b (.lst ds))) => match g ds with
    | some (z, es) => .ok (.d z) (ρ.set i (some (.o b (.lst es))))
    | none => .stuck
  | _ => .stuck
def Mth0Den (c : Cfg) (r : V → List V → Hp → VK → Prop) (g : List D → Option (D × List D)) : Prop := ∀ (G H : Hp) (Q : VK) (a : Addr) (us : List V) (ds : List D) (z : D) (es : List D), H a = some (.lst us) → RpAll c G us ds → g ds = some (z, es) →
  (∀ w us', Rp c G w z → RpAll c G us' es → Q w (upd H a (.lst us'))) → r (.ref a) [] H Q
theorem den_meth0 {r : V → List V → Hp → VK → Prop} {g : List D → Option (D × List D)} (hm : Mth0Den c r g) : Den c W (tBM0 c.K "list" r (tVar i)) (mMeth0 i g) := fun B ts vs ρ σ H Q rp q => by
  unfold mMeth0 at q
  split at q
  · rename_i b ds e1
    split at q
    · rename_i z es eg
      obtain ⟨G, o1, o2, k, h1, h2⟩ := id rp
      obtain ⟨a, ev, ⟨us, ha, ka⟩, hmem, hb⟩ := h2.getO e1
      refine ⟨.ref a, ev, .inl ⟨rfl, us, SqL.of ha⟩, hm G H Q a us ds z es ha ka eg fun w us2 hw hk => q w _ ?_⟩
      have nd := k.nd
      rw [List.nodup_append] at nd
      exact ⟨G, o1, o2, k.write (List.mem_append_right _ hmem) ha (.lst _), .d hw (h1.mono (fun _ _ e => e) fun q hq => upd_ne fun z => nd.2.2 q hq a hmem z), h2.write nd.2.1 e1 ev (fun q hq => upd_ne hq) ⟨us2, upd_same, hk⟩⟩
    · exact q.elim
  · exact q.elim
def gApp (ds : List D) (y : D) : Option (D × List D) := if small (ds.length + 1) then some (.non, ds ++ [y]) else none
theorem md_app : MthDen c rAppend gApp := by
  intro G H Q a us ds y z v es sub ha ka hv e q
  unfold gApp at e
  split at e
  · rename_i hz
    cases e
    refine ⟨a, us, v, rfl, rfl, ha, ?_, q _ _ .non (ka.snoc hv)⟩
    have := small_line hz
    rw [ka.length]
    omega
  · cases e
def gExt (ds : List D) (y : D) : Option (D × List D) := match y with
  | .lst es => if small (ds.length + es.length) then some (.non, ds ++ es) else none
  | _ => none
theorem md_ext : MthDen c rExtend gExt := by
  intro G H Q a us ds y z v es sub ha ka hv e q
  cases y <;> first | cases e | skip
  rename_i ys
  have e : (if small (ds.length + ys.length) then some (D.non, ds ++ ys) else none) = some (z, es) := e
  split at e
  · rename_i hz
    cases e
    obtain ⟨b, ws, rfl, hb, kb⟩ := hv.lstE
    exact ⟨a, b, us, ws, rfl, rfl, ha, sub _ _ hb, by rw [ka.length, kb.length]; exact small_line hz, q _ _ .non (ka.app kb)⟩
  · cases e
def gPop (ds : List D) : Option (D × List D) := match ds[ds.length - 1]? with
  | some y => some (y, ds.dropLast)
  | none => none
theorem RpAll.dropLast {G : Hp} {us : List V} {ds : List D} (k : RpAll c G us ds) : RpAll c G us.dropLast ds.dropLast := by
  rw [List.dropLast_eq_take, List.dropLast_eq_take, k.length]
  exact k.take _
theorem md_pop : Mth0Den c rPop gPop := by
  intro G H Q a us ds z es ha ka e q
  unfold gPop at e
  split at e
  · rename_i y ey
    cases e
    obtain ⟨w, ew, hw⟩ := ka.get ey
    exact ⟨a, us, w, rfl, rfl, ha, by rw [ka.length]; exact ew, q _ _ hw ka.dropLast⟩
  · cases e
def gPopAt (ds : List D) (y : D) : Option (D × List D) := match y with
  | .int i => if 0 ≤ i ∧ i < ds.length then match ds[i.toNat]? with
      | some x => if small ds.length then some (x, ds.eraseIdx i.toNat) else none
      | none => none
    else none
  | _ => none
theorem RpAll.eraseIdx {G : Hp} : ∀ {us : List V} {ds : List D} (i : Nat), RpAll c G us ds → RpAll c G (us.eraseIdx i) (ds.eraseIdx i)
  | _, _, _, .nil => .nil
  | _, _, 0, .cons _ k => k
  | _, _, i + 1, .cons h k => .cons h (RpAll.eraseIdx i k)
theorem md_popAt : MthDen c rPopAt gPopAt := by
  intro G H Q a us ds y z v es sub ha ka hv e q
  cases y <;> first | cases e | skip
  rename_i i
  have e : (if 0 ≤ i ∧ i < ds.length then match ds[i.toNat]? with
      | some x => if small ds.length then some (x, ds.eraseIdx i.toNat) else none
      | none => none
    else none) = some (z, es) := e
  split at e
  · rename_i hi
    split at e
    · rename_i x ex
      split at e
      · rename_i hz
        cases e
        cases hv
        obtain ⟨w, ew, hw⟩ := ka.get ex
        have hz := of_decide_eq_true hz
        refine ⟨a, us, i, i.toNat, w, rfl, rfl, ha, by omega, by omega, ?_, ew, q _ _ hw (ka.eraseIdx _)⟩
        rw [ka.length]
        unfold seqIndex?
        first
          | (rw [if_neg (by omega)]; simp; omega)
          | (simp; omega)
      · cases e
    · cases e
  · cases e
/-- x[e] = v, x a name -/
def gmItem (i : Nat) (fe : M S) : D → M Unit := fun x ρ => if ownL ρ i then (dv fe ρ).then fun y ρ1 => match ρ1[i]?, y with
    | some (some (.o b (.lst ds))), .int k => match ixN ds.length k with
      | some j => .ok () (ρ1.set i (some (.o b (.lst (ds.set j x)))))
      | none => .stuck
    | _, _ => .stuck
  else .stuck
theorem dg_item (h : Den c W te fe) : DenG c W (gSub (tVar i) te rSetL) (gmItem i fe) [] := fun B ts vs ρ σ H x v Q r q => by
  unfold gmItem at q
  split at q
  · rename_i ho
    obtain ⟨a, us, ev, ha⟩ := ownL_at ho r
    rw [post_then] at q
    refine ⟨.ref a, ev, h.dv r (q.imp (fun y ρ1 q1 w H1 r1 => ?_) fun _ _ h => h.drop.toP)⟩
    split at q1
    · rename_i b ds k e1
      split at q1
      · rename_i j ej
        obtain ⟨G, o1, o2, kk, h1, h2⟩ := id r1
        obtain ⟨a', ev', ⟨us', ha', ka⟩, hmem, hb⟩ := h2.getO e1
        rw [ev] at ev'
        cases ev'
        cases h1 with
        | d hw h1 =>
          cases hw
          cases h1 with
          | d hv h1 =>
            refine ⟨a, us', k, j, rfl, rfl, ha', by rw [ka.length]; exact ej, q1 σ _ ⟨rfl, fun _ _ => rfl⟩ ?_⟩
            have nd := kk.nd
            rw [List.nodup_append] at nd
            exact ⟨G, o1, o2, kk.write (List.mem_append_right _ hmem) ha' (.lst _), h1.mono (fun _ _ e => e) fun q hq => upd_ne fun z => nd.2.2 q hq a hmem z, h2.write nd.2.1 e1 ev (fun q hq => upd_ne hq) ⟨_, upd_same, ka.set j hv⟩⟩
      · exact q1.elim
    · exact q1.elim
  · exact q.elim
end
end Fx
/-! syntax and what it makes of a state -/
namespace Fx
open PySem PySem.Spec PyProof.Rows L2
open C8 (Cal Mak pe_c pe_mk)
structure QE (X : Cx) (c : Cfg) (W : WX) (e : Expr) (t : TE) (f : M S) : Prop where
  pe : PE X e t
  dn : Den c W t f
structure QT (X : Cx) (c : Cfg) (W : WX) (e : Expr) (t : TT) (f : M Bool) : Prop where
  pe : PT X e t
  dn : DenT c W t f
structure QW (X : Cx) (c : Cfg) (W : WX) (e : Expr) (t : TT) (f : M Bool) : Prop where
  pe : PW X e t
  dn : DenT c W t f
structure QA (X : Cx) (c : Cfg) (W : WX) (es : List Expr) (t : TA) (f : M (List D)) : Prop where
  pe : PA X es t
  dn : DenA c W t f
structure QC (X : Cx) (c : Cfg) (W : WX) (es : List Expr) (i j : Nat) (t : TA) (f : M (List D)) : Prop where
  pe : PA X es t
  dn : DenC c W t i j f
structure QI (X : Cx) (c : Cfg) (W : WX) (tg e : Expr) (t : TI) (f : M (List D)) : Prop where
  pe : PI X tg e t
  dn : DenI c W t f
structure QG (X : Cx) (c : Cfg) (W : WX) (e : Expr) (t : TG) (F : D → M Unit) (js : List Nat) : Prop where
  pe : PG X e t
  dn : DenG c W t F js
structure QGs (X : Cx) (c : Cfg) (W : WX) (es : List Expr) (t : TGs) (F : List D → M Unit) (js : List Nat) : Prop where
  pe : PGs X es t
  dn : DenGs c W t F js
structure QO (X : Cx) (c : Cfg) (W : WX) (e : Option Expr) (t : TO) (f : M (Option Int)) : Prop where
  pe : PO X e t
  dn : DenO c W t f
structure QS (X : Cx) (c : Cfg) (W : WX) (s : Stmt) (t : TS) (F : M Fl) : Prop where
  pe : PS X s t
  dn : DenS c W t F
structure QSs (X : Cx) (c : Cfg) (W : WX) (s : List Stmt) (t : TS) (F : M Fl) : Prop where
  pe : PSs X s t
  dn : DenS c W t F
section
variable {X : Cx} {c : Cfg} {W : WX} {a b e d : Expr} {es : List Expr} {fa fb fe fd : M S} {fA : M (List D)} {ft fu : M Bool} {pos p p2 : Pos} {k : Nat} {ta tb te td : TE} {tA : TA} {tt tu : TT}
/-! ### expressions -/
theorem qv (i : Nat) {x : Str} (hN : X.N[i]? = some x := by rfl) (hv : Vis X.env.scope x := by first | exact Or.inl rfl | exact Or.inr (Or.inl rfl) | exact Or.inr (Or.inr rfl)) (hd : (x == ("__debug__" : Str)) = false := by decide)
    (hcd : (x == ("__classdict__" : Str)) = false := by decide) : QE X c W (.Name x pos) (tVar i) (mVar i) := ⟨pe_var hN hv hd hcd, den_var⟩
theorem qint {i j} : QE X c W (.Constant (.int i) j pos) (tC (.int i)) (mC (.int i)) := ⟨pe_int, den_c fun _ => .int _⟩
theorem qbl {i j} : QE X c W (.Constant (.bool i) j pos) (tC (.bl i)) (mC (.bl i)) := ⟨pe_bl, den_c fun _ => .bl _⟩
theorem qnon {j} : QE X c W (.Constant .none j pos) (tC .non) (mC .non) := ⟨pe_non, den_c fun _ => .non⟩
theorem qstr {i j} : QE X c W (.Constant (.str i) j pos) (tC (.str i)) (mC (.str i)) := ⟨pe_str, den_c fun _ => .str _⟩
theorem qty {x : Str} {n : String} (hm : X.mg x = none) (hg : Gl X x := by rfl) (hv : bootBuiltins x = some (.type n) := by decide +kernel) (hn : x ≠ "__name__" := by decide) (hd : (x == ("__debug__" : Str)) = false := by decide) : QE X c W (.Name x pos) (tC (.ty n)) (mC (.ty n)) := ⟨pe_bltn (v := .ty n) hg hm hv rfl hn hd, den_c fun _ => .ty _⟩
theorem qk {x : Str} {i : Int} (h : ∃ t, X.mg x = some (Value.int i t)) (hg : Gl X x := by rfl) (hd : (x == ("__debug__" : Str)) = false := by decide) : QE X c W (.Name x pos) (tC (.int i)) (mC (.int i)) := by
  obtain ⟨t, h⟩ := h
  exact ⟨pe_glob (v := .int i) hg h ⟨t, rfl⟩ hd, den_c fun _ => .int _⟩
theorem q_add (ha : QE X c W a ta fa) (hb : QE X c W b tb fb) (hK : X.K = c.K := by rfl) : QE X c W (.BinOp a .Add b pos) (tOp (rAddG c.K) ta tb) (mOp gAdd fa fb) := by
  obtain ⟨h1, h2⟩ := ha; obtain ⟨k1, k2⟩ := hb
  exact ⟨hK ▸ pe_op op_addG h1 k1, den_op od_add h2 k2⟩
theorem q_sub (ha : QE X c W a ta fa) (hb : QE X c W b tb fb) : QE X c W (.BinOp a .Sub b pos) (tOp (rI0 fun i j => .int (i - j)) ta tb) (mOp gMinus fa fb) := by
  obtain ⟨h1, h2⟩ := ha; obtain ⟨k1, k2⟩ := hb
  exact ⟨pe_op op_sub h1 k1, den_op od_sub h2 k2⟩
theorem q_mul (ha : QE X c W a ta fa) (hb : QE X c W b tb fb) : QE X c W (.BinOp a .Mult b pos) (tOp rMulG ta tb) (mOp gMul fa fb) := by
  obtain ⟨h1, h2⟩ := ha; obtain ⟨k1, k2⟩ := hb
  exact ⟨pe_op op_mulG h1 k1, den_op od_mul h2 k2⟩
theorem q_mod (ha : QE X c W a ta fa) (hb : QE X c W b tb fb) : QE X c W (.BinOp a .Mod b pos) (tOp (rI (fun _ j => 0 < j) fun i j => .int (i % j)) ta tb) (mOp gMod fa fb) := by
  obtain ⟨h1, h2⟩ := ha; obtain ⟨k1, k2⟩ := hb
  exact ⟨pe_op op_mod h1 k1, den_op od_mod h2 k2⟩
theorem q_fdiv (ha : QE X c W a ta fa) (hb : QE X c W b tb fb) : QE X c W (.BinOp a .FloorDiv b pos) (tOp (rI CDiv fun i j => .int (i / j)) ta tb) (mOp gDiv fa fb) := by
  obtain ⟨h1, h2⟩ := ha; obtain ⟨k1, k2⟩ := hb
  exact ⟨pe_op op_fdiv h1 k1, den_op od_div h2 k2⟩
theorem q_pow (ha : QE X c W a ta fa) (hb : QE X c W b tb fb) : QE X c W (.BinOp a .Pow b pos) (tOp (rI CPow fun i j => .int (i ^ j.toNat)) ta tb) (mOp gPow fa fb) := by
  obtain ⟨h1, h2⟩ := ha; obtain ⟨k1, k2⟩ := hb
  exact ⟨pe_op op_pow h1 k1, den_op od_pow h2 k2⟩
theorem q_neg (ha : QE X c W a ta fa) : QE X c W (.UnaryOp .USub a pos) (tUn (rU fun i => .int (-i)) ta) (mUn gNeg fa) := by
  obtain ⟨h1, h2⟩ := ha
  exact ⟨pe_un un_neg h1, den_un ud_neg h2⟩
/-- an operator of comparison -/
structure QR (X : Cx) (c : Cfg) (op : CmpOp) (r : R2) (g : D → D → Option S) : Prop where
  pe : OpR X (compareOp op) r
  dn : OpDen c r g
  mono : ∀ x y H (Q Q' : VK), (∀ v H', Q v H' → Q' v H') → r x y H Q → r x y H Q'
theorem r_lt : QR X c .Lt (rI0 fun i j => .bl (decide (i < j))) gLt := ⟨op_lt, od_BB, fun x y H Q Q' h ⟨i, j, e1, e2, q⟩ => ⟨i, j, e1, e2, h _ _ q⟩⟩
theorem r_le : QR X c .LtE (rI0 fun i j => .bl (decide (i ≤ j))) gLe := ⟨op_le, od_BB, fun x y H Q Q' h ⟨i, j, e1, e2, q⟩ => ⟨i, j, e1, e2, h _ _ q⟩⟩
theorem r_gt : QR X c .Gt (rI0 fun i j => .bl (decide (j < i))) gGt := ⟨op_gt, od_BB, fun x y H Q Q' h ⟨i, j, e1, e2, q⟩ => ⟨i, j, e1, e2, h _ _ q⟩⟩
theorem r_ge : QR X c .GtE (rI0 fun i j => .bl (decide (j ≤ i))) gGe := ⟨op_ge, od_BB, fun x y H Q Q' h ⟨i, j, e1, e2, q⟩ => ⟨i, j, e1, e2, h _ _ q⟩⟩
theorem un66 {A : Around} (hr : Room k A) : A.units + 66 < cLine := by
  have := hr.un
  omega
theorem r_eq (hr : Room k X.A) (hK : X.K = c.K := by rfl) : QR X c .Eq (rEqP c.K false) gEq := ⟨hK ▸ op_eqP (un66 hr), od_eq, fun x y H Q Q' h ⟨d, e, a1, a2, a3, a4, a5, q⟩ => ⟨d, e, a1, a2, a3, a4, a5, h _ _ q⟩⟩
theorem r_ne (hr : Room k X.A) (hK : X.K = c.K := by rfl) : QR X c .NotEq (rEqP c.K true) gNe := ⟨hK ▸ op_neP (un66 hr), od_ne, fun x y H Q Q' h ⟨d, e, a1, a2, a3, a4, a5, q⟩ => ⟨d, e, a1, a2, a3, a4, a5, h _ _ q⟩⟩
theorem r_in (hr : Room k X.A) (hK : X.K = c.K := by rfl) : QR X c .In (rInP c.K false) gIn := ⟨hK ▸ op_inP (un66 hr), od_in, fun x y H Q Q' h ⟨d, e, a1, a2, a3, a4, a5, q⟩ => ⟨d, e, a1, a2, a3, a4, a5, h _ _ q⟩⟩
theorem r_nin (hr : Room k X.A) (hK : X.K = c.K := by rfl) : QR X c .NotIn (rInP c.K true) gNotIn := ⟨hK ▸ op_ninP (un66 hr), od_in, fun x y H Q Q' h ⟨d, e, a1, a2, a3, a4, a5, q⟩ => ⟨d, e, a1, a2, a3, a4, a5, h _ _ q⟩⟩
theorem r_is : QR X c .Is (fun x y H Q => y = .non ∧ Q (.bl (decide (x = .non))) H) gIsN := ⟨op_isN, od_isN, fun x y H Q Q' h ⟨a1, q⟩ => ⟨a1, h _ _ q⟩⟩
theorem r_nis : QR X c .IsNot (fun x y H Q => y = .non ∧ Q (.bl (!decide (x = .non))) H) gNotN := ⟨op_notN, od_notN, fun x y H Q Q' h ⟨a1, q⟩ => ⟨a1, h _ _ q⟩⟩
theorem q_cmp {op : CmpOp} {g : D → D → Option S} {r : R2} (ho : QR X c op r g) (ha : QE X c W a ta fa) (hb : QE X c W b tb fb) (hm : behindInMarks op b = false := by first | exact nomark _ | with_unfolding_all rfl) : QE X c W (.Compare a [op] [b] pos) (tOp r ta tb) (mOp g fa fb) := by
  obtain ⟨h1, h2⟩ := ha; obtain ⟨k1, k2⟩ := hb; obtain ⟨r1, r2, _⟩ := ho
  exact ⟨pe_cmpR r1 h1 k1 hm, den_op r2 h2 k2⟩
theorem t_cmp {op : CmpOp} {g : D → D → Option S} {r : R2} (ho : QR X c op r g) (ha : QE X c W a ta fa) (hb : QE X c W b tb fb) (hm : behindInMarks op b = false := by first | exact nomark _ | with_unfolding_all rfl) : QT X c W (.Compare a [op] [b] pos) (tTest (tOp r ta tb)) (mTest (mOp g fa fb)) := by
  obtain ⟨h1, h2⟩ := ha; obtain ⟨k1, k2⟩ := hb; obtain ⟨r1, r2, _⟩ := ho
  exact ⟨pt_cmpR r1 h1 k1 hm, dt_test (den_op r2 h2 k2)⟩
theorem q_chain {op op' : CmpOp} {g g' : D → D → Option S} {r r' : R2} (ho : QR X c op r g) (ho' : QR X c op' r' g') (ha : QE X c W a ta fa) (hb : QE X c W b tb fb) (he : QE X c W e te fe) (hm : lastMarks [op, op'] [b, e] = false := by with_unfolding_all rfl) : QE X c W (.Compare a [op, op'] [b, e] pos) (tChain r r' ta tb te) (mChain g g' fa fb fe) := by
  obtain ⟨h1, h2⟩ := ha; obtain ⟨k1, k2⟩ := hb; obtain ⟨l1, l2⟩ := he; obtain ⟨r1, r2, m⟩ := ho; obtain ⟨s1, s2, _⟩ := ho'
  exact ⟨pe_chain r1 s1 h1 k1 l1 hm, den_chain r2 s2 m h2 k2 l2⟩
theorem t_val (he : QE X c W e te fe) (h : ∀ whole, isTrue e X.env whole = (do let v ← whole; standAt e.pos; holding [v] (truthy v)) := by intro _; rfl) : QT X c W e (tB te) (mTest fe) := by
  obtain ⟨h1, h2⟩ := he
  exact ⟨pt_val h1 h, dt_B h2⟩
theorem t_tru (he : QE X c W e te fe) (h : ∀ whole, isTrue e X.env whole = (do let v ← whole; standAt e.pos; holding [v] (truthy v)) := by intro _; rfl) (hK : X.K = c.K := by rfl) : QT X c W e (tTru c.K te) (mTruth fe) := by
  obtain ⟨h1, h2⟩ := he
  have h3 : PT X e (tTru X.K te) := pt_truth h1 h
  exact ⟨hK ▸ h3, dt_truth h2⟩
theorem t_truO (i : Nat) {x : Str} (hN : X.N[i]? = some x := by rfl) (hv : Vis X.env.scope x := by first | exact Or.inl rfl | exact Or.inr (Or.inl rfl) | exact Or.inr (Or.inr rfl)) (hd : (x == ("__debug__" : Str)) = false := by decide)
    (hcd : (x == ("__classdict__" : Str)) = false := by decide) (h : ∀ whole, isTrue (.Name x pos) X.env whole = (do let v ← whole; standAt (Expr.Name x pos).pos; holding [v] (truthy v)) := by intro _; rfl) (hK : X.K = c.K := by rfl) : QT X c W (.Name x pos) (tTru c.K (tVar i)) (mTruthO i) := by
  have h3 : PT X (.Name x pos) (tTru X.K (tVar i)) := pt_truth (pe_var hN hv hd hcd) h
  exact ⟨hK ▸ h3, dt_truthO⟩
theorem t_not (h : QT X c W a tt ft) : QT X c W (.UnaryOp .Not a pos) (tNot tt) (mNot ft) := by
  obtain ⟨h1, h2⟩ := h
  exact ⟨pt_not h1, dt_not h2⟩
theorem w_and1 (h : QT X c W a tt ft) : QW X c W (.BoolOp .And [a] pos) tt ft := by
  obtain ⟨h1, h2⟩ := h
  exact ⟨pw_and1 h1, h2⟩
theorem w_or1 (h : QT X c W a tt ft) : QW X c W (.BoolOp .Or [a] pos) tt ft := by
  obtain ⟨h1, h2⟩ := h
  exact ⟨pw_or1 h1, h2⟩
theorem w_and (h : QT X c W a tt ft) (k : QW X c W (.BoolOp .And (b :: es) pos) tu fu) : QW X c W (.BoolOp .And (a :: b :: es) pos) (tAnd tt tu) (mAnd ft fu) := by
  obtain ⟨h1, h2⟩ := h; obtain ⟨k1, k2⟩ := k
  exact ⟨pw_and h1 k1, dt_and h2 k2⟩
theorem w_or (h : QT X c W a tt ft) (k : QW X c W (.BoolOp .Or (b :: es) pos) tu fu) : QW X c W (.BoolOp .Or (a :: b :: es) pos) (tOr tt tu) (mOr ft fu) := by
  obtain ⟨h1, h2⟩ := h; obtain ⟨k1, k2⟩ := k
  exact ⟨pw_or h1 k1, dt_or h2 k2⟩
theorem QW.t (h : QW X c W a tt ft) : QT X c W a tt ft := by
  obtain ⟨h1, h2⟩ := h
  exact ⟨h1.pt, h2⟩
theorem q_one {op} (h : QE X c W a ta fa) : QE X c W (.BoolOp op [a] pos) ta fa := by
  obtain ⟨h1, h2⟩ := h
  exact ⟨pe_one h1, h2⟩
theorem q_and (h : QE X c W a ta fa) (k : QE X c W (.BoolOp .And (b :: es) pos) tb fb) : QE X c W (.BoolOp .And (a :: b :: es) pos) (tAndV ta tb) (mAndV fa fb) := by
  obtain ⟨h1, h2⟩ := h; obtain ⟨k1, k2⟩ := k
  exact ⟨pe_and h1 k1, den_andV h2 k2⟩
theorem q_not (h : QE X c W a ta fa) : QE X c W (.UnaryOp .Not a pos) (tNotV ta) (mNotV fa) := by
  obtain ⟨h1, h2⟩ := h
  exact ⟨pe_not h1, den_notV h2⟩
theorem q_if (h : QT X c W d tt ft) (ha : QE X c W a ta fa) (hb : QE X c W b tb fb) : QE X c W (.IfExp d a b pos) (tIf tt ta tb) (mIf ft fa fb) := by
  obtain ⟨h1, h2⟩ := h; obtain ⟨k1, k2⟩ := ha; obtain ⟨l1, l2⟩ := hb
  exact ⟨pe_ifExp h1 k1 l1, den_if h2 k2 l2⟩
theorem a_nil : QA X c W [] tNil aNil := ⟨pa_nil, den_nil⟩
theorem a_cons (h : QE X c W e te fe) (k : QA X c W es tA fA) (hs : starEach (e :: es) X.env = (false, eval e X.env) :: starEach es X.env := by rfl) : QA X c W (e :: es) (tCons te tA) (aCons fe fA) := by
  obtain ⟨h1, h2⟩ := h; obtain ⟨k1, k2⟩ := k
  exact ⟨pa_cons h1 k1 hs, den_cons h2 k2⟩
theorem c_own (i : Nat) {x : Str} (k : QA X c W es tA fA) (hN : X.N[i]? = some x := by rfl) (hv : Vis X.env.scope x := by first | exact Or.inl rfl | exact Or.inr (Or.inl rfl) | exact Or.inr (Or.inr rfl)) (hd : (x == ("__debug__" : Str)) = false := by decide)
    (hcd : (x == ("__classdict__" : Str)) = false := by decide) (hs : starEach (.Name x pos :: es) X.env = (false, eval (.Name x pos) X.env) :: starEach es X.env := by rfl) : QC X c W (.Name x pos :: es) i 0 (tCons (tVar i) tA) (aOwn i fA) := by
  obtain ⟨k1, k2⟩ := k
  exact ⟨pa_cons (pe_var hN hv hd hcd) k1 hs, dc_own k2⟩
theorem q_tup {x1} (h : QA X c W es tA fA) : QE X c W (.Tuple es x1 pos) (tTupN tA) (mTup fA) := by
  obtain ⟨h1, h2⟩ := h
  exact ⟨pe_tupN h1, den_tup h2⟩
theorem q_lst (h : QA X c W es tA fA) : QE X c W (.List es pos) (tLst tA) (mLst fA) := by
  obtain ⟨h1, h2⟩ := h
  exact ⟨pe_lst h1, den_lst h2⟩
theorem q_ix (ha : QE X c W a ta fa) (hb : QE X c W b tb fb) (hs : PlainIx b := by exact fun _ _ => rfl) (hK : X.K = c.K := by rfl) : QE X c W (.Subscript a b pos) (tOp (rIx c.K) ta tb) (mOp gIx fa fb) := by
  obtain ⟨h1, h2⟩ := ha; obtain ⟨k1, k2⟩ := hb
  exact ⟨hK ▸ pe_ix ix_seq h1 k1 hs, den_op od_ix h2 k2⟩
theorem q_ixO (i : Nat) {x : Str} (hb : QE X c W b tb fb) (hN : X.N[i]? = some x := by rfl) (hv : Vis X.env.scope x := by first | exact Or.inl rfl | exact Or.inr (Or.inl rfl) | exact Or.inr (Or.inr rfl)) (hd : (x == ("__debug__" : Str)) = false := by decide)
    (hcd : (x == ("__classdict__" : Str)) = false := by decide) (hs : PlainIx b := by exact fun _ _ => rfl) (hK : X.K = c.K := by rfl) : QE X c W (.Subscript (.Name x p) b pos) (tOp (rIx c.K) (tVar i) tb) (mIxO i fb) := by
  obtain ⟨k1, k2⟩ := hb
  exact ⟨hK ▸ pe_ix ix_seq (pe_var hN hv hd hcd) k1 hs, den_ixO k2⟩
theorem o_none : QO X c W none tNoPart oNone := ⟨po_none, do_none⟩
theorem o_some (h : QE X c W e te fe) : QO X c W (some e) (tPart te) (oSome fe) := by
  obtain ⟨h1, h2⟩ := h
  exact ⟨po_some h1, do_some h2⟩
theorem q_sl {lo hi : Option Expr} {fl fh : M (Option Int)} {tl th : TO} (h : QE X c W e te fe) (hl : QO X c W lo tl fl) (hh : QO X c W hi th fh) (hK : X.K = c.K := by rfl) : QE X c W (.Subscript e (.Slice lo hi none p2) pos) (tSl (rSlG c.K) te tl th) (mSl fe fl fh) := by
  obtain ⟨h1, h2⟩ := h; obtain ⟨k1, k2⟩ := hl; obtain ⟨l1, l2⟩ := hh
  exact ⟨hK ▸ pe_slice sl_G h1 k1 l1, den_sl h2 k2 l2⟩
theorem q_fld {f : Str} (n : String) (i : Nat) (K : FldOk c n f i) (h : QE X c W e te fe) (hb : attributeBase e f X.env (eval e X.env) = eval e X.env := by rfl) (hK : X.K = c.K := by rfl) : QE X c W (.Attribute e f pos) (tFld c.K te f) (mFldE n i fe) := by
  obtain ⟨h1, h2⟩ := h
  exact ⟨hK ▸ pe_fld h1 hb, den_fld K h2⟩
/-! ### calls -/
theorem q_call {x : Str} {F : Fn} {j : Nat} (C : Cal X.prog X.w c.K X.mg X.base k x (spF c F) []) (hr : Room j X.A) (hk : k ≤ j) (ha : QA X c W (e :: es) tA fA) (hg : Gl X x := by rfl) (hK : X.K = c.K := by rfl)
    (hdb : (x == ("__debug__" : Str)) = false := by decide) (he : starEach (e :: es) X.env = (false, eval e X.env) :: starEach es X.env := by rfl) (hpl : (backTo pos (starEach es X.env)).any (·.1) = false := by rfl) : QE X c W (.Call (.Name x p) (e :: es) [] pos) (tCall (spF c F) [] C8.E0 tA) (mCall F fA) := by
  obtain ⟨h1, h2⟩ := ha
  exact ⟨pe_c (hK ▸ C) hr hk hg h1 hdb he hpl, den_call h2⟩
theorem q_callO {x : Str} {F : Fn} {j i l : Nat} (C : Cal X.prog X.w c.K X.mg X.base k x (spF c F) []) (hr : Room j X.A) (hk : k ≤ j) (ha : QC X c W (e :: es) i l tA fA) (hg : Gl X x := by rfl) (hK : X.K = c.K := by rfl)
    (hdb : (x == ("__debug__" : Str)) = false := by decide) (he : starEach (e :: es) X.env = (false, eval e X.env) :: starEach es X.env := by rfl) (hpl : (backTo pos (starEach es X.env)).any (·.1) = false := by rfl) : QE X c W (.Call (.Name x p) (e :: es) [] pos) (tCall (spF c F) [] C8.E0 tA) (mCallO F i l fA) := by
  obtain ⟨h1, h2⟩ := ha
  exact ⟨pe_c (hK ▸ C) hr hk hg h1 hdb he hpl, den_callO h2⟩
theorem q_make {x : Str} {F : Fn} {j nf : Nat} (n : String) (C : Mak X.prog X.w c.K X.mg X.base k x (c.cls n) (spF c F) []) (hnf : (c.flds n).length = nf) (hr : Room j X.A) (hk : k + 1 ≤ j) (ha : QA X c W (e :: es) tA fA) (hg : Gl X x := by rfl) (hK : X.K = c.K := by rfl)
    (hdb : (x == ("__debug__" : Str)) = false := by decide) (he : starEach (e :: es) X.env = (false, eval e X.env) :: starEach es X.env := by rfl) (hpl : (backTo pos (starEach es X.env)).any (·.1) = false := by rfl) : QE X c W (.Call (.Name x p) (e :: es) [] pos) (tMake (c.cls n) (spF c F) [] C8.E0 tA) (mMake n nf F fA) := by
  obtain ⟨h1, h2⟩ := ha
  exact ⟨pe_mk (hK ▸ C) hr hk hg h1 hdb he hpl, den_make hnf h2⟩
/-- a built-in by its name -/
structure QB (X : Cx) (c : Cfg) (x : Str) (r : List V → Hp → VK → Prop) (g : List D → Option S) : Prop where
  ex : (∃ id, CallR X (.builtin id) r ∧ bootBuiltins x = some (.builtin id)) ∨ (∃ T, CallR X (.type T) r ∧ bootBuiltins x = some (.type T))
  dn : CbDen c r g
theorem q_blt {x : Str} {g : List D → Option S} {r : List V → Hp → VK → Prop} (B : QB X c x r g) (hm : X.mg x = none) (ha : QA X c W (e :: es) tA fA) (hg : Gl X x := by rfl) (hn : x ≠ "__name__" := by decide)
    (hdb : (x == ("__debug__" : Str)) = false := by decide) (he : starEach (e :: es) X.env = (false, eval e X.env) :: starEach es X.env := by rfl) (hpl : (backTo pos (starEach es X.env)).any (·.1) = false := by rfl) : QE X c W (.Call (.Name x p) (e :: es) [] pos) (tCB r tA) (mCB g fA) := by
  obtain ⟨h1, h2⟩ := ha
  rcases B.ex with ⟨id, r1, r2⟩ | ⟨T, r1, r2⟩
  · exact ⟨pe_callB r1 hg hm r2 h1 hn hdb he hpl, den_cb B.dn h2⟩
  · exact ⟨pe_callTy r1 hg hm r2 h1 hn hdb he hpl, den_cb B.dn h2⟩
theorem b_len (hK : X.K = c.K := by rfl) : QB X c "len" (rLenG c.K) gLen := ⟨.inl ⟨_, hK ▸ cr_lenG, PySem.boot_len⟩, cd_len⟩
theorem b_tuple (hK : X.K = c.K := by rfl) : QB X c "tuple" (rTupN c.K) gTuple := ⟨.inr ⟨_, hK ▸ call_tupN, by decide +kernel⟩, cd_tuple⟩
theorem b_list (hK : X.K = c.K := by rfl) : QB X c "list" (fun xs H Q => ∃ p ys, xs = [.ref p] ∧ (SqL c.K H p ys ∨ SqT c.K H p ys) ∧ ∀ l, H l = none → Q (.ref l) (upd H l (.lst ys))) gList := ⟨.inr ⟨_, hK ▸ call_list_of, by decide +kernel⟩, cd_list⟩
theorem b_all (hc : X.calm = true := by rfl) (hK : X.K = c.K := by rfl) : QB X c "all" (rAll c.K) gAll := ⟨.inl ⟨_, hK ▸ cr_all hc, by decide +kernel⟩, cd_all⟩
theorem b_any (hc : X.calm = true := by rfl) (hK : X.K = c.K := by rfl) : QB X c "any" (rAny c.K) gAny := ⟨.inl ⟨_, hK ▸ cr_any hc, by decide +kernel⟩, cd_any⟩
theorem b_isi (hK : X.K = c.K := by rfl) : QB X c "isinstance" (rIsi c.K) gIsi := ⟨.inl ⟨_, hK ▸ call_isi, by decide +kernel⟩, cd_isi⟩
end
end Fx
/-! statements and what they make of a state -/
namespace Fx
open PySem PySem.Spec PyProof.Rows L2
open C8 (Cal Mak pe_c pe_mk)
section
variable {X : Cx} {c : Cfg} {W : WX} {a b e d tg it : Expr} {es : List Expr} {fa fb fe fd : M S} {fA fI : M (List D)} {ft fu : M Bool} {pos p p2 apos cpos : Pos} {k : Nat} {st : Stmt} {ss rs : List Stmt} {F G : M Fl} {g : D → M Unit} {gs : List D → M Unit} {js js' : List Nat} {ta tb te td : TE} {tA : TA} {tt tu : TT} {tgt : TG} {tgs : TGs} {wi : TI} {t u : TS}
/-! ### targets -/
theorem g_name (i : Nat) {x : Str} (hN : X.N.Nodup) (hi : X.N[i]? = some x := by rfl) (hx : Loc X.env.scope x := by first | exact Or.inl rfl | exact Or.inr rfl) (hf : X.fn x = true ∨ X.env.scope.names.lookup x = some .local := by first | exact Or.inl rfl | exact Or.inr rfl) : QG X c W (.Name x pos) (gName i) (gmName i) [i] := ⟨pg_name hN hi hx hf, dg_name⟩
theorem gs_nil : QGs X c W [] gNil gmNil [] := ⟨pgs_nil, dgs_nil⟩
theorem gs_cons (h : QG X c W e tgt g js) (k : QGs X c W es tgs gs js') (hs : (assignEach (e :: es) X.env).map (·.2) = assign e X.env :: (assignEach es X.env).map (·.2) := by rfl) : QGs X c W (e :: es) (gCons tgt tgs) (gmCons g gs) (js ++ js') := by
  obtain ⟨h1, h2⟩ := h; obtain ⟨k1, k2⟩ := k
  exact ⟨pgs_cons h1 k1 hs, dgs_cons h2 k2⟩
theorem g_tup (n : Nat) {kk : Nat} (h : QGs X c W es tgs gs js) (hc : X.calm = true := by rfl) (hn : (assignEach es X.env).length = n := by rfl) (hst : (assignEach es X.env).findIdx? (·.1) = none := by rfl) (hK : X.K = c.K := by rfl) : QG X c W (.Tuple es kk pos) (gTup c.K n tgs) (gmTup n gs) js := by
  obtain ⟨h1, h2⟩ := h
  exact ⟨hK ▸ pg_tup hc h1 hn hst, dg_tup h2⟩
theorem g_item (i : Nat) {x : Str} (h : QE X c W e te fe) (hN : X.N[i]? = some x := by rfl) (hv : Vis X.env.scope x := by first | exact Or.inl rfl | exact Or.inr (Or.inl rfl) | exact Or.inr (Or.inr rfl)) (hd : (x == ("__debug__" : Str)) = false := by decide)
    (hcd : (x == ("__classdict__" : Str)) = false := by decide)
    (ha : ∀ v, assign (.Subscript (.Name x p) e pos) X.env v = (do
      let ov ← holding [v] (eval (.Name x p) X.env)
      let iv ← holding [v, ov] (eval e X.env)
      standAt pos
      holding [v, ov, iv] (setItem ov iv v)
      release [v, ov, iv] []) := by intro _; rfl) : QG X c W (.Subscript (.Name x p) e pos) (gSub (tVar i) te rSetL) (gmItem i fe) [] := by
  obtain ⟨h1, h2⟩ := h
  exact ⟨pg_sub (pe_var hN hv hd hcd) h1 set_list ha, dg_item h2⟩
/-! ### blocks -/
theorem ss_nil : QSs X c W [] tNext mNx := ⟨pss_nil, ds_nx⟩
theorem ss_cons (h : QS X c W st t F) (k : QSs X c W ss u G) : QSs X c W (st :: ss) (tSeq t u) (mSeq F G) := by
  obtain ⟨h1, h2⟩ := h; obtain ⟨k1, k2⟩ := k
  exact ⟨pss_cons h1 k1, ds_seq h2 k2⟩
theorem ss_one (h : QS X c W st t F) : QSs X c W [st] t F := by
  obtain ⟨h1, h2⟩ := h
  exact ⟨pss_one h1, h2⟩
theorem ss_never : QSs X c W ss tNever mSt := ⟨pss_never, ds_never⟩
theorem s_ret (h : QE X c W e te fe) : QS X c W (.Return (some e) pos) (tRet te) (mRet fe) := by
  obtain ⟨h1, h2⟩ := h
  exact ⟨ps_ret h1, ds_ret h2⟩
theorem ds_retO {i : Nat} : DenS c W (tRet (tVar i)) (mRetO i) := fun B ts vs ρ σ H D r q => by
  unfold mRetO at q
  split at q
  · rename_i x e
    obtain ⟨G, o1, o2, kk, h1, h2⟩ := id r
    obtain ⟨a, own', ev, hc, hb, h3, m1, m2, m3, m4⟩ := h2.takeO e
    have nd := kk.nd
    rw [List.nodup_append] at nd
    obtain ⟨n4, n5⟩ := m4 nd.2.1
    refine ⟨.ref a, ev, q _ σ H ⟨G, a :: o1, own', kk.subO (fun p hp => ?_) ?_, .o hc (fun _ e => nomatch e) h1, h3⟩⟩
    · rcases List.mem_append.mp hp with hp | hp
      · rcases List.mem_cons.mp hp with rfl | hp
        · exact List.mem_append_right _ m3
        · exact List.mem_append_left _ hp
      · exact List.mem_append_right _ (m2 p hp)
    · rw [List.cons_append, List.nodup_cons, List.nodup_append]
      refine ⟨fun hm => ?_, nd.1, n4, fun x hx y hy => nd.2.2 x hx y (m2 y hy)⟩
      rcases List.mem_append.mp hm with hm | hm
      · exact nd.2.2 a hm a m3 rfl
      · exact n5 hm
  · rename_i x e
    obtain ⟨v, e1, r1⟩ := r.var e
    exact ⟨v, e1, q v σ H r1⟩
  · exact q.elim
theorem s_retO (i : Nat) {x : Str} (hN : X.N[i]? = some x := by rfl) (hv : Vis X.env.scope x := by first | exact Or.inl rfl | exact Or.inr (Or.inl rfl) | exact Or.inr (Or.inr rfl)) (hd : (x == ("__debug__" : Str)) = false := by decide)
    (hcd : (x == ("__classdict__" : Str)) = false := by decide) : QS X c W (.Return (some (.Name x p)) pos) (tRet (tVar i)) (mRetO i) := ⟨ps_ret (pe_var hN hv hd hcd), ds_retO⟩
theorem s_if (h : QT X c W d tt ft) (k : QSs X c W ss t F) (l : QSs X c W rs u G) : QS X c W (.If d ss rs pos) (tIfS tt t u) (mIfS ft F G) := by
  obtain ⟨h1, h2⟩ := h; obtain ⟨k1, k2⟩ := k; obtain ⟨l1, l2⟩ := l
  exact ⟨ps_if h1 k1 l1, ds_if h2 k2 l2⟩
theorem s_expr (h : QE X c W e te fe) (hs : swapsWith e none pos.line X.env = pure false := by rfl) : QS X c W (.Expr e pos) (tDrop te) (mDrop fe) := by
  obtain ⟨h1, h2⟩ := h
  exact ⟨ps_expr h1 hs, ds_drop h2⟩
theorem s_set (i : Nat) {x : Str} (hN : X.N.Nodup) (h : QE X c W e te fe) (hi : X.N[i]? = some x := by rfl) (hx : Loc X.env.scope x := by first | exact Or.inl rfl | exact Or.inr rfl) (hs : swapsWith e (some (.Name x p)) pos.line X.env = pure false := by rfl) (hf : X.fn x = true ∨ X.env.scope.names.lookup x = some .local := by first | exact Or.inl rfl | exact Or.inr rfl) :
    QS X c W (.Assign [.Name x p] e pos) (tAsg te (gName i)) (mAsg fe (gmName i)) := by
  obtain ⟨h1, h2⟩ := h
  exact ⟨ps_set hN hi hx h1 hs hf, ds_asg h2 dg_name⟩
theorem s_setO (i : Nat) {x : Str} (hN : X.N.Nodup) (h : QE X c W e te fe) (hi : X.N[i]? = some x := by rfl) (hx : Loc X.env.scope x := by first | exact Or.inl rfl | exact Or.inr rfl) (hs : swapsWith e (some (.Name x p)) pos.line X.env = pure false := by rfl) (hf : X.fn x = true ∨ X.env.scope.names.lookup x = some .local := by first | exact Or.inl rfl | exact Or.inr rfl) :
    QS X c W (.Assign [.Name x p] e pos) (tAsg te (gName i)) (mAsgO i fe) := by
  obtain ⟨h1, h2⟩ := h
  exact ⟨ps_set hN hi hx h1 hs hf, ds_asgO h2⟩
theorem s_asg (h : QE X c W e te fe) (k : QG X c W tg tgt g js) (hs : swapsWithSole [tg] e pos.line X.env = pure false := by rfl) (hw : swappedStores [tg] e X.env = pure none := by rfl)
    (h1 : (assignEach [tg] X.env).map (·.2) = [assign tg X.env] := by rfl) : QS X c W (.Assign [tg] e pos) (tAsg te tgt) (mAsg fe g) := by
  obtain ⟨h2, h3⟩ := h; obtain ⟨k1, k2⟩ := k
  exact ⟨ps_asg h2 k1 hs hw h1, ds_asg h3 k2⟩
theorem s_fld {f x : Str} (n : String) (i j : Nat) (K : FldOk c n f i) (hl : (c.flds n).length ≤ 100) (h : QE X c W e te fe) (hN : X.N[j]? = some x := by rfl) (hv : Vis X.env.scope x := by first | exact Or.inl rfl | exact Or.inr (Or.inl rfl) | exact Or.inr (Or.inr rfl)) (hd : (x == ("__debug__" : Str)) = false := by decide)
    (hcd : (x == ("__classdict__" : Str)) = false := by decide) (hK : X.K = c.K := by rfl)
    (hs : swapsWith e (some (.Attribute (.Name x p) f apos)) pos.line X.env = pure false := by rfl) : QS X c W (.Assign [.Attribute (.Name x p) f apos] e pos) (sFld c.K (tVar j) te f) (mSetF n i j fe) := by
  obtain ⟨h1, h2⟩ := h
  exact ⟨hK ▸ ps_fld (pe_var hN hv hd hcd) h1 hs, ds_setF K hl h2⟩
/-! ### loops -/
theorem s_for (hp : PassesOwn (model X.prog X.w) X.A X.env X.xe) (h : QI X c W tg it wi fI) (k : QG X c W tg tgt g js) (l : QSs X c W ss t F) (hc : X.calm = true := by rfl) (hs : ∀ x, foldedSetIterable it X.env x = pure x := by intro _; rfl) : QS X c W (.For tg it ss [] pos) (tFor wi tgt t) (mFor fI g F) := by
  obtain ⟨h1, h2⟩ := h; obtain ⟨k1, k2⟩ := k; obtain ⟨l1, l2⟩ := l
  exact ⟨ps_for hp hc h1 k1 l1 hs, ds_for h2 k2 l2⟩
theorem s_while (n : Nat) (hp : PassesOwn (model X.prog X.w) X.A X.env X.xe) (h : QT X c W d tt ft) (l : QSs X c W ss t F) : QS X c W (.While d ss [] pos) (tWhile tt t) (mWhile ft F n) := by
  obtain ⟨h1, h2⟩ := h; obtain ⟨l1, l2⟩ := l
  exact ⟨ps_while hp h1 l1, ds_while h2 l2⟩
/-! ### what is walked -/
theorem i_seq (h : QE X c W e te fe) (hK : X.K = c.K := by rfl) : QI X c W tg e (iSeqT c.K te) (iSeq fe) := by
  obtain ⟨h1, h2⟩ := h
  have h3 : PI X tg e (iSeqT X.K te) := PI.or (pi_list h1) (pi_tup h1)
  exact ⟨hK ▸ h3, di_seq h2⟩
theorem i_range1 (hm : X.mg "range" = none) (h : QA X c W [a] tA fA) (hg : Gl X "range" := by rfl) (hs : starEach [a] X.env = [(false, eval a X.env)] := by rfl) : QI X c W tg (.Call (.Name "range" p) [a] [] pos) (iRng1 tA) (iRange1 fA) := by
  obtain ⟨h1, h2⟩ := h
  exact ⟨pi_range1 hg hm h1 hs, di_range1 h2⟩
theorem i_range2 (hm : X.mg "range" = none) (h : QA X c W [a, b] tA fA) (hg : Gl X "range" := by rfl) (hs : starEach [a, b] X.env = [(false, eval a X.env), (false, eval b X.env)] := by rfl) (hs2 : starEach [b] X.env = [(false, eval b X.env)] := by rfl) : QI X c W tg (.Call (.Name "range" p) [a, b] [] pos) (iRng2 tA) (iRange2 fA) := by
  obtain ⟨h1, h2⟩ := h
  exact ⟨pi_range2 hg hm h1 hs hs2, di_range2 h2⟩
end
section
variable {X : Cx} {c : Cfg} {W : WX} {a b : Expr} {fA : M (List D)} {tA : TA} {es : List Expr} {kk : Nat} {tpos pos p : Pos}
theorem i_enum (hm : X.mg "enumerate" = none) (h : QA X c W [a] tA fA) (hg : Gl X "enumerate" := by rfl) (hK : X.K = c.K := by rfl) (hs : starEach [a] X.env = [(false, eval a X.env)] := by rfl) : QI X c W (.Tuple es kk tpos) (.Call (.Name "enumerate" p) [a] [] pos) (iEnumG c.K tA) (iEnu fA) := by
  obtain ⟨h1, h2⟩ := h
  have h3 : PI X (.Tuple es kk tpos) (.Call (.Name "enumerate" p) [a] [] pos) (iEnumG X.K tA) := PI.or (pi_enum hg hm h1 hs) (Rw.pi_enumT hg hm h1 hs)
  exact ⟨hK ▸ h3, di_enu h2⟩
theorem i_zip (hm : X.mg "zip" = none) (h : QA X c W [a, b] tA fA) (hg : Gl X "zip" := by rfl) (hK : X.K = c.K := by rfl) (hs : starEach [a, b] X.env = (false, eval a X.env) :: starEach [b] X.env := by rfl)
    (hpl : ((backTo pos (starEach [b] X.env)).any fun x => x.fst) = false := by rfl) : QI X c W (.Tuple es kk tpos) (.Call (.Name "zip" p) [a, b] [] pos) (iZipB c.K tA) (iZip' fA) := by
  obtain ⟨h1, h2⟩ := h
  exact ⟨hK ▸ PI.or (RZ.pi_zipA hg hm h1 hs hpl) (pi_zipM hg hm h1 hs hpl), di_zip h2⟩
end
/-! ### comprehensions -/
/-- a test of a comprehension, none or one -/
structure QTs (X : Cx) (c : Cfg) (W : WX) (es : List Expr) (t : TT) (f : M Bool) : Prop where
  pe : PTs X es t
  dn : DenT c W t f
/-- the place of a comprehension's own names -/
abbrev Blk (X : Cx) (scope : Scope) (s : Shared) (H : Hp) (C : Addr) (cl : List (Str × Addr)) (fp : List Addr) : Cx := X.blk s H scope (compEnvC scope cl C X.env) fp
section
variable {X : Cx} {c : Cfg} {W : WX} {tg it elt tg1 it1 : Expr} {ifs ifs1 : List Expr} {fI fI1 : M (List D)} {g g1 : D → M Unit} {js js1 : List Nat} {ft ft1 : M Bool} {fe : M S} {scope : Scope} {own : List (Str × Nat)} {vs1 : List Nat} {pos spos py : Pos} {wi wi1 : TI} {tgt tgt1 : TG} {tt tt1 : TT} {te : TE}
theorem ts_nil : QTs X c W [] tYes mYes := ⟨pts_nil, dt_yes⟩
theorem ts_one {e : Expr} (h : QT X c W e tt ft) : QTs X c W [e] tt ft := by
  obtain ⟨h1, h2⟩ := h
  exact ⟨pts_one h1, h2⟩
theorem anyPlace (c : Cfg) (P : Shared → Hp → Addr → List (Str × Addr) → List Addr → Prop) (h : ∀ s H C cl fp, P s H C cl fp) : ∃ s H C cl fp, P s H C cl fp := ⟨({} : Shared), fun _ => none, 0, [], [], h _ _ _ _ _⟩
theorem q_lc (hN : X.N.Nodup) (hI : QI X c W tg it wi fI) (hB : BlkOk X.N X.env.scope scope own) (hG : ∀ s H C cl fp, QG (Blk X scope s H C cl fp) c W0 tg tgt g js) (hT : ∀ s H C cl fp, QTs (Blk X scope s H C cl fp) c W0 ifs tt ft)
    (hE : ∀ s H C cl fp, QE (Blk X scope s H C cl fp) c W0 elt te fe) (hj : ∀ j ∈ js, j ∈ own.map (·.2) := by decide) (hc : X.calm = true := by rfl) (hs : ∀ x, foldedSetIterable it X.env x = pure x := by intro _; rfl) :
    QE X c W (.ListComp elt [{ target := tg, iter := it, ifs := ifs, is_async := 0 }] scope pos) (tLc wi tgt tt te (own.map (·.2))) (mLc fI g ft fe (own.map (·.2))) := by
  obtain ⟨h1, h2⟩ := hI
  obtain ⟨s, H, C, cl, fp, g2, t2, e2⟩ := anyPlace c _ fun s H C cl fp => And.intro (hG s H C cl fp).dn (And.intro (hT s H C cl fp).dn (hE s H C cl fp).dn)
  exact ⟨pe_lc hc hN h1 hB (fun s H C cl fp => (hG s H C cl fp).pe) (fun s H C cl fp => (hT s H C cl fp).pe) (fun s H C cl fp => (hE s H C cl fp).pe) hs, den_lc h2 g2 t2 e2 hj⟩
theorem s_setLc (i : Nat) {y : Str} (hN : X.N.Nodup) (hI : QI X c W tg it wi fI) (hB : BlkOk X.N X.env.scope scope own) (hG : ∀ s H C cl fp, QG (Blk X scope s H C cl fp) c W0 tg tgt g js) (hT : ∀ s H C cl fp, QTs (Blk X scope s H C cl fp) c W0 ifs tt ft)
    (hE : ∀ s H C cl fp, QE (Blk X scope s H C cl fp) c W0 elt te fe) (hj : ∀ j ∈ js, j ∈ own.map (·.2) := by decide) (hc : X.calm = true := by rfl) (hi : X.N[i]? = some y := by rfl) (hy : X.env.scope.names.lookup y = some .local := by rfl)
    (hw : swapsWith (.ListComp elt [{ target := tg, iter := it, ifs := ifs, is_async := 0 }] scope pos) (some (.Name y py)) spos.line X.env = pure true := by rfl) (hs : ∀ x, foldedSetIterable it X.env x = pure x := by intro _; rfl) :
    QS X c W (.Assign [.Name y py] (.ListComp elt [{ target := tg, iter := it, ifs := ifs, is_async := 0 }] scope pos) spos) (tAsg (tLc wi tgt tt te (own.map (·.2))) (gName i)) (mAsg (mLc fI g ft fe (own.map (·.2))) (gmName i)) := by
  obtain ⟨h1, h2⟩ := hI
  obtain ⟨s, H, C, cl, fp, g2, t2, e2⟩ := anyPlace c _ fun s H C cl fp => And.intro (hG s H C cl fp).dn (And.intro (hT s H C cl fp).dn (hE s H C cl fp).dn)
  exact ⟨ps_setLc hc hN hi hy hw h1 hB (fun s H C cl fp => (hG s H C cl fp).pe) (fun s H C cl fp => (hT s H C cl fp).pe) (fun s H C cl fp => (hE s H C cl fp).pe) hs, ds_asg (den_lc h2 g2 t2 e2 hj) dg_name⟩
end
end Fx
/-! lambdas: made, handed on, called -/
namespace Fx
open PySem PySem.Spec PyProof.Rows L2
open C8 (Cal Mak pe_c pe_mk)
open LamX (Tabs TabS TabB ExtN CodeO codeO_ne)
def runL (np nN : Nat) (fe : M S) : Fn := fun args => if args.length = np then fe (args.map some ++ List.replicate (nN - np) none) else .stuck
theorem spF_len {c : Cfg} {F : Fn} {n : Nat} (hF : ∀ args, args.length ≠ n → F args = .stuck) {vs : List V} {H : Hp} {Q : VK} {E : XK} (h : spF c F vs H Q E) : vs.length = n := by
  obtain ⟨B, ts, ws, args, r, p⟩ := h
  obtain ⟨G, o1, o2, k, h1, h2⟩ := r
  have e := h2.length
  rw [List.length_map, List.length_map] at e
  by_cases ha : args.length = n
  · omega
  · rw [hF _ ha] at p
    exact p.elim
section
variable {P : Program} {w : World} {mg : Str → Option Value} {base : Heap}
/-- a def that makes a lambda -/
structure FunC (K : PySem.W.Frag) (x qual : Str) (st : Stmt) (f : Addr) (fd : FuncData) (c : Addr) : Prop where
  ex : ∃ (oc : Value) (od : Option Addr) (kV doc pm : Value) (an : Option Addr) (ct : Value) (osl : Array (Option Value)),
    fd = PySem.W.fnOf x qual (defArgs st) (defBody st) (defScope st) .none kV doc pm an (.ref c) ct ∧ K.lookup f = some ⟨oc, od, .func fd, osl⟩ ∧ PySem.W.codeIn K (.ref c) qual = true
  kp : PySem.W.keepIn K (.ref f) = true
theorem fnC_den {c : Cfg} {cc : Addr} {x qual : Str} {st : Stmt} {f : Addr} {fd : FuncData} {N ps : List Str} {k : Nat} {body : M Fl} (F : FunC c.K x qual st f fd cc) (Sc : FnScope N ps (defScope st))
    (hbody : ∀ (A : Around) (outer : List Env) (s : Shared) (H : Hp) (E : XK), Room k (A.deeper (envOfC qual (defScope st) s.heap.objs.size f (.ref cc))) →
      ∃ t, PSs (cxOf L2.CX0 P w c.K mg base N qual (defScope st) f (.ref cc) A outer s H E).nox (defBody st) t ∧ DenS c W0 t body) : FnOk P w c.K mg base L2.CX0 (k + 1) f fd ps (spF c (runF ps.length N.length body)) := by
  have len : ∀ vs H Q E, spF c (runF ps.length N.length body) vs H Q E → vs.length = ps.length := fun vs H Q E h => spF_len (fun args ha => if_neg ha) h
  obtain ⟨oc, od, kV, doc, pm, an, ct, osl, rfl, lk, hcd⟩ := F.ex
  refine fn_of lk hcd Sc len fun A outer s H vs Q E hr h => ?_
  have hl := len vs H Q E h
  obtain ⟨B, ts, ws, args, r, p⟩ := h
  obtain ⟨t, h1, h2⟩ := hbody A outer s H E hr
  refine ⟨t, h1.nox, ?_⟩
  unfold runF at p
  split at p
  · rename_i ha
    have r2 := r.slots (N.length - ps.length)
    have e1 : vs.map some ++ List.replicate (N.length - ps.length) none = L2.start N vs := by
      unfold L2.start
      rw [hl]
    rw [e1] at r2
    refine h2 B ts ws _ _ H _ r2 ?_
    cases hb : body (args.map some ++ List.replicate (N.length - ps.length) none) with
    | stuck => rw [hb] at p; exact p.elim
    | err e ρ => rw [hb] at p; exact p.elim
    | ok f ρ =>
      rw [hb] at p
      cases f with
      | rt s => exact fun v σ' H' r' => p v σ' H' r'
      | nx => exact fun σ' H' r' => p .non σ' H' (Rep.repl (ds := []) (us := []) r' rfl fun G _ => .non)
      | bk => exact p.elim
      | ct => exact p.elim
  · exact p.elim
end
section
variable {c : Cfg} {W : WX} {B : Base} {G H : Hp} {ts : En} {vs : List (Option V)} {ρ : En} {σ : L2.St}
theorem Cell.at_ {a : Addr} {x : D} (hc : Cell c G H a x) : ∃ u, H a = some u ∧ isCell u := by
  cases x with
  | lst ds =>
    obtain ⟨vs, h, k⟩ := hc
    exact ⟨_, h, .lst _⟩
  | ins n ds =>
    obtain ⟨dx, fs, h, hn, k⟩ := hc
    exact ⟨_, h, .ins _ _ _⟩
  | dct ks ds =>
    obtain ⟨o, kv, us, h, d, k1, k2⟩ := hc
    have : ∃ es ep, o.data = .dict es ep := by cases d <;> assumption
    obtain ⟨es, ep, e⟩ := this
    exact ⟨_, h, .xd _ _ es ep e⟩
  | _ => exact hc.elim
theorem LsAll.at_ : ∀ {bs : List Addr} {dss : List (List D)}, LsAll c G H bs dss → ∀ p ∈ bs, ∃ u, H p = some u ∧ isCell u
  | _, _, .nil, p, hp => by simp at hp
  | _, _, .cons h _ l, p, hp => by
    rcases List.mem_cons.mp hp with rfl | hp
    · exact ⟨_, h, .lst _⟩
    · exact LsAll.at_ l p hp
theorem QCell.at_ {a : Addr} {ks : List D} {dss : List (List D)} {os : Owns} (h : QCell c G H a ks dss os) : ∀ p ∈ os, ∃ u, H p = some u ∧ isCell u := fun p hp => by
  obtain ⟨kvs, bs, rfl, h1, _, _, h4⟩ := h
  rcases List.mem_cons.mp hp with rfl | hp
  · exact ⟨_, h1, .dK _⟩
  · exact h4.at_ p hp
theorem Sl.cellAt : ∀ {es : En} {vs : List (Option V)} {own : Owns}, Sl c B G H es vs own → ∀ p ∈ own, ∃ u, H p = some u ∧ isCell u
  | _, _, _, .nil, p, hp => by simp at hp
  | _, _, _, .skip k, p, hp => k.cellAt p hp
  | _, _, _, .d _ k, p, hp => k.cellAt p hp
  | _, _, _, .o h _ k, p, hp => by
    rcases List.mem_cons.mp hp with rfl | hp
    · exact h.at_
    · exact k.cellAt p hp
  | _, _, _, .q h k, p, hp => by
    rcases List.mem_append.mp hp with hp | hp
    · exact h.at_ p hp
    · exact k.cellAt p hp
end
end Fx
/-! more words: int, sorted, sums, borrowed operands, methods, several names at once -/
namespace Fx
open PySem PySem.Spec PyProof.Rows L2
open C8 (Cal Mak pe_c pe_mk)
/-! ### ints of a list -/
def intsD : List D → Option (List Int)
  | [] => some []
  | .int i :: ds => (intsD ds).map (i :: ·)
  | _ => none
theorem RpAll.ints {c : Cfg} {G : Hp} : ∀ {us : List V} {ds : List D} {ns : List Int}, intsD ds = some ns → RpAll c G us ds → us = ns.map V.int
  | _, [], _, e, h => by cases e; cases h; rfl
  | _, d :: ds, ns, e, h => by
    cases d <;> first | cases e | skip
    rename_i i
    cases h with
    | cons h1 h2 =>
      cases h1
      have e : (intsD ds).map (i :: ·) = some ns := e
      cases e2 : intsD ds with
      | none => rw [e2] at e; cases e
      | some ms =>
        rw [e2] at e
        cases e
        rw [RpAll.ints e2 h2]
        rfl
theorem RpAll.ofInts {c : Cfg} {G : Hp} : ∀ ns : List Int, RpAll c G (ns.map V.int) (ns.map D.int)
  | [] => .nil
  | i :: ns => .cons (.int i) (RpAll.ofInts ns)
theorem intsD_map : ∀ ns : List Int, intsD (ns.map D.int) = some ns
  | [] => rfl
  | i :: ns => by
    show (intsD (ns.map D.int)).map (i :: ·) = _
    rw [intsD_map ns]
    rfl
def ins (i : Int) : List Int → List Int
  | [] => [i]
  | j :: js => if i ≤ j then i :: j :: js else j :: ins i js
def isort : List Int → List Int
  | [] => []
  | i :: is => ins i (isort is)
theorem ins_perm (i : Int) : ∀ js : List Int, (ins i js).Perm (i :: js)
  | [] => .refl _
  | j :: js => by
    unfold ins
    split
    · exact .refl _
    · exact ((ins_perm i js).cons j).trans (.swap i j js)
theorem isort_perm : ∀ is : List Int, (isort is).Perm is
  | [] => .refl _
  | i :: is => (ins_perm i _).trans ((isort_perm is).cons i)
theorem ins_pw (i : Int) : ∀ {js : List Int}, js.Pairwise (· ≤ ·) → (ins i js).Pairwise (· ≤ ·)
  | [], _ => by simp [ins]
  | j :: js, h => by
    unfold ins
    split
    · rename_i hij
      refine List.pairwise_cons.mpr ⟨fun k hk => ?_, h⟩
      rcases List.mem_cons.mp hk with rfl | hk
      · exact hij
      · exact Int.le_trans hij ((List.pairwise_cons.mp h).1 k hk)
    · rename_i hij
      refine List.pairwise_cons.mpr ⟨fun k hk => ?_, ins_pw i (List.pairwise_cons.mp h).2⟩
      have := (ins_perm i js).mem_iff.mp hk
      rcases List.mem_cons.mp this with rfl | hk
      · omega
      · exact (List.pairwise_cons.mp h).1 k hk
theorem isort_pw : ∀ is : List Int, (isort is).Pairwise (· ≤ ·)
  | [] => .nil
  | i :: is => ins_pw i (isort_pw is)
theorem isort_eq {ns ms : List Int} (p : ms.Perm ns) (h : ms.Pairwise (· ≤ ·)) : ms = isort ns :=
  List.Perm.eq_of_pairwise (fun a b _ _ h1 h2 => Int.le_antisymm h1 h2) h (isort_pw ns) (p.trans (isort_perm ns).symm)
def gSorted : List D → Option S
  | [.lst ds] => (intsD ds).map fun ns => .o none (.lst ((isort ns).map D.int))
  | _ => none
theorem cd_sorted {c : Cfg} : CbDen c (rSortedI c.K) gSorted := by
  intro B ts vs ρ σ H Q ds us s hl r e q
  match ds, hl, r, e with
  | [.lst ds], hl, r, e =>
    obtain ⟨v, rfl, G, O, h⟩ := r.one' hl
    obtain ⟨a, xs, rfl, ha, ka⟩ := h.lstE
    have e : (intsD ds).map (fun ns => S.o none (.lst ((isort ns).map D.int))) = some s := e
    cases e2 : intsD ds with
    | none => rw [e2] at e; cases e
    | some ns =>
      rw [e2] at e
      cases e
      rw [RpAll.ints e2 ka] at ha
      refine ⟨a, ns, rfl, SqL.of (O.sub _ _ ha), fun ns' p pm pw hp => ?_⟩
      rw [isort_eq pm pw]
      exact q _ _ (O.newO hp fun H' e => ⟨_, e, RpAll.ofInts _⟩)
/-! ### int, min, max, sum -/
def gInt1 : List D → Option S
  | [.int i] => ok1 (.int i)
  | [.bl b] => ok1 (.int (if b = true then 1 else 0))
  | _ => none
theorem cd_int {c : Cfg} : CbDen c (fun xs H Q => (∃ i, xs = [V.int i] ∧ Q (V.int i) H) ∨ ∃ k, xs = [V.bl k] ∧ Q (V.int (if k = true then 1 else 0)) H) gInt1 := by
  intro B ts vs ρ σ H Q ds us s hl r e q
  match ds, hl, r, e with
  | [.int i], hl, r, e =>
    cases e
    obtain ⟨v, rfl, G, O, h⟩ := r.one' hl
    cases h
    exact .inl ⟨i, rfl, q _ _ (O.val (.int _))⟩
  | [.bl b], hl, r, e =>
    cases e
    obtain ⟨v, rfl, G, O, h⟩ := r.one' hl
    cases h
    exact .inr ⟨b, rfl, q _ _ (O.val (.int _))⟩
section
variable {X : Cx} {c : Cfg}
theorem b_int : QB X c "int" (fun xs H Q => (∃ i, xs = [V.int i] ∧ Q (V.int i) H) ∨ ∃ k, xs = [V.bl k] ∧ Q (V.int (if k = true then 1 else 0)) H) gInt1 := ⟨.inr ⟨_, call_int1, by decide +kernel⟩, cd_int⟩
theorem b_sorted (hK : X.K = c.K := by rfl) : QB X c "sorted" (rSortedI c.K) gSorted := ⟨.inl ⟨_, hK ▸ cr_sortedI, by decide +kernel⟩, cd_sorted⟩
end
/-! ### an operand that is a name's cell, lent -/
/-- an operation whose answer is flat and that leaves the heap -/
def FlatOp (c : Cfg) (r : R2) (g : D → D → Option S) : Prop := ∀ (G H : Hp) (Q : VK) (x y : D) (v u : V) (s : S), (∀ a o, G a = some o → H a = some o) → Rp c G v x → Rp c G u y → g x y = some s → (∀ b : Bool, s = .d (.bl b) → Q (.bl b) H) → r v u H Q
theorem fo_in {c : Cfg} {neg : Bool} : FlatOp c (rInP c.K neg) (gInN neg) := by
  intro G H Q x y v u s sub h1 h2 e q
  unfold gInN at e
  split at e
  · rename_i ds hi
    split at e
    · rename_i hp
      rw [Bool.and_eq_true] at hp
      cases e
      have e3 : (toPs ds).any (fun z => PyData.eqv z (toP x)) = inD x ds := by
        rw [toPs_map, List.any_map]
        rfl
      refine ⟨toP x, toPs ds, h1.dp sub hp.1, ?_, (pl60_shaped hp.1).1, (plA_plain hp.2).1, Nat.le_trans (pl60_shaped hp.1).2 (by decide), ?_⟩
      · cases y <;> first | cases hi | skip
        · have := h2.dp (n := 61) sub (by simpa [pl] using hp.2)
          simp only [toP] at this
          exact .inr this
        · have := h2.dp (n := 61) sub (by simpa [pl] using hp.2)
          simp only [toP] at this
          exact .inl this
      · rw [e3]
        exact q _ rfl
    · cases e
  · cases e
section
variable {c : Cfg} {W : WX} {B : Base} {ts : En} {vs : List (Option V)} {ρ : En} {σ : L2.St} {H : Hp} {ta tb : TE} {fa fb : M S} {i : Nat} {r : R2} {g : D → D → Option S}
def lendD (ρ : En) (i : Nat) : Option D := match ρ[i]? with
  | some (some (.d x)) => some x
  | some (some (.o _ x)) => if canFz x then some x else none
  | _ => none
theorem Rep.lend {x y : D} {v : V} (e : lendD ρ i = some y) (r : Rep c B (some (.d x) :: ts) (some v :: vs) ρ σ H) : ∃ u G, σ[i]? = some (some u) ∧ (∀ a o, G a = some o → H a = some o) ∧ Rp c G v x ∧ Rp c G u y := by
  obtain ⟨G, o1, o2, k, h1, h2⟩ := r
  have hv : Rp c G v x := by
    cases h1 with
    | d h _ => exact h
  unfold lendD at e
  split at e
  · rename_i x' e1
    cases e
    obtain ⟨u, ev, hu⟩ := h2.getD e1
    exact ⟨u, G, ev, k.sub, hv, hu⟩
  · rename_i b x' e1
    split at e
    · rename_i hz
      cases e
      obtain ⟨a, ev, hc, ho, _⟩ := h2.getO e1
      obtain ⟨o, ha, _, hf⟩ := hc.fz hz
      have gp := (k.out a (List.mem_append_right _ ho)).1
      have s : ∀ b u, G b = some u → upd G a o b = some u := fun b u e => by
        have : b ≠ a := fun z => by rw [z, gp] at e; cases e
        rw [upd_ne this]
        exact e
      refine ⟨.ref a, upd G a o, ev, fun b u e => ?_, hv.mono s, hf _ s upd_same⟩
      by_cases hb : b = a
      · rw [hb, upd_same] at e
        rw [hb, ha, ← e]
      · rw [upd_ne hb] at e
        exact k.sub _ _ e
    · cases e
  · cases e
def mOpR (g : D → D → Option S) (fa : M S) (i : Nat) : M S := fun ρ => (dv fa ρ).then fun x ρ1 => match lendD ρ1 i with
  | some y => match g x y with
    | some (.d (.bl b)) => .ok (.d (.bl b)) ρ1
    | _ => .stuck
  | none => .stuck
theorem Rep.unit1 {x : D} {v : V} {b : Bool} (r : Rep c B (some (.d x) :: ts) (some v :: vs) ρ σ H) : Rep c B (some (.d (.bl b)) :: ts) (some (.bl b) :: vs) ρ σ H := by
  obtain ⟨G, O, _⟩ := r.one
  exact O.val (.bl _)
theorem den_opR (ho : FlatOp c r g) (h : Den c W ta fa) : Den c W (tOp r ta (tVar i)) (mOpR g fa i) := fun B ts vs ρ σ H Q rp q => by
  unfold mOpR at q
  rw [post_then] at q
  refine h.dv rp (q.imp1 fun x ρ1 q v H1 r1 => ?_)
  split at q
  · rename_i y e
    obtain ⟨u, G, ev, sub, hx, hy⟩ := r1.lend e
    split at q
    · rename_i b eg
      refine ⟨u, ev, ho G H1 Q x y v u _ sub hx hy eg fun b' hb => ?_⟩
      cases hb
      exact q _ _ r1.unit1
    · exact q.elim
  · exact q.elim
end
section
variable {X : Cx} {c : Cfg} {W : WX} {a b e : Expr} {es : List Expr} {fa fb fe : M S} {pos p p2 apos cpos : Pos} {k : Nat} {ta tb te : TE}
/-- an operator of comparison whose operand may be lent -/
structure QF (X : Cx) (c : Cfg) (op : CmpOp) (r : R2) (g : D → D → Option S) : Prop where
  pe : OpR X (compareOp op) r
  dn : FlatOp c r g
theorem f_in (hr : Room k X.A) (hK : X.K = c.K := by rfl) : QF X c .In (rInP c.K false) gIn := ⟨hK ▸ op_inP (un66 hr), fo_in⟩
variable {op : CmpOp} {g : D → D → Option S} {r : R2} {x : Str}
theorem t_cmpR (ho : QF X c op r g) (ha : QE X c W a ta fa) (i : Nat) (hN : X.N[i]? = some x := by rfl) (hv : Vis X.env.scope x := by first | exact Or.inl rfl | exact Or.inr (Or.inl rfl) | exact Or.inr (Or.inr rfl)) (hd : (x == ("__debug__" : Str)) = false := by decide)
    (hcd : (x == ("__classdict__" : Str)) = false := by decide) (hm : behindInMarks op (.Name x p) = false := by first | exact nomark _ | with_unfolding_all rfl) : QT X c W (.Compare a [op] [.Name x p] pos) (tTest (tOp r ta (tVar i))) (mTest (mOpR g fa i)) := by
  obtain ⟨h1, h2⟩ := ha; obtain ⟨r1, r2⟩ := ho
  exact ⟨pt_cmpR r1 h1 (pe_var hN hv hd hcd) hm, dt_test (den_opR r2 h2)⟩
/-! ### methods of a name's list, its length -/
theorem q_lenO (i : Nat) (hmg : X.mg "len" = none) (hN : X.N[i]? = some x := by rfl) (hv : Vis X.env.scope x := by first | exact Or.inl rfl | exact Or.inr (Or.inl rfl) | exact Or.inr (Or.inr rfl)) (hd : (x == ("__debug__" : Str)) = false := by decide)
    (hcd : (x == ("__classdict__" : Str)) = false := by decide) (hg : Gl X "len" := by rfl) (he : starEach [.Name x p2] X.env = (false, eval (.Name x p2) X.env) :: starEach [] X.env := by rfl) (hpl : (backTo pos (starEach [] X.env)).any (·.1) = false := by rfl) (hK : X.K = c.K := by rfl) :
    QE X c W (.Call (.Name "len" p) [.Name x p2] [] pos) (tCB (rLenG c.K) (tCons (tVar i) tNil)) (mLenO i) :=
  ⟨pe_callB (hK ▸ cr_lenG) hg hmg PySem.boot_len (pa_cons (pe_var hN hv hd hcd) pa_nil he) (by decide) (by decide) he hpl, den_lenO⟩
theorem q_append (i : Nat) (he : QE X c W e te fe) (hN : X.N[i]? = some x := by rfl) (hv : Vis X.env.scope x := by first | exact Or.inl rfl | exact Or.inr (Or.inl rfl) | exact Or.inr (Or.inr rfl)) (hd : (x == ("__debug__" : Str)) = false := by decide)
    (hcd : (x == ("__classdict__" : Str)) = false := by decide) (hbase : attributeBase (.Name x p) "append" X.env (eval (.Name x p) X.env) = eval (.Name x p) X.env := by rfl)
    (hfew : ((backTo cpos (starEach [e] X.env)).all (fun y => !y.1) && (backToKw cpos (keywordEach [] X.env)).all (fun y => y.1.isSome) && decide ([e].length + ([] : List Keyword).length + (if ([] : List Keyword).isEmpty then 0 else 1) < 30)) = true := by rfl) (hline : (apos.endLine == cpos.line) = true := by rfl)
    (hs : starEach [e] X.env = (false, eval e X.env) :: starEach [] X.env := by rfl) (hplain : (backTo cpos (starEach [] X.env)).any (·.1) = false := by rfl) (hK : X.K = c.K := by rfl) :
    QE X c W (.Call (.Attribute (.Name x p) "append" apos) [e] [] cpos) (tBM c.K "list" rAppend (tVar i) (tCons te tNil)) (mMeth1 i gApp fe) := by
  obtain ⟨h1, h2⟩ := he
  exact ⟨hK ▸ pe_bm PySem.F.plainAttrs_list PySem.F.slot_list_append PySem.F.type_list_append mt_append (pe_var hN hv hd hcd) (pa_cons h1 pa_nil hs) hbase hfew hline hs hplain, den_meth1 md_app h2⟩
theorem q_extend (i : Nat) (he : QE X c W e te fe) (hN : X.N[i]? = some x := by rfl) (hv : Vis X.env.scope x := by first | exact Or.inl rfl | exact Or.inr (Or.inl rfl) | exact Or.inr (Or.inr rfl)) (hd : (x == ("__debug__" : Str)) = false := by decide)
    (hcd : (x == ("__classdict__" : Str)) = false := by decide) (hbase : attributeBase (.Name x p) "extend" X.env (eval (.Name x p) X.env) = eval (.Name x p) X.env := by rfl)
    (hfew : ((backTo cpos (starEach [e] X.env)).all (fun y => !y.1) && (backToKw cpos (keywordEach [] X.env)).all (fun y => y.1.isSome) && decide ([e].length + ([] : List Keyword).length + (if ([] : List Keyword).isEmpty then 0 else 1) < 30)) = true := by rfl) (hline : (apos.endLine == cpos.line) = true := by rfl)
    (hs : starEach [e] X.env = (false, eval e X.env) :: starEach [] X.env := by rfl) (hplain : (backTo cpos (starEach [] X.env)).any (·.1) = false := by rfl) (hK : X.K = c.K := by rfl) :
    QE X c W (.Call (.Attribute (.Name x p) "extend" apos) [e] [] cpos) (tBM c.K "list" rExtend (tVar i) (tCons te tNil)) (mMeth1 i gExt fe) := by
  obtain ⟨h1, h2⟩ := he
  exact ⟨hK ▸ pe_bm PySem.F.plainAttrs_list PySem.F.slot_list_extend PySem.F.type_list_extend mt_extend (pe_var hN hv hd hcd) (pa_cons h1 pa_nil hs) hbase hfew hline hs hplain, den_meth1 md_ext h2⟩
theorem q_popAt (i : Nat) (he : QE X c W e te fe) (hN : X.N[i]? = some x := by rfl) (hv : Vis X.env.scope x := by first | exact Or.inl rfl | exact Or.inr (Or.inl rfl) | exact Or.inr (Or.inr rfl)) (hd : (x == ("__debug__" : Str)) = false := by decide)
    (hcd : (x == ("__classdict__" : Str)) = false := by decide) (hbase : attributeBase (.Name x p) "pop" X.env (eval (.Name x p) X.env) = eval (.Name x p) X.env := by rfl)
    (hfew : ((backTo cpos (starEach [e] X.env)).all (fun y => !y.1) && (backToKw cpos (keywordEach [] X.env)).all (fun y => y.1.isSome) && decide ([e].length + ([] : List Keyword).length + (if ([] : List Keyword).isEmpty then 0 else 1) < 30)) = true := by rfl) (hline : (apos.endLine == cpos.line) = true := by rfl)
    (hs : starEach [e] X.env = (false, eval e X.env) :: starEach [] X.env := by rfl) (hplain : (backTo cpos (starEach [] X.env)).any (·.1) = false := by rfl) (hK : X.K = c.K := by rfl) :
    QE X c W (.Call (.Attribute (.Name x p) "pop" apos) [e] [] cpos) (tBM c.K "list" rPopAt (tVar i) (tCons te tNil)) (mMeth1 i gPopAt fe) := by
  obtain ⟨h1, h2⟩ := he
  exact ⟨hK ▸ pe_bm PySem.F.plainAttrs_list PySem.F.slot_list_pop PySem.F.type_list_pop mt_popAt (pe_var hN hv hd hcd) (pa_cons h1 pa_nil hs) hbase hfew hline hs hplain, den_meth1 md_popAt h2⟩
theorem q_pop (i : Nat) (hN : X.N[i]? = some x := by rfl) (hv : Vis X.env.scope x := by first | exact Or.inl rfl | exact Or.inr (Or.inl rfl) | exact Or.inr (Or.inr rfl)) (hd : (x == ("__debug__" : Str)) = false := by decide)
    (hcd : (x == ("__classdict__" : Str)) = false := by decide) (hbase : attributeBase (.Name x p) "pop" X.env (eval (.Name x p) X.env) = eval (.Name x p) X.env := by rfl) (hline : (apos.endLine == cpos.line) = true := by rfl) (hK : X.K = c.K := by rfl) :
    QE X c W (.Call (.Attribute (.Name x p) "pop" apos) [] [] cpos) (tBM0 c.K "list" rPop (tVar i)) (mMeth0 i gPop) :=
  ⟨hK ▸ pe_bm0 PySem.F.plainAttrs_list PySem.F.slot_list_pop PySem.F.type_list_pop mt_pop (pe_var hN hv hd hcd) hbase hline, den_meth0 md_pop⟩
/-- isinstance(e, C), C a class of the text's own -/
theorem q_isC {C : Str} (n : String) (K : ClsOk c n) (hgm : X.mg C = some (.ref (c.cls n))) (hm : X.mg "isinstance" = none) (he : QE X c W e te fe) (hg : Gl X "isinstance" := by rfl) (hgC : Gl X C := by rfl) (hdb : (C == ("__debug__" : Str)) = false := by decide)
    (hs : starEach [e, .Name C p2] X.env = (false, eval e X.env) :: starEach [.Name C p2] X.env := by rfl) (hs2 : starEach [.Name C p2] X.env = (false, eval (.Name C p2) X.env) :: starEach [] X.env := by rfl) (hpl : (backTo pos (starEach [.Name C p2] X.env)).any (·.1) = false := by rfl) (hK : X.K = c.K := by rfl) :
    QE X c W (.Call (.Name "isinstance" p) [e, .Name C p2] [] pos) (tIsC c.K (c.cls n) te) (mIsC n fe) := by
  obtain ⟨h1, h2⟩ := he
  exact ⟨pe_callB (hK ▸ call_isi) hg hm (by decide +kernel) (pa_cons h1 (pa_cons (pe_glob (v := .ref (c.cls n)) hgC hgm rfl hdb) pa_nil hs2) hs) (by decide) (by decide) hs hpl, den_isC K h2⟩
end
end Fx
/-! a, b = x, y and a, b, c = x, y, z -/
namespace Fx
open PySem PySem.Spec PyProof.Rows L2
open C8 (Cal Mak pe_c pe_mk)
abbrev stk (ss : List S) : En := ss.reverse.map some
def DenP (c : Cfg) (W : WX) (tA : TA) (f : M (List S)) : Prop := ∀ B ts vs ρ σ H Q, Rep c B ts vs ρ σ H → Post (fun ss ρ' => ∀ us H', us.length = ss.length → Rep c B (stk ss ++ ts) (tmv us ++ vs) ρ' σ H' → Q us H') (ErrP c W B ts vs σ) (f ρ) → tA σ H Q
def psNil : M (List S) := fun ρ => .ok [] ρ
def psCons (fa : M S) (fr : M (List S)) : M (List S) := fun ρ => (fa ρ).then fun s ρ1 => (fr ρ1).then fun ss ρ2 => .ok (s :: ss) ρ2
def stS (own : Bool) (s : S) : Option S := if own then match s with
    | .o none x => some (.o none x)
    | _ => (toD s).map .d
  else (toD s).map .d
section
variable {c : Cfg} {W : WX} {B : Base} {ts : En} {vs : List (Option V)} {ρ : En} {σ : L2.St} {H : Hp} {ta : TE} {fa : M S} {tr tA : TA} {fr fP : M (List S)}
theorem dp_nil : DenP c W tNil psNil := fun B ts vs ρ σ H Q r h => h [] H rfl r
theorem dp_cons (ha : Den c W ta fa) (hr : DenP c W tr fr) : DenP c W (tCons ta tr) (psCons fa fr) := fun B ts vs ρ σ H Q r q => by
  unfold psCons at q
  rw [post_then] at q
  refine ha B ts vs ρ σ H _ r (q.imp1 fun s ρ1 h v H1 r1 => ?_)
  rw [post_then] at h
  refine hr B _ _ ρ1 σ H1 _ r1 (h.imp (fun ss ρ2 h us H2 hl r2 => ?_) fun _ _ h => h.drop)
  refine h (v :: us) H2 (by simp [hl]) ?_
  unfold stk tmv
  rw [List.reverse_cons, List.map_append, List.reverse_cons, List.map_append, List.append_assoc, List.append_assoc]
  exact r2
theorem Rep.stS {own : Bool} {s s' : S} {v : V} (e : stS own s = some s') (r : Rep c B (some s :: ts) (some v :: vs) ρ σ H) : Rep c B (some s' :: ts) (some v :: vs) ρ σ H := by
  have key : ∀ {s' : S}, (Fx.toD s).map S.d = some s' → Rep c B (some s' :: ts) (some v :: vs) ρ σ H := by
    intro s' e
    cases e2 : Fx.toD s with
    | none => rw [e2] at e; cases e
    | some x =>
      rw [e2] at e
      cases e
      exact r.toD e2
  unfold Fx.stS at e
  split at e
  · split at e
    · cases e
      exact r
    · exact key e
  · exact key e
def mPar2 (i : Nat) (oi : Bool) (j : Nat) (oj : Bool) (fP : M (List S)) : M Fl := fun ρ => (fP ρ).then fun ss ρ1 => match ss with
  | [s, t] => match stS oi s, stS oj t with
    | some s', some t' => .ok .nx ((ρ1.set j (some t')).set i (some s'))
    | _, _ => .stuck
  | _ => .stuck
def mPar3 (i : Nat) (oi : Bool) (j : Nat) (oj : Bool) (k : Nat) (ok : Bool) (fP : M (List S)) : M Fl := fun ρ => (fP ρ).then fun ss ρ1 => match ss with
  | [s, t, u] => match stS oi s, stS oj t, stS ok u with
    | some s', some t', some u' => .ok .nx (((ρ1.set k (some u')).set j (some t')).set i (some s'))
    | _, _, _ => .stuck
  | _ => .stuck
theorem ds_par2 {i j : Nat} {oi oj : Bool} (hij : i ≠ j) (h : DenP c W tA fP) : DenS c W (tPar i j tA) (mPar2 i oi j oj fP) := fun B ts vs ρ σ H D r q => by
  unfold mPar2 at q
  rw [post_then] at q
  refine h B ts vs ρ σ H _ r (q.imp (fun ss ρ1 q us H1 hl r1 => ?_) fun _ _ h => h.toP)
  match ss, us, hl, q, r1 with
  | [s, t], [v, w], _, q, r1 =>
    dsimp only at q
    split at q
    · rename_i s' t' e1 e2
      refine ⟨v, w, rfl, ?_⟩
      have r2 : Rep c B (some t :: some s :: ts) (some w :: some v :: vs) ρ1 σ H1 := r1
      have r3 := (r2.stS e2).set (i := j)
      have r4 := (r3.stS e1).set (i := i)
      have q : EndP c B ts vs D .nx _ := q
      have e : (σ.set i (some v)).set j (some w) = (σ.set j (some w)).set i (some v) := List.set_comm _ _ hij
      rw [e]
      exact q _ _ r4
    · exact q.elim
def tPar3 (i j k : Nat) (ta : TA) : TS := fun D σ H => ta σ H fun vs H1 => ∃ u v w, vs = [u, v, w] ∧ D.nx (((σ.set i (some u)).set j (some v)).set k (some w)) H1
theorem ds_par3 {i j k : Nat} {oi oj ok : Bool} (hij : i ≠ j) (hik : i ≠ k) (hjk : j ≠ k) (h : DenP c W tA fP) : DenS c W (tPar3 i j k tA) (mPar3 i oi j oj k ok fP) := fun B ts vs ρ σ H D r q => by
  unfold mPar3 at q
  rw [post_then] at q
  refine h B ts vs ρ σ H _ r (q.imp (fun ss ρ1 q us H1 hl r1 => ?_) fun _ _ h => h.toP)
  match ss, us, hl, q, r1 with
  | [s, t, u], [v, w, x], _, q, r1 =>
    dsimp only at q
    split at q
    · rename_i s' t' u' e1 e2 e3
      refine ⟨v, w, x, rfl, ?_⟩
      have r2 : Rep c B (some u :: some t :: some s :: ts) (some x :: some w :: some v :: vs) ρ1 σ H1 := r1
      have r3 := (r2.stS e3).set (i := k)
      have r4 := (r3.stS e2).set (i := j)
      have r5 := (r4.stS e1).set (i := i)
      have q : EndP c B ts vs D .nx _ := q
      have e : (((σ.set i (some v)).set j (some w)).set k (some x)) = (((σ.set k (some x)).set j (some w)).set i (some v)) := by
        rw [List.set_comm _ _ hjk, List.set_comm _ _ hik, List.set_comm _ _ hij]
      rw [e]
      exact q _ _ r5
    · exact q.elim
end
section
variable {X : Cx}
theorem ps_par3 {i j k : Nat} {x y z : Str} {a b d : Expr} {ta : TA} {px py pz pt pos : Pos} {kt k2 pt2} (hc : X.calm = true) (hN : X.N.Nodup) (hi : X.N[i]? = some x) (hj : X.N[j]? = some y) (hk : X.N[k]? = some z) (hij : i ≠ j) (hik : i ≠ k) (hjk : j ≠ k)
    (hx : X.env.scope.names.lookup x = some .local) (hy : X.env.scope.names.lookup y = some .local) (hz : X.env.scope.names.lookup z = some .local) (ha : PA X [a, b, d] ta)
    (hw : swappedStores [.Tuple [.Name x px, .Name y py, .Name z pz] kt pt] (.Tuple [a, b, d] k2 pt2) X.env = pure (some [x, y, z]))
    (hs : swapsWithSole [.Tuple [.Name x px, .Name y py, .Name z pz] kt pt] (.Tuple [a, b, d] k2 pt2) pos.line X.env = pure false := by rfl) :
    PS X (.Assign [.Tuple [.Name x px, .Name y py, .Name z pz] kt pt] (.Tuple [a, b, d] k2 pt2) pos) (tPar3 i j k ta) := by
  refine ⟨fun pins s σ H D I h => ?_⟩
  rw [exec_Assign_arm]
  refine wpAny_bind (wpAny_standAt ?_)
  rw [hs]
  refine wpAny_bind (wpAny_pure ?_)
  rw [if_neg (by decide)]
  refine wpAny_bind (Tuple_ (thn (ha.run _ pins s σ H _ I h) fun us s1 ⟨vs, H1, I1, r1, q1⟩ => ?_))
  obtain ⟨v, w, t, e1, q1⟩ := q1
  subst e1
  obtain ⟨u1, u2, u3, rfl, rv, rw', rz⟩ : ∃ u1 u2 u3, us = [u1, u2, u3] ∧ RelV v u1 ∧ RelV w u2 ∧ RelV t u3 := by
    cases r1 with
    | cons p q =>
      cases q with
      | cons p' q' =>
        cases q' with
        | cons p2 q2 =>
          cases q2
          exact ⟨_, _, _, rfl, p, p', p2⟩
  refine wpAny_newObj_type ?_ (by show 3 ≤ sizeLine; decide)
  have I2 : Inv X pins σ H1 { s1 with heap := s1.heap.push { cls := .type "tuple", data := .seq [u1, u2, u3].toArray } } := I1.kept (t' := s1.toks) fun b o e => Heap.get?_push_of_some _ e
  rw [hw]
  refine wpAny_bind (wpAny_pure ?_)
  show wpAny (model X.prog X.w) X.A (do rule "assign.swapped-stores"; let items ← unpackItems (.ref s1.heap.objs.size) 3 none; assignInOrder [fun v => bindName X.env z v, fun v => bindName X.env y v, fun v => bindName X.env x v] items.reverse; pure Flow.next) _ _ _
  refine wpAny_bind (wpAny_rule (wpAny_bind (unpackItems_tuple (items := #[u1, u2, u3]) (I.ok.hd hc) (IsTup.new s1.heap _) fun h' hx' => ?_)))
  have I3 := I2.kept (h' := h') (t' := s1.toks) fun b o e => hx' b o (Nat.ne_of_lt (Heap.lt_size e)) e
  show wpAny _ _ (assignInOrder [fun v => bindName X.env z v, fun v => bindName X.env y v, fun v => bindName X.env x v] [u3, u2, u1] >>= fun _ => pure Flow.next) _ _ _
  refine wpAny_bind (assignInOrder_cons (wpAny_bindName (store_ok I3 hN hk (.inl hz) rz (fun s2 I4 => ?_) (.inr hz))))
  refine assignInOrder_cons (wpAny_bindName (store_ok I4 hN hj (.inl hy) rw' (fun s3 I5 => ?_) (.inr hy)))
  refine assignInOrder_cons (wpAny_bindName (store_ok I5 hN hi (.inl hx) rv (fun s4 I6 => assignInOrder_nil (wpAny_pure ?_)) (.inr hx)))
  have e : (((σ.set i (some v)).set j (some w)).set k (some t)) = (((σ.set k (some t)).set j (some w)).set i (some v)) := by
    rw [List.set_comm _ _ hjk, List.set_comm _ _ hik, List.set_comm _ _ hij]
  rw [← e] at I6
  exact ⟨_, H1, I6, q1⟩
end
structure QP (X : Cx) (c : Cfg) (W : WX) (es : List Expr) (t : TA) (f : M (List S)) : Prop where
  pe : PA X es t
  dn : DenP c W t f
section
variable {X : Cx} {c : Cfg} {W : WX} {a b d e : Expr} {es : List Expr} {te : TE} {fe : M S} {tA : TA} {fP : M (List S)} {pos : Pos} {oi oj ok : Bool}
theorem ps_nil : QP X c W [] tNil psNil := ⟨pa_nil, dp_nil⟩
theorem ps_cons (h : QE X c W e te fe) (k : QP X c W es tA fP) (hs : starEach (e :: es) X.env = (false, eval e X.env) :: starEach es X.env := by rfl) : QP X c W (e :: es) (tCons te tA) (psCons fe fP) := by
  obtain ⟨h1, h2⟩ := h; obtain ⟨k1, k2⟩ := k
  exact ⟨pa_cons h1 k1 hs, dp_cons h2 k2⟩
theorem s_par2 (i : Nat) (oi : Bool) (j : Nat) (oj : Bool) {x y : Str} {px py pt : Pos} {kt k2 pt2} (hN : X.N.Nodup) (ha : QP X c W [a, b] tA fP) (hij : i ≠ j := by decide) (hc : X.calm = true := by rfl) (hi : X.N[i]? = some x := by rfl) (hj : X.N[j]? = some y := by rfl)
    (hx : X.env.scope.names.lookup x = some .local := by rfl) (hy : X.env.scope.names.lookup y = some .local := by rfl)
    (hw : swappedStores [.Tuple [.Name x px, .Name y py] kt pt] (.Tuple [a, b] k2 pt2) X.env = pure (some [x, y]) := by rfl)
    (hs : swapsWithSole [.Tuple [.Name x px, .Name y py] kt pt] (.Tuple [a, b] k2 pt2) pos.line X.env = pure false := by rfl) :
    QS X c W (.Assign [.Tuple [.Name x px, .Name y py] kt pt] (.Tuple [a, b] k2 pt2) pos) (tPar i j tA) (mPar2 i oi j oj fP) := by
  obtain ⟨h1, h2⟩ := ha
  exact ⟨ps_par hc hN hi hj hij hx hy h1 hw hs, ds_par2 hij h2⟩
theorem s_par3 (i : Nat) (oi : Bool) (j : Nat) (oj : Bool) (k : Nat) (ok : Bool) {x y z : Str} {px py pz pt : Pos} {kt k2 pt2} (hN : X.N.Nodup) (ha : QP X c W [a, b, d] tA fP) (hij : i ≠ j := by decide) (hik : i ≠ k := by decide) (hjk : j ≠ k := by decide) (hc : X.calm = true := by rfl) (hi : X.N[i]? = some x := by rfl) (hj : X.N[j]? = some y := by rfl) (hk : X.N[k]? = some z := by rfl)
    (hx : X.env.scope.names.lookup x = some .local := by rfl) (hy : X.env.scope.names.lookup y = some .local := by rfl) (hz : X.env.scope.names.lookup z = some .local := by rfl)
    (hw : swappedStores [.Tuple [.Name x px, .Name y py, .Name z pz] kt pt] (.Tuple [a, b, d] k2 pt2) X.env = pure (some [x, y, z]) := by rfl)
    (hs : swapsWithSole [.Tuple [.Name x px, .Name y py, .Name z pz] kt pt] (.Tuple [a, b, d] k2 pt2) pos.line X.env = pure false := by rfl) :
    QS X c W (.Assign [.Tuple [.Name x px, .Name y py, .Name z pz] kt pt] (.Tuple [a, b, d] k2 pt2) pos) (tPar3 i j k tA) (mPar3 i oi j oj k ok fP) := by
  obtain ⟨h1, h2⟩ := ha
  exact ⟨ps_par3 hc hN hi hj hk hij hik hjk hx hy hz h1 hw hs, ds_par3 hij hik hjk h2⟩
end
/-! the same by a tuple (where a name is a cell) -/
section
variable {c : Cfg} {W : WX} {B : Base} {ts : En} {vs : List (Option V)} {ρ : En} {σ : L2.St} {H : Hp} {tA : TA} {fP : M (List S)}
theorem Rep.extra {p : Addr} {o : HO} (r : Rep c B ts vs ρ σ H) (hp : H p = none) (ho : isTbl o = false) : Rep c B ts vs ρ σ (upd H p o) := by
  obtain ⟨G, o1, o2, k, h1, h2⟩ := r
  have gp := k.gnone hp
  have s : ∀ a u, G a = some u → upd G p o a = some u := upd_sub gp
  have e := own_new (o := o) k hp
  exact ⟨_, o1, o2, k.alloc hp ho, h1.mono s fun q hq => e q (List.mem_append_left _ hq), h2.mono s fun q hq => e q (List.mem_append_right _ hq)⟩
theorem ds_parT2 {i j : Nat} {oi oj : Bool} (hij : i ≠ j) (h : DenP c W tA fP) : DenS c W (tAsg (tTup tA) (gTup c.K 2 (gCons (gName i) (gCons (gName j) gNil)))) (mPar2 i oi j oj fP) := fun B ts vs ρ σ H D r q => by
  unfold mPar2 at q
  rw [post_then] at q
  refine h B ts vs ρ σ H _ r (q.imp (fun ss ρ1 q us H1 hl r1 => ?_) fun _ _ h => h.toP)
  match ss, us, hl, q, r1 with
  | [s, t], [v, w], _, q, r1 =>
    dsimp only at q
    split at q
    · rename_i s' t' e1 e2
      refine ⟨(by show 2 ≤ sizeLine; decide), fun p hp => ⟨p, [v, w], rfl, .inl (.inl upd_same), rfl, v, [w], rfl, w, [], rfl, rfl, ?_⟩⟩
      have r2 : Rep c B (some t :: some s :: ts) (some w :: some v :: vs) ρ1 σ H1 := r1
      have r3 := (r2.stS e2).set (i := j)
      have r4 := ((r3.stS e1).set (i := i)).extra (o := .tup [v, w]) hp rfl
      have q : EndP c B ts vs D .nx _ := q
      have e : (σ.set i (some v)).set j (some w) = (σ.set j (some w)).set i (some v) := List.set_comm _ _ hij
      rw [e]
      exact q _ _ r4
    · exact q.elim
end
section
variable {X : Cx} {c : Cfg} {W : WX} {a b d e : Expr} {es : List Expr} {te : TE} {fe : M S} {tA : TA} {fP : M (List S)} {pos : Pos} {oi oj ok : Bool}
theorem s_parT2 (i : Nat) (oi : Bool) (j : Nat) (oj : Bool) {x y : Str} {px py pt : Pos} {kt k2 pt2} (hN : X.N.Nodup) (ha : QP X c W [a, b] tA fP) (hij : i ≠ j := by decide) (hc : X.calm = true := by rfl) (hi : X.N[i]? = some x := by rfl) (hj : X.N[j]? = some y := by rfl)
    (hx : Loc X.env.scope x := by first | exact Or.inl rfl | exact Or.inr rfl) (hy : Loc X.env.scope y := by first | exact Or.inl rfl | exact Or.inr rfl)
    (fx : X.fn x = true ∨ X.env.scope.names.lookup x = some .local := by first | exact Or.inl rfl | exact Or.inr rfl) (fy : X.fn y = true ∨ X.env.scope.names.lookup y = some .local := by first | exact Or.inl rfl | exact Or.inr rfl)
    (hs : swapsWithSole [.Tuple [.Name x px, .Name y py] kt pt] (.Tuple [a, b] k2 pt2) pos.line X.env = pure false := by rfl) (hw : swappedStores [.Tuple [.Name x px, .Name y py] kt pt] (.Tuple [a, b] k2 pt2) X.env = pure none := by rfl)
    (h1 : (assignEach [.Tuple [.Name x px, .Name y py] kt pt] X.env).map (·.2) = [assign (.Tuple [.Name x px, .Name y py] kt pt) X.env] := by rfl) (hn : (assignEach [.Name x px, .Name y py] X.env).length = 2 := by rfl) (hst : (assignEach [.Name x px, .Name y py] X.env).findIdx? (·.1) = none := by rfl)
    (hg : (assignEach [.Name x px, .Name y py] X.env).map (·.2) = assign (.Name x px) X.env :: (assignEach [.Name y py] X.env).map (·.2) := by rfl) (hg2 : (assignEach [.Name y py] X.env).map (·.2) = assign (.Name y py) X.env :: (assignEach [] X.env).map (·.2) := by rfl) (hK : X.K = c.K := by rfl) :
    QS X c W (.Assign [.Tuple [.Name x px, .Name y py] kt pt] (.Tuple [a, b] k2 pt2) pos) (tAsg (tTup tA) (gTup c.K 2 (gCons (gName i) (gCons (gName j) gNil)))) (mPar2 i oi j oj fP) := by
  obtain ⟨h2, h3⟩ := ha
  exact ⟨ps_asg (pe_tup h2) (hK ▸ pg_tup hc (pgs_cons (pg_name hN hi hx fx) (pgs_cons (pg_name hN hj hy fy) pgs_nil hg2) hg) hn hst) hs hw h1, ds_parT2 hij h3⟩
end
end Fx
/-! isinstance of a written pair of types -/
namespace Fx
open PySem PySem.Spec PyProof.Rows L2
def isTy2 (n m : String) (x : D) : Option Bool := match isTy n x with
  | some true => some true
  | some false => isTy m x
  | none => none
def gIsi2 (n m : String) (x : D) : Option S := (isTy2 n m x).bind fun b => ok1 (.bl b)
def mIsi2 (n m : String) (fe : M S) : M S := mUn (gIsi2 n m) fe
def tIsi2 (K : PySem.W.Frag) (n m : String) (te : TE) : TE := tCB (rIsiT K) (tCons te (tCons (tTup (tCons (tC (.ty n)) (tCons (tC (.ty m)) tNil))) tNil))
theorem isTy2_kit {K : PySem.W.Frag} {n m : String} {x : D} {b : Bool} (h : isTy2 n m x = some b) : ∃ t, tyD x = some t ∧ PySem.W.kitAny K (.type t) [.type n, .type m] = some b := by
  unfold isTy2 at h
  split at h
  · rename_i e
    cases h
    obtain ⟨t, t1, t2⟩ := isTy_kit e
    refine ⟨t, t1, ?_⟩
    unfold PySem.W.kitAny
    rw [kit_ty t2]
  · rename_i e
    obtain ⟨t, t1, t2⟩ := isTy_kit e
    obtain ⟨t', t1', t2'⟩ := isTy_kit h
    rw [t1] at t1'
    cases t1'
    refine ⟨t, t1, ?_⟩
    unfold PySem.W.kitAny
    rw [kit_ty t2]
    dsimp only
    unfold PySem.W.kitAny
    rw [kit_ty t2']
    cases b <;> rfl
  · cases h
theorem den_isi2 {c : Cfg} {W : WX} {n m : String} {te : TE} {fe : M S} (h : Den c W te fe) : Den c W (tIsi2 c.K n m te) (mIsi2 n m fe) := fun B ts vs ρ σ H Q r q => by
  unfold mIsi2 mUn at q
  rw [post_then] at q
  refine h.dv r (q.imp1 fun x ρ1 q v H1 r1 => ?_)
  unfold gIsi2 at q
  cases e : isTy2 n m x with
  | none => rw [e] at q; exact q.elim
  | some b =>
    rw [e] at q
    have q : OkP c B ts vs σ Q (.d (.bl b)) ρ1 := q
    obtain ⟨t, t1, t2⟩ := isTy2_kit (K := c.K) e
    obtain ⟨G, O, hv⟩ := r1.one
    refine ⟨by show 2 ≤ sizeLine; decide, fun p hp => ?_⟩
    have r2 := (r1.drop).foreign (o := .tup [.ty n, .ty m]) hp
    have hs : ∀ a o, G a = some o → upd H1 p (.tup [.ty n, .ty m]) a = some o := fun a o ea => by
      rw [upd_ne (ne_of_none (O.sub _ _ ea) hp)]
      exact O.sub _ _ ea
    exact ⟨v, p, [.ty n, .ty m], .type t, [.type n, .type m], b, rfl, upd_same, .cons (.ty n) (.cons (.ty m) .nil), hv.tyX hs t1, t2, q _ _ (Rep.repl (ds := []) (us := []) r2 rfl fun G _ => .bl b)⟩
section
variable {X : Cx} {c : Cfg} {W : WX} {e : Expr} {te : TE} {fe : M S} {pos p p1 p2 p3 : Pos} {x1 : Nat}
theorem q_isi2 {A B : Str} (n m : String) (hA : X.mg A = none) (hB : X.mg B = none) (hm : X.mg "isinstance" = none) (he : QE X c W e te fe) (hg : Gl X "isinstance" := by rfl) (hgA : Gl X A := by rfl) (hgB : Gl X B := by rfl)
    (hvA : bootBuiltins A = some (.type n) := by decide +kernel) (hvB : bootBuiltins B = some (.type m) := by decide +kernel) (hnA : A ≠ "__name__" := by decide) (hnB : B ≠ "__name__" := by decide) (hdA : (A == ("__debug__" : Str)) = false := by decide) (hdB : (B == ("__debug__" : Str)) = false := by decide)
    (hs : starEach [e, .Tuple [.Name A p1, .Name B p2] x1 p3] X.env = (false, eval e X.env) :: starEach [.Tuple [.Name A p1, .Name B p2] x1 p3] X.env := by rfl)
    (hs2 : starEach [.Tuple [.Name A p1, .Name B p2] x1 p3] X.env = (false, eval (.Tuple [.Name A p1, .Name B p2] x1 p3) X.env) :: starEach [] X.env := by rfl)
    (hs3 : starEach [.Name A p1, .Name B p2] X.env = (false, eval (.Name A p1) X.env) :: starEach [.Name B p2] X.env := by rfl)
    (hs4 : starEach [.Name B p2] X.env = (false, eval (.Name B p2) X.env) :: starEach [] X.env := by rfl)
    (hpl : (backTo pos (starEach [.Tuple [.Name A p1, .Name B p2] x1 p3] X.env)).any (·.1) = false := by rfl) (hK : X.K = c.K := by rfl) :
    QE X c W (.Call (.Name "isinstance" p) [e, .Tuple [.Name A p1, .Name B p2] x1 p3] [] pos) (tIsi2 c.K n m te) (mIsi2 n m fe) := by
  obtain ⟨h1, h2⟩ := he
  exact ⟨pe_callB (hK ▸ call_isiT) hg hm (by decide +kernel) (pa_cons h1 (pa_cons (pe_tup (pa_cons (pe_bltn (v := .ty n) hgA hA hvA rfl hnA hdA) (pa_cons (pe_bltn (v := .ty m) hgB hB hvB rfl hnB hdB) pa_nil hs4) hs3)) pa_nil hs2) hs) (by decide) (by decide) hs hpl, den_isi2 h2⟩
end
end Fx
/-! set(a tuple of ints), its length -/
namespace Rw
open PySem PySem.Spec PyProof.Rows L2
section
variable {X : Cx}
/-- how many unlike ones -/
def Card (ns : List Int) (c : Nat) : Prop := ∃ l : List Int, l.Nodup ∧ (∀ k, k ∈ l ↔ k ∈ ns) ∧ l.length = c
def rSetT (K : PySem.W.Frag) (w : World) : List V → Hp → VK → Prop := fun xs H Q => ∃ (p : Addr) (ns : List Int), xs = [.ref p] ∧ SqT K H p (ns.map V.int) ∧ ns.length ≤ 1000 ∧
  ∀ q c, H q = none → c ≤ ns.length → Card ns c → Q (.ref q) (upd H q (SetO w q (fun j => decide (j ∈ ns)) c))
theorem cr_setT (hc : X.calm = true) : CallR X (.type "set") (rSetT X.K X.w) := by
  rintro pins s σ H xs us Q I r ⟨p, ns, rfl, hS, hn, q⟩
  obtain ⟨u, rfl, ru⟩ := vals1 r
  cases ru
  obtain ⟨its, rv, pt, hz⟩ := I.tuple hS
  have hi : IntsAre its.toArray.toList ns := ints_of_vals rv
  refine call_set_tupI ns (I.ok.hd hc) (show s.heap.IsTuple p its.toArray from pt) hi (by unfold scanBound; omega) fun h' tk c R hcn k => ?_
  have nw : H s.heap.objs.size = none := I.hok.fresh (Nat.le_refl _)
  have cd : Card ns c := by
    obtain ⟨o, es, ep, t, ho, hex, hdt, g, nd, hm, hb, hf, hsz, _⟩ := R
    refine ⟨es.toList.map keyOf, nd, fun j => ?_, ?_⟩
    · rw [← hm j, decide_eq_true_eq]
    · rw [List.length_map, Array.length_toList, hsz]
  exact ⟨.ref s.heap.objs.size, _, I.laid (t' := tk) k (Nat.le_refl _) (setO_new R), rfl, q _ c nw hcn cd⟩
theorem cr_lenSet : CallR X (.builtin "len") (fun xs H Q => ∃ (a : Addr) (S : Int → Bool) (n : Nat), xs = [.ref a] ∧ H a = some (SetO X.w a S n) ∧ n ≤ 1000 ∧ Q (.int n) H) := by
  rintro pins s σ H xs us Q I r ⟨a, S, n, rfl, ha, hn, q⟩
  obtain ⟨u, rfl, ru⟩ := vals1 r
  cases ru
  obtain ⟨o, es, ep, t, ho, hex, hdt, g, nd, hm, hb, hf, hsz, _⟩ := setO_get I ha
  subst hsz
  exact PySem.call_len_set ho hex hdt hf (by omega) ⟨.int es.size, H, I.tok _, ⟨_, rfl⟩, q⟩
end
end Rw
/-! sorted lists without repetition, the products' mirrors -/
namespace Rw
/-- u is what is in ls, ascending, once each -/
def Srt (u ls : List Int) : Prop := u.Pairwise (· < ·) ∧ ∀ k, k ∈ u ↔ k ∈ ls
theorem pw_nodup : ∀ {u : List Int}, u.Pairwise (· < ·) → u.Nodup
  | [], _ => List.nodup_nil
  | a :: u, h => by
    rw [List.pairwise_cons] at h
    rw [List.nodup_cons]
    exact ⟨fun m => Int.lt_irrefl _ (h.1 a m), pw_nodup h.2⟩
theorem srt_inj : ∀ {u v : List Int}, u.Pairwise (· < ·) → v.Pairwise (· < ·) → (∀ k, k ∈ u ↔ k ∈ v) → u = v
  | [], [], _, _, _ => rfl
  | [], b :: v, _, _, h => by have := (h b).mpr List.mem_cons_self; cases this
  | a :: u, [], _, _, h => by have := (h a).mp List.mem_cons_self; cases this
  | a :: u, b :: v, p, q, h => by
    rw [List.pairwise_cons] at p q
    have ab : a = b := by
      have h1 := (h a).mp List.mem_cons_self
      have h2 := (h b).mpr List.mem_cons_self
      rcases List.mem_cons.mp h1 with e | m1
      · exact e
      · rcases List.mem_cons.mp h2 with e | m2
        · exact e.symm
        · have := q.1 a m1
          have := p.1 b m2
          omega
    subst ab
    have : u = v := srt_inj p.2 q.2 fun k => by
      constructor
      · intro m
        rcases List.mem_cons.mp ((h k).mp (List.mem_cons_of_mem _ m)) with e | m'
        · have := p.1 k m
          omega
        · exact m'
      · intro m
        rcases List.mem_cons.mp ((h k).mpr (List.mem_cons_of_mem _ m)) with e | m'
        · have := q.1 k m
          omega
        · exact m'
    rw [this]
theorem Srt.inj {u v ls : List Int} (p : Srt u ls) (q : Srt v ls) : u = v := srt_inj p.1 q.1 fun k => (p.2 k).trans (q.2 k).symm
theorem len_sub : ∀ {l m : List Int}, l.Nodup → (∀ k ∈ l, k ∈ m) → l.length ≤ m.length
  | [], m, _, _ => Nat.zero_le _
  | a :: l, m, nd, h => by
    rw [List.nodup_cons] at nd
    have ha := h a List.mem_cons_self
    have := len_sub (l := l) (m := m.erase a) nd.2 fun k hk => by
      have ne : k ≠ a := fun e => nd.1 (e ▸ hk)
      exact (List.mem_erase_of_ne ne).mpr (h k (List.mem_cons_of_mem _ hk))
    have e := List.length_erase_of_mem ha
    have : 0 < m.length := List.length_pos_of_mem ha
    simp only [List.length_cons]
    omega
theorem Srt.card {u ls : List Int} {c : Nat} (p : Srt u ls) (q : Card ls c) : c = u.length := by
  obtain ⟨l, nd, m, rfl⟩ := q
  have h1 := len_sub nd fun k hk => (p.2 k).mpr ((m k).mp hk)
  have h2 := len_sub (pw_nodup p.1) fun k hk => (m k).mpr ((p.2 k).mp hk)
  omega
def ins (x : Int) : List Int → List Int
  | [] => [x]
  | y :: l => if x < y then x :: y :: l else if x = y then y :: l else y :: ins x l
theorem mem_ins {x k : Int} : ∀ {l : List Int}, k ∈ ins x l ↔ k = x ∨ k ∈ l
  | [] => by simp [ins]
  | y :: l => by
    unfold ins
    split
    · simp
    · split
      · rename_i e
        subst e
        simp
      · simp only [List.mem_cons, mem_ins]
        constructor
        · rintro (h | h | h) <;> simp [h]
        · rintro (h | h | h) <;> simp [h]
theorem pw_ins {x : Int} : ∀ {l : List Int}, l.Pairwise (· < ·) → (ins x l).Pairwise (· < ·)
  | [], _ => by simp [ins]
  | y :: l, h => by
    rw [List.pairwise_cons] at h
    unfold ins
    split
    · rename_i c
      rw [List.pairwise_cons, List.pairwise_cons]
      refine ⟨fun k hk => ?_, h⟩
      rcases List.mem_cons.mp hk with e | m
      · rw [e]; exact c
      · have := h.1 k m
        omega
    · split
      · rw [List.pairwise_cons]
        exact h
      · rw [List.pairwise_cons]
        refine ⟨fun k hk => ?_, pw_ins h.2⟩
        rcases mem_ins.mp hk with e | m
        · omega
        · exact h.1 k m
def uniq : List Int → List Int
  | [] => []
  | x :: l => ins x (uniq l)
theorem srt_uniq : ∀ ls, Srt (uniq ls) ls
  | [] => ⟨List.Pairwise.nil, fun _ => Iff.rfl⟩
  | x :: l => by
    obtain ⟨p, m⟩ := srt_uniq l
    refine ⟨pw_ins p, fun k => ?_⟩
    show k ∈ ins x (uniq l) ↔ _
    rw [mem_ins, m k, List.mem_cons]
theorem Srt.len {u ls : List Int} (p : Srt u ls) : u.length ≤ ls.length := len_sub (pw_nodup p.1) fun k hk => (p.2 k).mp hk
/-- the place of a level among the unlike ones -/
def plc (u : List Int) (x : Int) : Nat := u.idxOf x
end Rw
/-! sets of a tuple's ints: sorted, counted; places in a list; the least of a tuple -/
namespace PySem
end PySem
namespace Fx
open PySem PySem.Spec PyProof.Rows L2
/-! ### on data -/
def gSetL (x : D) : Option S := match x with
  | .tup ds => match intsD ds with
    | some ns => if ns.length ≤ 1000 then ok1 (.int (Rw.uniq ns).length) else none
    | none => none
  | _ => none
def tSet (K : PySem.W.Frag) (w : World) (te : TE) : TE := tCB (Rw.rSetT K w) (tCons te tNil)
theorem den_setL {c : Cfg} {W : WX} {w : World} {te : TE} {fe : M S} (h : Den c W te fe) : Den c W (tCB (fun xs H Q => ∃ (a : Addr) (S : Int → Bool) (n : Nat), xs = [.ref a] ∧ H a = some (SetO w a S n) ∧ n ≤ 1000 ∧ Q (.int n) H) (tCons (tSet c.K w te) tNil)) (mUn gSetL fe) := fun B ts vs ρ σ H Q r q => by
  unfold mUn at q
  rw [post_then] at q
  refine h.dv r (q.imp1 fun x ρ1 q v H1 r1 => ?_)
  unfold gSetL at q
  split at q
  · rename_i s es
    split at es
    · rename_i ds
      split at es
      · rename_i ns en
        split at es
        · rename_i hn
          cases es
          obtain ⟨G, O, hv⟩ := r1.one
          obtain ⟨a, us, rfl, ha, ka⟩ := hv.tupE
          rw [RpAll.ints en ka] at ha
          refine ⟨a, ns, rfl, SqT.up O.sub ha, by omega, fun p n hp hl hc => ?_⟩
          obtain ⟨G2, O2, _⟩ := (r1.foreign (o := SetO w p (fun j => decide (j ∈ ns)) n) hp).one
          have e : n = (Rw.uniq ns).length := (Rw.srt_uniq ns).card hc
          refine ⟨p, _, n, rfl, upd_same, by omega, ?_⟩
          subst e
          exact q _ _ (O2.val (.int _))
        · cases es
      · cases es
    · cases es
  · exact q.elim
section
variable {X : Cx} {c : Cfg} {W : WX} {e f : Expr} {te tf : TE} {fe ff : M S} {pos p p2 p3 apos cpos : Pos}
theorem q_setL (hm1 : X.mg "len" = none) (hm2 : X.mg "set" = none) (he : QE X c W e te fe) (hc : X.calm = true := by rfl) (hg1 : Gl X "len" := by rfl) (hg2 : Gl X "set" := by rfl)
    (hs : starEach [.Call (.Name "set" p2) [e] [] p3] X.env = (false, eval (.Call (.Name "set" p2) [e] [] p3) X.env) :: starEach [] X.env := by rfl) (hpl : (backTo pos (starEach [] X.env)).any (·.1) = false := by rfl)
    (hs2 : starEach [e] X.env = (false, eval e X.env) :: starEach [] X.env := by rfl) (hpl2 : (backTo p3 (starEach [] X.env)).any (·.1) = false := by rfl) (hK : X.K = c.K := by rfl) :
    QE X c W (.Call (.Name "len" p) [.Call (.Name "set" p2) [e] [] p3] [] pos) (tCB (fun xs H Q => ∃ (a : Addr) (S : Int → Bool) (n : Nat), xs = [.ref a] ∧ H a = some (SetO X.w a S n) ∧ n ≤ 1000 ∧ Q (.int n) H) (tCons (tSet c.K X.w te) tNil)) (mUn gSetL fe) := by
  obtain ⟨h1, h2⟩ := he
  refine ⟨pe_callB Rw.cr_lenSet hg1 hm1 PySem.boot_len (pa_cons (pe_callTy (hK ▸ Rw.cr_setT hc) hg2 hm2 (by decide +kernel) (pa_cons h1 pa_nil hs2) (by decide) (by decide) hs2 hpl2) pa_nil hs) (by decide) (by decide) hs hpl, den_setL h2⟩
end
end Fx
/-! what the printed texts name -/
namespace Fx
open PySem PySem.Spec PyProof.Rows L2
def noE : Expr := .Name "" ⟨0, 0, 0, 0⟩
def lamQ (q : Str) : Expr → LamS
  | .Lambda params body scope _ => ⟨q, params, body, scope⟩
  | e => ⟨q, default, e, default⟩
theorem QSs.out {X : Cx} {c : Cfg} {W : WX} {ss : List Stmt} {t : TS} {F : M Fl} (h : QSs X c W ss t F) : ∃ t, PSs X ss t ∧ DenS c W t F := ⟨t, h.pe, h.dn⟩
theorem QE.out {X : Cx} {c : Cfg} {W : WX} {e : Expr} {t : TE} {f : M S} (h : QE X c W e t f) : ∃ t, PE X e t ∧ Den c W t f := ⟨t, h.pe, h.dn⟩
end Fx
/-! the law's call -/
namespace Fx
open PySem PySem.Spec PyProof.Rows L2
open C8 (Cal Mak pe_c pe_mk)
open LamX (Tabs TabS TabB ExtN CodeO codeO_ne)
def spLawX (c : Cfg) : Sp := fun vs H Q _ => ∃ (a : Addr) (ns : List Int), vs = [.ref a] ∧ ns.length ≤ 63 ∧ SqL c.K H a (ns.map V.int) ∧ Tabs c.T H ∧ ∀ H', Q (.bl true) H'
def noTbl (H : Hp) : Hp := fun a => match H a with
  | some o => if isTbl o then none else some o
  | none => none
theorem noTbl_sub {H : Hp} : ∀ a o, noTbl H a = some o → H a = some o ∧ isTbl o = false := fun a o e => by
  unfold noTbl at e
  split at e
  · rename_i u h
    split at e
    · cases e
    · rename_i hb
      cases e
      exact ⟨h, by simpa using hb⟩
  · cases e
theorem noTbl_at {H : Hp} {a : Addr} {o : HO} (h : H a = some o) (n : isTbl o = false) : noTbl H a = some o := by
  unfold noTbl
  rw [h]
  simp [n]
theorem law_ok {P : Program} {w : World} {c : Cfg} {mg : Str → Option Value} {base : Heap} {CX : CXT} {k : Nat} {f : Addr} {fd : FuncData} {F : Fn} (pure : ∀ ns : List Int, ns.length ≤ 63 → ∃ ρ, F [.d (.scr ns)] = .ok (.d (.bl true)) ρ)
    (o : FnOk P w c.K mg base CX k f fd ["script"] (spF c F)) : FnOk P w c.K mg base CX k f fd ["script"] (spLawX c) := by
  refine o.imp fun vs H Q E h => ?_
  obtain ⟨a, ns, rfl, hl, hs, hT, q⟩ := h
  obtain ⟨ρ, e⟩ := pure ns hl
  refine ⟨⟨fun _ => none⟩, [], [], [.d (.scr ns)], ⟨noTbl H, [], [], ⟨fun a o e => (noTbl_sub a o e).1, fun a o e => (noTbl_sub a o e).2, List.nodup_nil, fun p hp => by simp at hp, hT⟩, .nil, .d (.scr ?_) .nil⟩, ?_⟩
  · rcases hs with (h | ⟨o, h⟩) | h
    · exact .inl (.inl (noTbl_at h rfl))
    · exact .inl (.inr ⟨o, noTbl_at h rfl⟩)
    · exact .inr h
  · rw [e]
    intro v σ' H' r
    obtain ⟨G, O, hv⟩ := r.one
    cases hv
    exact q H'
theorem cal_mk {P : Program} {w : World} {K : PySem.W.Frag} {mg : Str → Option Value} {base : Heap} {f : Addr} {fd : FuncData} {x : Str} {st : Stmt} {ps : List Str} {k : Nat} {sp : Sp} (F : Fun K x x st f fd) (hm : mg x = some (.ref f)) (b : Binds K fd ps []) (o : FnOk P w K mg base CX0 k f fd ps sp) : Cal P w K mg base k x sp [] := ⟨f, fd, ps, [], o, hm, F.kp, b, .nil⟩
theorem cal_mkC {P : Program} {w : World} {K : PySem.W.Frag} {mg : Str → Option Value} {base : Heap} {f c : Addr} {fd : FuncData} {x : Str} {st : Stmt} {ps : List Str} {k : Nat} {sp : Sp} (F : FunC K x x st f fd c) (hm : mg x = some (.ref f)) (b : Binds K fd ps []) (o : FnOk P w K mg base CX0 k f fd ps sp) : Cal P w K mg base k x sp [] := ⟨f, fd, ps, [], o, hm, F.kp, b, .nil⟩
theorem FunC.toFun {K : PySem.W.Frag} {x qual : Str} {st : Stmt} {f c : Addr} {fd : FuncData} (F : FunC K x qual st f fd c) : Fun K x qual st f fd := by
  obtain ⟨⟨oc, od, kV, doc, pm, an, ct, osl, e, lk, hcd⟩, kp⟩ := F
  exact ⟨⟨oc, od, kV, doc, pm, an, .ref c, ct, osl, e, lk, hcd⟩, kp⟩
end Fx
/-! range objects as values -/
namespace Fx
open PySem PySem.Spec PyProof.Rows L2
section
variable {X : Cx} {c : Cfg} {tg : Expr}
def rRngV : List V → Hp → VK → Prop := fun vs H Q => (∃ j, vs = [V.int j] ∧ ∀ p, H p = none → Q (.ref p) (upd H p (.rng 0 j))) ∨ ∃ i j, vs = [V.int i, V.int j] ∧ ∀ p, H p = none → Q (.ref p) (upd H p (.rng i j))
theorem cr_rangeV : CallR X (.type "range") rRngV := by
  intro pins s σ H vs us Q I r h
  rcases h with ⟨j, rfl, q⟩ | h
  · obtain ⟨u1, rfl, rj⟩ := vals1 r
    obtain ⟨t, rfl⟩ := rj
    refine call_range_1 ⟨.ref s.heap.objs.size, upd H s.heap.objs.size (.rng 0 j), I.laid (t' := _) (fun b o e => Heap.get?_push_of_some _ e) (Nat.le_refl _) ?_, rfl, q _ (I.hok.fresh (Nat.le_refl _))⟩
    exact ⟨_, _, _, Heap.get?_push_size _ rfl⟩
  · exact cr_range2 pins s σ H vs us Q I r h
/-- walked -/
def iRngV (te : TE) : TI := fun σ H R => te σ H fun x H1 => ∃ r lo hi, x = .ref r ∧ H1 r = some (.rng lo hi) ∧ (-(2 ^ 62) ≤ lo ∧ lo < 2 ^ 62 ∧ -(2 ^ 62) ≤ hi ∧ hi < 2 ^ 62) ∧ R (Itr lo (hi - lo).toNat) H1
theorem pi_rngV {e : Expr} {te : TE} (he : PE X e te) : PI X tg e (iRngV te) := by
  refine ⟨fun pins s σ H R I h => ?_⟩
  refine thn (he.run pins s σ H _ I h) fun v s1 ⟨x, H1, I1, rx, r, lo, hi, ex, hr, ⟨h1, h2, h3, h4⟩, q⟩ => ?_
  subst ex
  cases rx
  obtain ⟨t, u, w, ho⟩ := I1.hok r _ hr
  refine wpAny_pyIter_range ho (small_one h1 h2 h3 h4) ?_
  refine ⟨s1.heap.objs.size, [s1.heap.objs.size], _, _, H1, rfl, I1.kept (t' := s1.toks) fun b o e => Heap.get?_push_of_some _ e, turn_range _ lo (hi - lo).toNat, ?_, fun b hb => ?_, q⟩
  · have e1 : lo + ((0 : Nat) : Int) * 1 = lo := by simp
    have e2 : (((hi - lo).toNat : Nat) : Int) - ((0 : Nat) : Int) = Builtin.Range.rangeSize lo hi 1 := by rw [rangeSize_one]; split <;> omega
    show IsRangeIter _ _ (lo + ((0 : Nat) : Int) * 1) ((((hi - lo).toNat : Nat) : Int) - ((0 : Nat) : Int)) 1
    rw [e1, e2]
    exact Heap.get?_push_size _ rfl
  · have e : b = s1.heap.objs.size := List.mem_singleton.mp hb
    subst e
    exact I1.fpOk (Nat.le_refl _) (I1.hok.fresh (Nat.le_refl _))
def gRngV : List D → Option S
  | [.int j] => ok1 (.rng 0 j)
  | [.int i, .int j] => ok1 (.rng i j)
  | _ => none
theorem cd_rngV : CbDen c rRngV gRngV := by
  intro B ts vs ρ σ H Q ds us s hl r e q
  match ds, hl, r, e with
  | [.int j], hl, r, e =>
    cases e
    obtain ⟨v, rfl, G, O, h⟩ := r.one' hl
    cases h
    exact .inl ⟨j, rfl, fun p hp => q _ _ (O.new hp rfl fun G' m e => .rng e)⟩
  | [.int i, .int j], hl, r, e =>
    cases e
    obtain ⟨v, w, rfl, G, O, hv, hw⟩ := r.two' hl
    cases hv
    cases hw
    exact .inr ⟨i, j, rfl, fun p hp => q _ _ (O.new hp rfl fun G' m e => .rng e)⟩
theorem b_rngV : QB X c "range" rRngV gRngV := ⟨.inr ⟨_, cr_rangeV, by decide +kernel⟩, cd_rngV⟩
def iRngD (fe : M S) : M (List D) := fun ρ => (dv fe ρ).then fun x ρ1 => match x with
  | .rng lo hi => if rOk lo && rOk hi then .ok (intsFrom lo (hi - lo).toNat) ρ1 else .stuck
  | _ => .stuck
theorem di_rngV {W : WX} {te : TE} {fe : M S} (h : Den c W te fe) : DenI c W (iRngV te) (iRngD fe) := fun B ts vs ρ σ H R r q => by
  unfold iRngD at q
  rw [post_then] at q
  refine h.dv r (q.imp1 fun x ρ1 p v H1 r1 => ?_)
  split at p
  · rename_i lo hi
    split at p
    · rename_i hj
      rw [Bool.and_eq_true, rOk_iff, rOk_iff] at hj
      obtain ⟨G, O, hv⟩ := r1.one
      cases hv with
      | @rng a _ _ ha => exact ⟨a, lo, hi, rfl, O.sub _ _ ha, ⟨hj.1.1, hj.1.2, hj.2.1, hj.2.2⟩, p _ [] [] H1 rfl (Rep.dropN (ds := [.rng lo hi]) (us := [.ref a]) rfl r1) walk_ints⟩
    · exact p.elim
  · exact p.elim
theorem i_rngV {W : WX} {e : Expr} {te : TE} {fe : M S} (h : QE X c W e te fe) : QI X c W tg e (iRngV te) (iRngD fe) := ⟨pi_rngV h.1, di_rngV h.2⟩
end
end Fx
/-! defs that raise, try .. except X -/
/-! tuple(range(n)), list(range(n)), a starred element, reversed(xs) -/
namespace Fx
open PySem PySem.Spec PyProof.Rows L2
open C8 (Cal Mak pe_c pe_mk)
open StX (tStar pa_star)
section
variable {c : Cfg} {B : Base} {W : WX} {ts : En} {vs : List (Option V)} {ρ : En} {σ : L2.St} {H : Hp} {ta te : TE} {fa fe : M S} {tA : TA} {fA fr : M (List D)}
/-! ### tuple(range(n)) -/
def rgOk (n : Int) : Bool := decide (-1000000 ≤ n) && decide (n ≤ 16777216)
theorem rgOk_of {n : Int} (h : rgOk n = true) : RgOk 0 n := by
  unfold rgOk at h
  rw [Bool.and_eq_true, decide_eq_true_eq, decide_eq_true_eq] at h
  refine ⟨by omega, by omega, by omega, by omega, by omega⟩
theorem rpAll_rg {G : Hp} {n : Int} : RpAll c G (rgV 0 n) (intsFrom 0 n.toNat) := by
  have key : ∀ (k : Nat) (lo : Int), RpAll c G ((List.range k).map fun i => V.int (lo + (i : Nat))) (intsFrom lo k) := by
    intro k
    induction k with
    | zero => exact fun lo => .nil
    | succ k ih =>
      intro lo
      rw [List.range_succ_eq_map, List.map_cons, List.map_map]
      show RpAll c G (_ :: _) (.int lo :: intsFrom (lo + 1) k)
      have e0 : lo + ((0 : Nat) : Int) = lo := by simp
      rw [e0]
      refine .cons (.int _) ?_
      have e : ((fun i : Nat => V.int (lo + (i : Nat))) ∘ Nat.succ) = fun i : Nat => V.int (lo + 1 + (i : Nat)) := by
        funext i
        show V.int _ = V.int _
        congr 1
        rw [Nat.succ_eq_add_one]
        omega
      rw [e]
      exact ih (lo + 1)
  have := key n.toNat 0
  unfold rgV
  rw [Int.sub_zero]
  exact this
def mLstRg (fa : M S) : M S := fun ρ => (dv fa ρ).then fun x ρ1 => match x with
  | .int n => if rgOk n then .ok (.o none (.lst (intsFrom 0 n.toNat))) ρ1 else .stuck
  | _ => .stuck
theorem den_lstRg (h : Den c W ta fa) : Den c W (tLstRg (tRg1 ta)) (mLstRg fa) := fun B ts vs ρ σ H Q r q => by
  unfold mLstRg at q
  rw [post_then] at q
  refine h.dv r (q.imp1 fun x ρ1 q v H1 r1 => ?_)
  cases x <;> first | exact q.elim | skip
  rename_i n
  obtain ⟨G, O, hv⟩ := r1.one
  cases hv
  have q : Post (OkP c B ts vs σ Q) (ErrP c W B ts vs σ) (if rgOk n then .ok (.o none (.lst (intsFrom 0 n.toNat))) ρ1 else .stuck) := q
  split at q
  · rename_i hn
    exact ⟨n, rfl, rgOk_of hn, fun p hp => q _ _ (Rep.newO (ds := []) (us := []) r1.drop rfl hp fun G' H' e _ => ⟨_, e, rpAll_rg⟩)⟩
  · exact q.elim
/-! ### (.., *xs, ..) -/
def aStar (fe : M S) (fr : M (List D)) : M (List D) := fun ρ => (dv fe ρ).then fun x ρ1 => match itemsD x with
  | some ds => (fr ρ1).then fun es ρ2 => .ok (ds ++ es) ρ2
  | none => .stuck
theorem Rep.spread {x : D} {v : V} {ds : List D} (e : itemsD x = some ds) (r : Rep c B (some (.d x) :: ts) (some v :: vs) ρ σ H) : ∃ a us, v = .ref a ∧ SqI c.K (isLst x) H a us ∧ us.length = ds.length ∧ Rep c B (tmp ds ++ ts) (tmv us ++ vs) ρ σ H := by
  obtain ⟨G, O, hv⟩ := r.top
  obtain ⟨a, us, rfl, h1, k⟩ := hv.seq O.sub e
  obtain ⟨G', o1, o2, kk, g1, g2⟩ := r
  cases g1 with
  | d g0 g1 =>
    obtain ⟨a', us', e1, h1', k'⟩ := g0.seq kk.sub e
    cases e1
    refine ⟨a, us', rfl, h1', k'.length, G', o1, o2, kk, ?_, g2⟩
    have := (k'.rev).sl (B := B) (H := H) g1
    unfold tmp tmv
    exact this
theorem den_star (he : Den c W te fe) (hr : DenA c W tA fr) : DenA c W (tStar c.K te tA) (aStar fe fr) := fun B ts vs ρ σ H Q r q => by
  unfold aStar at q
  rw [post_then] at q
  refine he.dv r (q.imp1 fun x ρ1 q v H1 r1 => ?_)
  have q : Post (OkA c B ts vs σ Q) (ErrP c W B ts vs σ) (match itemsD x with
    | some ds => (fr ρ1).then fun es ρ2 => .ok (ds ++ es) ρ2
    | none => .stuck) := q
  cases e : itemsD x with
  | none => rw [e] at q; exact q.elim
  | some ds =>
    rw [e] at q
    have q : Post (OkA c B ts vs σ Q) (ErrP c W B ts vs σ) ((fr ρ1).then fun es ρ2 => .ok (ds ++ es) ρ2) := q
    rw [post_then] at q
    obtain ⟨a, us, rfl, h1, hl, r2⟩ := Rep.spread e r1
    refine ⟨a, us, rfl, ?_, ?_⟩
    · cases hx : isLst x with
      | true => rw [hx] at h1; exact .inr h1
      | false => rw [hx] at h1; exact .inl h1
    · refine hr B _ _ ρ1 σ H1 _ r2 (q.imp (fun es ρ2 q ws H2 hl2 r3 => ?_) fun e' ρ' q k d H' he' r' => q k d H' he' (r'.dropN hl))
      refine q (us ++ ws) H2 (by rw [List.length_append, List.length_append, hl, hl2]) ?_
      unfold tmp tmv at r3 ⊢
      rw [List.reverse_append, List.map_append, List.reverse_append, List.map_append, List.append_assoc, List.append_assoc]
      exact r3
/-! ### reversed(xs) -/
def iRevS (fA : M (List D)) : M (List D) := fun ρ => (fA ρ).then fun ds ρ1 => match ds with
  | [.lst ds] => .ok ds.reverse ρ1
  | _ => .stuck
theorem di_rev (h : DenA c W tA fA) : DenI c W (iRev c.K tA) (iRevS fA) := fun B ts vs ρ σ H R r q => by
  unfold iRevS at q
  rw [post_then] at q
  refine h B ts vs ρ σ H _ r (q.imp1 fun xs ρ1 q us H1 hl r1 => ?_)
  split at q
  · rename_i ds
    have q : OkI c B ts vs σ R ds.reverse ρ1 := q
    match us, hl, r1 with
    | [v], hl, r1 =>
      have r1 : Rep c B (some (.d (.lst ds)) :: ts) (some v :: vs) ρ1 σ H1 := r1
      obtain ⟨G, O, hv⟩ := r1.top
      obtain ⟨a, us, rfl, h1, k⟩ := hv.seq O.sub rfl
      refine ⟨a, us, rfl, h1, ?_⟩
      rw [k.length]
      refine q _ [.lst ds] [.ref a] H1 rfl r1 ⟨ds.length, SrcAt c true ds.length a, fun i H y H' => H' = H ∧ TurnAt c true a (ds.length - 1 - i) H y, ⟨?_, ?_, ?_⟩, by rw [List.length_reverse], fun B ts vs ρ σ H r => src_of (x := .lst ds) rfl r, ?_⟩
      · rintro i H hi ⟨us, h1, h2⟩
        exact ⟨hi, us, us[ds.length - 1 - i]'(by omega), h1, List.getElem?_eq_getElem (by omega)⟩
      · intro H _
        exact Nat.le_refl _
      · rintro i H y H' _ _ ⟨e, h⟩
        exact ⟨e, fun us h1 => h us h1⟩
      · rintro B ts vs ρ σ H k y H' hk r ⟨rfl, t⟩
        obtain ⟨d, e1, r2⟩ := turn_val (x := .lst ds) (ds := ds) rfl (k := ds.length - 1 - k) (by omega) r t
        exact ⟨d, by rw [List.getElem?_reverse hk]; exact e1, r2⟩
  · exact q.elim
end
section
variable {X : Cx} {c : Cfg} {W : WX} {a e tg : Expr} {es : List Expr} {ta te : TE} {tA : TA} {fa fe : M S} {fA fr : M (List D)} {pos p p2 pos2 : Pos}
theorem q_lstRg (hm : X.mg "list" = none) (hm2 : X.mg "range" = none) (h : QE X c W a ta fa) (hc : X.calm = true := by rfl) (hg : Gl X "list" := by rfl) (hg2 : Gl X "range" := by rfl) (na : starEach [a] X.env = (false, eval a X.env) :: starEach [] X.env := by rfl)
    (na2 : starEach [.Call (.Name "range" p2) [a] [] pos2] X.env = (false, eval (.Call (.Name "range" p2) [a] [] pos2) X.env) :: starEach [] X.env := by rfl) : QE X c W (.Call (.Name "list" p) [.Call (.Name "range" p2) [a] [] pos2] [] pos) (tLstRg (tRg1 ta)) (mLstRg fa) := by
  obtain ⟨h1, h2⟩ := h
  exact ⟨pe_listRg hc hg hm (prg_1 hg2 hm2 h1 na) na2, den_lstRg h2⟩
theorem a_star (h : QE X c W e te fe) (k : QA X c W es tA fr) (hK : X.K = c.K := by rfl) (hs : starEach (.Starred e p :: es) X.env = (true, eval e X.env) :: starEach es X.env := by rfl) : QA X c W (.Starred e p :: es) (tStar c.K te tA) (aStar fe fr) := by
  obtain ⟨h1, h2⟩ := h; obtain ⟨k1, k2⟩ := k
  exact ⟨hK ▸ pa_star h1 k1 hs, den_star h2 k2⟩
theorem i_rev (hm : X.mg "reversed" = none) (h : QA X c W [a] tA fA) (hg : Gl X "reversed" := by rfl) (hK : X.K = c.K := by rfl) (hs : starEach [a] X.env = [(false, eval a X.env)] := by rfl) : QI X c W tg (.Call (.Name "reversed" p) [a] [] pos) (iRev c.K tA) (iRevS fA) := by
  obtain ⟨h1, h2⟩ := h
  exact ⟨hK ▸ pi_reversed hg hm h1 hs, di_rev h2⟩
end
end Fx
/-! dicts whose objects are known: keys ints and texts, or tuples: read, written -/
namespace Fx
open PySem PySem.Spec PyProof.Rows L2
open C8 (Cal Mak pe_c pe_mk)
/-! ### keys -/
def isKey : D → Bool
  | .int _ => true
  | .str _ => true
  | _ => false
def isKeyT : D → Bool
  | .tup ds => match nkDs ds with
    | some ks => decide (NestedKey.depthAll ks + 1 ≤ 8)
    | none => false
  | _ => false
def keyEq : D → D → Bool
  | .int i, .int j => decide (i = j)
  | .str x, .str y => decide (x = y)
  | .tup xs, .tup ys => match nkDs xs, nkDs ys with
    | some a, some b => NestedKey.beqAll a b
    | _, _ => false
  | _, _ => false
theorem keyEq_keyD {k k' : Key} : keyEq (keyD k) (keyD k') = decide (k = k') := by
  cases k <;> cases k' <;> simp [keyEq, keyD]
/-- the place of a key -/
def keyAt (ks : List D) (k : D) : Option Nat := ks.findIdx? (keyEq k)
def hasKey (ks : List D) (k : D) : Bool := ks.any (keyEq k)
/-- a key that the dict can be asked for -/
def homog (ks : List D) (k : D) : Bool := (isKey k && ks.all isKey) || (isKeyT k && ks.all isKeyT)
def putKs {α : Type} (ks : List D) (k : D) (l : List α) (x : α) : List α := if hasKey ks k then l else l ++ [x]
def putVs {α : Type} (ks : List D) (k : D) (l : List α) (x : α) : List α := if hasKey ks k then List.zipWith (fun k' d => if keyEq k k' then x else d) ks l else l ++ [x]
theorem find_at {β : Type} (q : β → Bool) : ∀ l : List β, l.find? q = (l.findIdx? q).bind fun i => l[i]?
  | [] => rfl
  | x :: l => by
    rw [List.find?_cons, List.findIdx?_cons]
    cases e : q x with
    | true => simp
    | false =>
      simp only [Bool.false_eq_true, if_false]
      rw [find_at q l]
      cases l.findIdx? q <;> simp
theorem idx_map {α β : Type} {p : α → Bool} {q : β → Bool} {l1 : List α} {l2 : List β} (h : l1.map p = l2.map q) : l1.findIdx? p = l2.findIdx? q := by
  have e1 := List.findIdx?_map (f := p) (l := l1) (p := id)
  have e2 := List.findIdx?_map (f := q) (l := l2) (p := id)
  rw [h] at e1
  exact e1.symm.trans e2
theorem any_map2 {α β : Type} {p : α → Bool} {q : β → Bool} {l1 : List α} {l2 : List β} (h : l1.map p = l2.map q) : l1.any p = l2.any q := by
  have e1 : (l1.map p).any id = l1.any p := by rw [List.any_map]; rfl
  have e2 : (l2.map q).any id = l2.any q := by rw [List.any_map]; rfl
  rw [← e1, ← e2, h]
theorem any_idx {α : Type} {p : α → Bool} : ∀ {l : List α}, l.any p = (l.findIdx? p).isSome
  | [] => rfl
  | x :: l => by
    rw [List.any_cons, List.findIdx?_cons]
    cases e : p x with
    | true => rfl
    | false =>
      rw [any_idx (l := l)]
      simp only [Bool.false_or, Bool.false_eq_true, if_false, Option.isSome_map]
theorem key_of {c : Cfg} {G : Hp} {v : V} {x : D} (h : Rp c G v x) (e : isKey x = true) : ∃ k : Key, x = keyD k ∧ v = kV k := by
  cases x <;> first | cases e | skip
  · cases h
    exact ⟨.inl _, rfl, rfl⟩
  · cases h
    exact ⟨.inr _, rfl, rfl⟩
theorem keyT_of {x : D} (e : isKeyT x = true) : ∃ ds ks, x = .tup ds ∧ nkDs ds = some ks ∧ nkD x = some (.tup ks) ∧ (NestedKey.tup ks).depth ≤ 8 := by
  cases x <;> first | cases e | skip
  rename_i ds
  have e : (match nkDs ds with
    | some ks => decide (NestedKey.depthAll ks + 1 ≤ 8)
    | none => false) = true := e
  cases h : nkDs ds with
  | none => rw [h] at e; cases e
  | some ks =>
    rw [h] at e
    exact ⟨ds, ks, rfl, h, by rw [nkD, h], of_decide_eq_true e⟩
theorem keyEqT {ds : List D} {ks : List NestedKey} {k' : D} {n' : NestedKey} (h : nkDs ds = some ks) (h' : nkD k' = some n') : keyEq (.tup ds) k' = decide (n' = .tup ks) := by
  rw [NestedKey.decide_eq]
  cases k' with
  | tup es =>
    rw [nkD] at h'
    cases e : nkDs es with
    | none => rw [e] at h'; cases h'
    | some ls =>
      rw [e] at h'
      cases h'
      show (match nkDs ds, nkDs es with
        | some a, some b => NestedKey.beqAll a b
        | _, _ => false) = NestedKey.beqAll ls ks
      rw [h, e]
      show NestedKey.beqAll ks ls = NestedKey.beqAll ls ks
      have a := NestedKey.decide_eq (.tup ks) (.tup ls)
      have b := NestedKey.decide_eq (.tup ls) (.tup ks)
      show NestedKey.beq (.tup ks) (.tup ls) = NestedKey.beq (.tup ls) (.tup ks)
      rw [← a, ← b]
      by_cases q : NestedKey.tup ks = .tup ls
      · rw [decide_eq_true q, decide_eq_true q.symm]
      · rw [decide_eq_false q, decide_eq_false fun z => q z.symm]
  | non => rw [nkD] at h'; cases h'; rfl
  | int i => rw [nkD] at h'; cases h'; rfl
  | str i => rw [nkD] at h'; cases h'; rfl
  | bl _ => rw [nkD] at h'; cases h'
  | ty _ => rw [nkD] at h'; cases h'
  | lst _ => rw [nkD] at h'; cases h'
  | ins _ _ => rw [nkD] at h'; cases h'
  | dct _ _ => rw [nkD] at h'; cases h'
  | dcq _ _ => rw [nkD] at h'; cases h'
  | xo _ _ => rw [nkD] at h'; cases h'
  | exc => rw [nkD] at h'; cases h'
  | rng _ _ => rw [nkD] at h'; cases h'
  | scr _ => rw [nkD] at h'; cases h'
  | fn _ => rw [nkD] at h'; cases h'
section
variable {X : Cx} {pins : List (Addr × Obj)} {σ : L2.St} {H : Hp} {s : Shared} {c : Cfg} {G : Hp}
mutual
theorem rp_nested (I : Inv X pins σ H s) (hK : X.K = c.K) (sub : ∀ a o, G a = some o → H a = some o) : ∀ {v : V} {d : D} {k : NestedKey} {u : Value}, Rp c G v d → nkD d = some k → RelV v u → NestedIs s.heap k u
  | _, _, k, u, .non, e, r => by rw [nkD] at e; cases e; cases r; exact .none
  | _, _, k, u, .bl b, e, r => by rw [nkD] at e; cases e
  | _, _, k, u, .int i, e, r => by
    rw [nkD] at e
    cases e
    obtain ⟨t, rfl⟩ := r
    exact .int _ _
  | _, _, k, u, .str x, e, r => by
    rw [nkD] at e
    cases e
    obtain ⟨t, rfl⟩ := r
    exact .text _ _
  | _, _, k, u, .ty n, e, r => by rw [nkD] at e; cases e
  | _, _, k, u, .tup (ds := ds) h ka n, e, r => by
    rw [nkD] at e
    cases er : nkDs ds with
    | none => rw [er] at e; cases e
    | some ks =>
      rw [er] at e
      cases e
      cases r
      obtain ⟨its, rv, ⟨o, ho, hc, m, hd⟩, _⟩ := I.tuple (hK ▸ SqT.up sub h)
      exact .tup ho hc hd (by simpa using rps_nested I hK sub ka er rv)
  | _, _, k, u, .lst h ka, e, r => by rw [nkD] at e; cases e
  | _, _, k, u, .scr h, e, r => by rw [nkD] at e; cases e
  | _, _, k, u, .ins h n ka, e, r => by rw [nkD] at e; cases e
  | _, _, k, u, .dct h ka, e, r => by rw [nkD] at e; cases e
  | _, _, k, u, .dcx h o k1 k2, e, r => by rw [nkD] at e; cases e
  | _, _, k, u, .xo h, e, r => by rw [nkD] at e; cases e
  | _, _, k, u, .exc h h2, e, r => by rw [nkD] at e; cases e
  | _, _, k, u, .rng h, e, r => by rw [nkD] at e; cases e
  | _, _, k, u, .fn h ka, e, r => by rw [nkD] at e; cases e
termination_by structural _ _ _ _ h => h
theorem rps_nested (I : Inv X pins σ H s) (hK : X.K = c.K) (sub : ∀ a o, G a = some o → H a = some o) : ∀ {vs : List V} {ds : List D} {ks : List NestedKey} {us : List Value}, RpAll c G vs ds → nkDs ds = some ks → Vals vs us → NestedAll s.heap ks us
  | _, _, ks, us, .nil, e, r => by rw [nkDs] at e; cases e; cases r; exact .nil
  | _, _, ks, us, .cons (d := d) (ds := ds) h ka, e, r => by
    rw [nkDs] at e
    cases e1 : nkD d with
    | none => rw [e1] at e; cases e
    | some k =>
      cases e2 : nkDs ds with
      | none => rw [e1, e2] at e; cases e
      | some ks' =>
        rw [e1, e2] at e
        cases e
        cases r with
        | cons r1 r2 => exact .cons (rp_nested I hK sub h e1 r1) (rps_nested I hK sub ka e2 r2)
termination_by structural _ _ _ _ h => h
end
/-! ### what the object tells -/
theorem DcO.sys {w : World} {a : Addr} {o : Obj} {ks : List D} {kv us : List V} (d : DcO w a o ks kv us) : (a == sysModules) = false := by cases d <;> assumption
theorem DcO.exact {w : World} {a : Addr} {o : Obj} {ks : List D} {kv us : List V} (d : DcO w a o ks kv us) : o.ExactDict := by cases d <;> assumption
theorem DcO.dat {w : World} {a : Addr} {o : Obj} {ks : List D} {kv us : List V} (d : DcO w a o ks kv us) : ∃ es ep, o.data = .dict es ep := by cases d <;> assumption
theorem DcO.len {w : World} {a : Addr} {o : Obj} {ks : List D} {kv us : List V} (d : DcO w a o ks kv us) : ks.length ≤ sizeLine := by
  cases d with
  | mix _ _ _ _ h _ => rw [List.length_map]; exact h
  | nk _ _ _ _ h _ e _ =>
    have := congrArg List.length e
    rw [List.length_map, List.length_map] at this
    omega
theorem xd_get {a : Addr} {o : Obj} (I : Inv X pins σ H s) (h : H a = some (xdO a o)) : s.heap.get? a = some o := (I.hok a _ h).1
theorem xd_ok {P : Program} {w : World} {H' : Hp} {h : Heap} {a : Addr} {o : Obj} (e : h.get? a = some o) : ObjOk P w H' h a (xdO a o) := ⟨e, ⟨o, e⟩, fun _ _ q k => k o q⟩
/-- the two forms of what is known, over the heap that stands -/
theorem DcO.real {a : Addr} {o : Obj} {ks : List D} {kv us : List V} (I : Inv X pins σ H s) (hK : X.K = c.K) (hw : X.w = c.w) (sub : ∀ a o, G a = some o → H a = some o) (hD : H a = some (xdO a o)) (d : DcO c.w a o ks kv us) (ka : RpAll c G kv ks) :
    (∃ kvs : List (Key × Value), s.heap.DictOf (mixKind X.prog X.w) a kvs ∧ ks = kvs.map (fun p => keyD p.1) ∧ kv = kvs.map (fun p => kV p.1) ∧ Vals us (kvs.map (·.2)) ∧ kvs.length ≤ sizeLine) ∨
    ∃ xs : List (NestedKey × Addr × Value), s.heap.DictOfH (nestedKind X.prog X.w) a xs ∧ ks.map nkD = xs.map (fun x => some x.1) ∧ kv = xs.map (fun x => V.ref x.2.1) ∧ Vals us (xs.map (·.2.2)) ∧ xs.length ≤ sizeLine ∧ (∀ x ∈ xs, (nestedKind X.prog X.w).is s.heap x.1 x.2.1) ∧ ∀ x ∈ xs, x.1.depth ≤ 8 := by
  have got := xd_get I hD
  cases d with
  | @mix kvs us h1 h2 h3 h4 h5 h6 => exact .inl ⟨kvs, hw ▸ h4 X.prog s.heap a got, rfl, rfl, h6, h5⟩
  | @nk xs us ks h1 h2 h3 h4 h5 h6 h7 h8 =>
    have his : ∀ x ∈ xs, (nestedKind X.prog X.w).is s.heap x.1 x.2.1 := by
      intro x hx
      obtain ⟨i, hi⟩ := List.mem_iff_getElem?.mp hx
      have e1 : (xs.map fun x => V.ref x.2.1)[i]? = some (.ref x.2.1) := by rw [List.getElem?_map, hi]; rfl
      obtain ⟨k, e2, hr⟩ := ka.getV e1
      have e3 : (ks.map nkD)[i]? = some (some x.1) := by rw [h7, List.getElem?_map, hi]; rfl
      rw [List.getElem?_map, e2] at e3
      exact ⟨rp_nested I hK sub hr (Option.some.inj e3) rfl, h8 x hx⟩
    exact .inr ⟨xs, hw ▸ h4 X.prog s.heap a got (by rw [← hw]; exact his), h7, rfl, h6, h5, his, h8⟩
/-- an empty dict is of both kinds -/
theorem DictOf.flip {P : Program} {w : World} {h : Heap} {a : Addr} (d : h.DictOf (mixKind P w) a []) : h.DictOfH (nestedKind P w) a [] := by
  obtain ⟨o, es, ep, ho, hc, hd, _, hp, _⟩ := d
  have := hp.length
  have e : es = #[] := by
    have : es.size = 0 := by simpa using this
    exact Array.eq_empty_of_size_eq_zero this
  subst e
  exact ⟨o, #[], ep, ho, hc, hd, rfl, (fun _ hx => nomatch hx), List.nodup_nil⟩
theorem DictOfH.flip {P : Program} {w : World} {h : Heap} {a : Addr} (d : h.DictOfH (nestedKind P w) a []) : h.DictOf (mixKind P w) a [] := by
  obtain ⟨o, es, ep, ho, hc, hd, he, _, _⟩ := d
  have e : es = #[] := by
    have : es.toList = [] := he
    cases es
    simp at this
    rw [this]
  subst e
  exact ⟨o, #[], ep, ho, hc, hd, (fun e he => by simp at he), .nil, List.nodup_nil⟩
end
theorem pairs_mix {P0 P : Program} {w : World} {es : List DictEntry} {kvs : List (Key × Value)} (h : Pairs (mixKind P0 w) es kvs) : Pairs (mixKind P w) es kvs := by
  induction h with
  | nil => exact .nil
  | cons h1 h2 _ ih => exact .cons h1 h2 ih
theorem dictOf_mix {P0 P : Program} {w : World} {h h' : Heap} {a b : Addr} {o : Obj} {kvs : List (Key × Value)} (d : h.DictOf (mixKind P0 w) a kvs) (e : h.get? a = some o) (e' : h'.get? b = some o) : h'.DictOf (mixKind P w) b kvs := by
  obtain ⟨o', es, ep, ho, hc, hd, hk, hp, hn⟩ := d
  rw [e] at ho
  cases ho
  exact ⟨o, es, ep, e', hc, hd, hk, pairs_mix hp, hn⟩
theorem mixObj_of {P0 : Program} {w : World} {h : Heap} {a : Addr} {o : Obj} {kvs : List (Key × Value)} (d : h.DictOf (mixKind P0 w) a kvs) (e : h.get? a = some o) : MixObj w o kvs := fun P h' b e' => dictOf_mix d e e'
theorem nkObj_of {P0 : Program} {w : World} {h : Heap} {a : Addr} {o : Obj} {xs : List (NestedKey × Addr × Value)} (d : h.DictOfH (nestedKind P0 w) a xs) (e : h.get? a = some o) : NkObj w o xs := fun P h' b e' his => by
  obtain ⟨o', es, ep, ho, hc, hd, he, _, hn⟩ := d
  rw [e] at ho
  cases ho
  exact ⟨o, es, ep, e', hc, hd, he, his, hn⟩
theorem vals_at {us : List V} {ws : List Value} (h : Vals us ws) : ∀ i : Nat, RelO us[i]? ws[i]? := by
  unfold Vals at h
  induction h with
  | nil => intro i; simp [RelO]
  | cons r _ ih =>
    intro i
    cases i with
    | zero => exact r
    | succ i => simpa using ih i
theorem relO_bind {us : List V} {ws : List Value} (h : Vals us ws) (o : Option Nat) : RelO (o.bind fun i => us[i]?) (o.bind fun i => ws[i]?) := by
  cases o with
  | none => exact True.intro
  | some i => exact vals_at h i
/-- what is found at a key -/
def look {α : Type} (ks : List D) (k : D) (l : List α) : Option α := (keyAt ks k).bind fun i => l[i]?
def XLook (X : Cx) (s : Shared) (a : Addr) (u : Value) (vo : Option V) : Prop :=
  (∃ kvs k0, s.heap.DictOf (mixKind X.prog X.w) a kvs ∧ RelV (kV k0) u ∧ RelO vo (valueAt kvs k0)) ∨
  ∃ xs n b, u = .ref b ∧ s.heap.DictOfH (nestedKind X.prog X.w) a xs ∧ (nestedKind X.prog X.w).is s.heap n b ∧ RelO vo ((atKey xs n).map (·.2))
theorem mix_keys {kvs : List (Key × Value)} (k0 : Key) : (kvs.map fun p => keyD p.1).map (keyEq (keyD k0)) = kvs.map fun kv => decide (kv.1 = k0) := by
  rw [List.map_map]
  apply List.map_congr_left
  intro p _
  show keyEq (keyD k0) (keyD p.1) = _
  rw [keyEq_keyD]
  by_cases e : p.1 = k0
  · rw [decide_eq_true e, decide_eq_true e.symm]
  · rw [decide_eq_false e, decide_eq_false fun z => e z.symm]
theorem nk_keys {ds : List D} {n : List NestedKey} (h : nkDs ds = some n) : ∀ {ks : List D} {xs : List (NestedKey × Addr × Value)}, ks.map nkD = xs.map (fun x => some x.1) → ks.map (keyEq (.tup ds)) = xs.map fun x => decide (x.1 = .tup n)
  | [], [], _ => rfl
  | [], _ :: _, e => by cases e
  | _ :: _, [], e => by cases e
  | k :: ks, x :: xs, e => by
    rw [List.map_cons, List.map_cons] at e
    injection e with e1 e2
    rw [List.map_cons, List.map_cons, nk_keys h e2, keyEqT h e1]
theorem valueAt_at (kvs : List (Key × Value)) (k0 : Key) : valueAt kvs k0 = (kvs.findIdx? fun kv => decide (kv.1 = k0)).bind fun i => (kvs.map (·.2))[i]? := by
  unfold valueAt
  rw [find_at]
  cases kvs.findIdx? fun kv => decide (kv.1 = k0) with
  | none => rfl
  | some i => show ((kvs[i]?).map (·.2)) = (kvs.map (·.2))[i]?; rw [List.getElem?_map]
theorem atKey_at (xs : List (NestedKey × Addr × Value)) (n : NestedKey) : (atKey xs n).map (·.2) = (xs.findIdx? fun x => decide (x.1 = n)).bind fun i => (xs.map (·.2.2))[i]? := by
  unfold atKey
  rw [find_at]
  cases xs.findIdx? fun x => decide (x.1 = n) with
  | none => rfl
  | some i => show ((xs[i]?.map (·.2)).map (·.2)) = (xs.map (·.2.2))[i]?; rw [List.getElem?_map, Option.map_map]; rfl
theorem key_notT {k : Key} : isKeyT (keyD k) = false := by cases k <;> rfl
section
variable {X : Cx} {pins : List (Addr × Obj)} {σ : L2.St} {H : Hp} {s : Shared} {c : Cfg} {G : Hp}
/-- which of the two kinds a question is of -/
theorem DcO.ask {a : Addr} {o : Obj} {ks : List D} {kv us : List V} {y : V} {k : D} (I : Inv X pins σ H s) (hK : X.K = c.K) (hw : X.w = c.w) (sub : ∀ a o, G a = some o → H a = some o) (hD : H a = some (xdO a o)) (d : DcO c.w a o ks kv us) (ka : RpAll c G kv ks) (hk : Rp c G y k) (hm : homog ks k = true) :
    (∃ (kvs : List (Key × Value)) (k0 : Key), s.heap.DictOf (mixKind X.prog X.w) a kvs ∧ ks = kvs.map (fun p => keyD p.1) ∧ kv = kvs.map (fun p => kV p.1) ∧ Vals us (kvs.map (·.2)) ∧ kvs.length ≤ sizeLine ∧ k = keyD k0 ∧ y = kV k0) ∨
    ∃ (xs : List (NestedKey × Addr × Value)) (ds : List D) (n : List NestedKey) (b : Addr), s.heap.DictOfH (nestedKind X.prog X.w) a xs ∧ ks.map nkD = xs.map (fun x => some x.1) ∧ kv = xs.map (fun x => V.ref x.2.1) ∧ Vals us (xs.map (·.2.2)) ∧ xs.length ≤ sizeLine ∧ (∀ x ∈ xs, (nestedKind X.prog X.w).is s.heap x.1 x.2.1) ∧ (∀ x ∈ xs, x.1.depth ≤ 8) ∧
      k = .tup ds ∧ y = .ref b ∧ nkDs ds = some n ∧ (NestedKey.tup n).depth ≤ 8 ∧ (nestedKind X.prog X.w).is s.heap (.tup n) b := by
  have tkey : isKeyT k = true → ∃ (ds : List D) (n : List NestedKey) (b : Addr), k = .tup ds ∧ y = .ref b ∧ nkDs ds = some n ∧ (NestedKey.tup n).depth ≤ 8 ∧ (nestedKind X.prog X.w).is s.heap (.tup n) b := by
    intro e
    obtain ⟨ds, n, rfl, e1, e2, e3⟩ := keyT_of e
    obtain ⟨b, vs, rfl, _⟩ := hk.tupE
    exact ⟨ds, n, b, rfl, rfl, e1, e3, rp_nested I hK sub hk e2 rfl, e3⟩
  unfold homog at hm
  rw [Bool.or_eq_true, Bool.and_eq_true, Bool.and_eq_true] at hm
  rcases d.real I hK hw sub hD ka with ⟨kvs, d1, e1, e2, e3, e4⟩ | ⟨xs, d1, e1, e2, e3, e4, e5, e6⟩
  · rcases hm with ⟨m1, _⟩ | ⟨m1, m2⟩
    · obtain ⟨k0, rfl, rfl⟩ := key_of hk m1
      exact .inl ⟨kvs, k0, d1, e1, e2, e3, e4, rfl, rfl⟩
    · obtain ⟨ds, n, b, rfl, rfl, q1, q2, q3⟩ := tkey m1
      cases kvs with
      | nil =>
        subst e1 e2
        exact .inr ⟨[], ds, n, b, DictOf.flip d1, rfl, rfl, e3, Nat.zero_le _, (fun _ h => nomatch h), (fun _ h => nomatch h), rfl, rfl, q1, q2, q3⟩
      | cons p r =>
        subst e1
        rw [List.map_cons, List.all_cons, key_notT] at m2
        cases m2
  · rcases hm with ⟨m1, m2⟩ | ⟨m1, _⟩
    · obtain ⟨k0, rfl, rfl⟩ := key_of hk m1
      cases xs with
      | nil =>
        have : ks = [] := by cases ks with
          | nil => rfl
          | cons _ _ => cases e1
        subst this e2
        exact .inl ⟨[], k0, DictOfH.flip d1, rfl, rfl, e3, Nat.zero_le _, rfl, rfl⟩
      | cons x r =>
        subst e2
        rw [List.map_cons] at ka
        cases ka with
        | cons h _ =>
          rw [List.all_cons, Bool.and_eq_true] at m2
          obtain ⟨k1, _, e⟩ := key_of h m2.1
          cases k1 <;> cases e
    · obtain ⟨ds, n, b, rfl, rfl, q1, q2, q3⟩ := tkey m1
      exact .inr ⟨xs, ds, n, b, d1, e1, e2, e3, e4, e5, e6, rfl, rfl, q1, q2, q3⟩
theorem xd_look {a : Addr} {o : Obj} {ks : List D} {kv us : List V} {y : V} {k : D} {u : Value} (I : Inv X pins σ H s) (hK : X.K = c.K) (hw : X.w = c.w) (sub : ∀ a o, G a = some o → H a = some o) (hD : H a = some (xdO a o)) (d : DcO c.w a o ks kv us) (ka : RpAll c G kv ks) (hk : Rp c G y k) (hm : homog ks k = true) (ry : RelV y u) :
    XLook X s a u (look ks k us) := by
  rcases d.ask I hK hw sub hD ka hk hm with ⟨kvs, k0, d1, rfl, rfl, e3, e4, rfl, rfl⟩ | ⟨xs, ds, n, b, d1, e1, rfl, e3, e4, e5, e6, rfl, rfl, q1, q2, q3⟩
  · refine .inl ⟨kvs, k0, d1, ry, ?_⟩
    rw [valueAt_at]
    unfold look keyAt
    rw [idx_map (mix_keys k0)]
    exact relO_bind e3 _
  · cases ry
    refine .inr ⟨xs, .tup n, b, rfl, d1, q3, ?_⟩
    rw [atKey_at]
    unfold look keyAt
    rw [idx_map (nk_keys q1 e1)]
    exact relO_bind e3 _
theorem hasKey_look {ks : List D} {k : D} {kv us : List V} {w : World} {a : Addr} {o : Obj} (d : DcO w a o ks kv us) : (look ks k us).isSome = hasKey ks k := by
  have hl : us.length = ks.length := by
    cases d with
    | mix _ _ _ _ _ h => rw [h.length, List.length_map, List.length_map]
    | nk _ _ _ _ _ h e _ =>
      have := congrArg List.length e
      rw [List.length_map, List.length_map] at this
      rw [h.length, List.length_map, this]
  unfold look hasKey keyAt
  rw [any_idx]
  cases e : ks.findIdx? (keyEq k) with
  | none => rfl
  | some i =>
    have hi : i < ks.length := by
      have := List.findIdx?_eq_some_iff_findIdx_eq.mp e
      exact this.1
    show (us[i]?).isSome = true
    rw [List.getElem?_eq_getElem (by omega)]
    rfl
end
section
variable {X : Cx} {pins : List (Addr × Obj)} {σ : L2.St} {H : Hp} {s : Shared} {a : Addr} {y v d : V} {u r : Value} {o : Option V} {A : Around} {E : Value → Shared → Prop}
theorem nk_room {A : Around} {P : Program} {w : World} (hu : A.units + 10 < cLine) : (nestedKind P w).room A.in1 := by
  show A.units + 1 + 8 < cLine
  omega
theorem x_getItem {Q : Value → Shared → Prop} (hu : A.units + 10 < cLine) (I : Inv X pins σ H s) (g : XLook X s a u (some v)) (h : ∀ w' s', Inv X pins σ H s' → RelV v w' → Q w' s') : wpAny (model X.prog X.w) A (getItem (.ref a) u) Q E s := by
  rcases g with ⟨kvs, k0, d1, ry, rel⟩ | ⟨xs, n, b, rfl, d1, hk, rel⟩
  · obtain ⟨w', hw, rw'⟩ := RelO.some_of (v := v) (o := valueAt kvs k0) rel
    exact wpAny_getItem_of (kV_is ry) d1.mapOf hw (h w' _ (I.tok _) rw')
  · obtain ⟨w', hw, rw'⟩ := RelO.some_of (v := v) (o := (atKey xs n).map (·.2)) rel
    obtain ⟨p, hp, hp2⟩ := Option.map_eq_some_iff.mp hw
    refine wpAny_getItem_heap (nk_room hu) hk d1 hp ?_
    rw [hp2]
    exact h w' _ (I.tok _) rw'
theorem x_notIn {Q : Value → Shared → Prop} (hu : A.units + 10 < cLine) (I : Inv X pins σ H s) (hd : (a == sysModules) = false) (g : XLook X s a u o) (h : ∀ s', Inv X pins σ H s' → Q (.bool (!o.isSome)) s') : wpAny (model X.prog X.w) A (compareOp .NotIn u (.ref a)) Q E s := by
  rcases g with ⟨kvs, k0, d1, ry, rel⟩ | ⟨xs, n, b, rfl, d1, hk, rel⟩
  · refine wpAny_notIn_of (kV_is ry) hd d1.mapOf ?_
    rw [← rel.isSome_eq]
    exact h _ (I.tok _)
  · refine wpAny_notIn_heap (nk_room hu) hk hd d1 ?_
    have q := rel.isSome_eq
    rw [Option.isSome_map] at q
    rw [← q]
    exact h _ (I.tok _)
end
/-! ### the store -/
theorem vals_zip {kvs : List (Key × Value)} {k0 : Key} {v : V} {r : Value} (rv : RelV v r) : ∀ {us : List V}, Vals us (kvs.map (·.2)) → Vals (List.zipWith (fun k' d => if keyEq (keyD k0) k' then v else d) (kvs.map fun p => keyD p.1) us) ((kvs.map fun kv => if kv.1 = k0 then (kv.1, r) else kv).map (·.2)) := by
  induction kvs with
  | nil => intro us h; cases h; exact .nil
  | cons p kvs ih =>
    intro us h
    rw [List.map_cons] at h
    cases h with
    | cons h1 h2 =>
      simp only [List.map_cons, List.zipWith_cons_cons, keyEq_keyD]
      refine .cons ?_ (ih h2)
      by_cases e : p.1 = k0
      · rw [if_pos (by rw [e]; simp), if_pos e]
        exact rv
      · rw [if_neg (by simp; exact fun z => e z.symm), if_neg e]
        exact h1
theorem vals_zipH {ds : List D} {n : List NestedKey} (hn : nkDs ds = some n) {v : V} {r : Value} (rv : RelV v r) : ∀ {xs : List (NestedKey × Addr × Value)} {ks : List D} {us : List V}, ks.map nkD = xs.map (fun x => some x.1) → Vals us (xs.map (·.2.2)) →
    Vals (List.zipWith (fun k' d => if keyEq (.tup ds) k' then v else d) ks us) ((xs.map (putAt (.tup n) r)).map (·.2.2))
  | [], [], us, _, h => by cases h; exact .nil
  | [], _ :: _, us, e, h => by cases e
  | _ :: _, [], us, e, h => by cases e
  | x :: xs, k :: ks, us, e, h => by
    rw [List.map_cons, List.map_cons] at e
    injection e with e1 e2
    rw [List.map_cons] at h
    cases h with
    | cons h1 h2 =>
      simp only [List.map_cons, List.zipWith_cons_cons, keyEqT hn e1]
      refine .cons ?_ (vals_zipH hn rv e2 h2)
      unfold putAt
      by_cases q : x.1 = .tup n
      · rw [if_pos (decide_eq_true q), if_pos q]
        exact rv
      · rw [if_neg (by simp [q]), if_neg q]
        exact h1
theorem hasKey_mix {kvs : List (Key × Value)} {k0 : Key} : hasKey (kvs.map fun p => keyD p.1) (keyD k0) = kvs.any fun kv => decide (kv.1 = k0) := any_map2 (mix_keys k0)
theorem mix_stored {kvs : List (Key × Value)} {k0 : Key} {v : V} {r : Value} {us : List V} (rv : RelV v r) (e3 : Vals us (kvs.map (·.2))) :
    (stored kvs k0 r).map (fun p => keyD p.1) = putKs (kvs.map fun p => keyD p.1) (keyD k0) (kvs.map fun p => keyD p.1) (keyD k0) ∧
    (stored kvs k0 r).map (fun p => kV p.1) = putKs (kvs.map fun p => keyD p.1) (keyD k0) (kvs.map fun p => kV p.1) (kV k0) ∧
    Vals (putVs (kvs.map fun p => keyD p.1) (keyD k0) us v) ((stored kvs k0 r).map (·.2)) := by
  unfold stored putKs putVs
  rw [hasKey_mix]
  by_cases e : (kvs.any fun kv => decide (kv.1 = k0)) = true
  · rw [if_pos e, if_pos e, if_pos e, if_pos e]
    refine ⟨?_, ?_, vals_zip rv e3⟩
    · rw [List.map_map]
      apply List.map_congr_left
      intro p _
      show keyD (if p.1 = k0 then (p.1, r) else p).1 = _
      split <;> rfl
    · rw [List.map_map]
      apply List.map_congr_left
      intro p _
      show kV (if p.1 = k0 then (p.1, r) else p).1 = _
      split <;> rfl
  · rw [if_neg e, if_neg e, if_neg e, if_neg e]
    refine ⟨?_, ?_, ?_⟩
    · rw [List.map_append]; rfl
    · rw [List.map_append]; rfl
    · rw [List.map_append]
      exact e3.append (.cons rv .nil)
theorem hasKey_nk {ds : List D} {n : List NestedKey} {ks : List D} {xs : List (NestedKey × Addr × Value)} (hn : nkDs ds = some n) (e1 : ks.map nkD = xs.map (fun x => some x.1)) : hasKey ks (.tup ds) = (atKey xs (.tup n)).isSome := by
  have h1 : hasKey ks (.tup ds) = xs.any fun x => decide (x.1 = .tup n) := any_map2 (nk_keys hn e1)
  rw [h1, any_idx]
  unfold atKey
  rw [find_at, Option.isSome_map]
  cases e : xs.findIdx? fun x => decide (x.1 = .tup n) with
  | none => rfl
  | some i =>
    have hi := (List.findIdx?_eq_some_iff_findIdx_eq.mp e).1
    show true = (xs[i]?).isSome
    rw [List.getElem?_eq_getElem hi]
    rfl
theorem nk_stored {ds : List D} {n : List NestedKey} {ks : List D} {xs : List (NestedKey × Addr × Value)} {b : Addr} {v : V} {r : Value} {us : List V} (hn : nkDs ds = some n) (hk : nkD (.tup ds) = some (.tup n)) (hd : (NestedKey.tup n).depth ≤ 8) (e1 : ks.map nkD = xs.map (fun x => some x.1)) (rv : RelV v r) (e3 : Vals us (xs.map (·.2.2))) (e6 : ∀ x ∈ xs, x.1.depth ≤ 8) :
    (putKs ks (.tup ds) ks (.tup ds)).map nkD = (storedH xs (.tup n) b r).map (fun x => some x.1) ∧
    (storedH xs (.tup n) b r).map (fun x => V.ref x.2.1) = putKs ks (.tup ds) (xs.map fun x => V.ref x.2.1) (.ref b) ∧
    Vals (putVs ks (.tup ds) us v) ((storedH xs (.tup n) b r).map (·.2.2)) ∧ ∀ x ∈ storedH xs (.tup n) b r, x.1.depth ≤ 8 := by
  unfold storedH putKs putVs
  rw [hasKey_nk hn e1]
  by_cases e : (atKey xs (.tup n)).isSome = true
  · rw [if_pos e, if_pos e, if_pos e, if_pos e]
    refine ⟨?_, ?_, vals_zipH hn rv e1 e3, ?_⟩
    · rw [e1, List.map_map]
      apply List.map_congr_left
      intro p _
      show _ = some (putAt (.tup n) r p).1
      unfold putAt
      split <;> rfl
    · rw [List.map_map]
      apply List.map_congr_left
      intro p _
      show V.ref (putAt (.tup n) r p).2.1 = _
      unfold putAt
      split <;> rfl
    · intro x hx
      obtain ⟨p, hp, rfl⟩ := List.mem_map.mp hx
      have := e6 p hp
      unfold putAt
      split <;> exact this
  · rw [if_neg e, if_neg e, if_neg e, if_neg e]
    refine ⟨?_, ?_, ?_, ?_⟩
    · rw [List.map_append, List.map_append, e1, List.map_cons, hk]; rfl
    · rw [List.map_append]; rfl
    · rw [List.map_append]
      exact e3.append (.cons rv .nil)
    · intro x hx
      rcases List.mem_append.mp hx with hx | hx
      · exact e6 x hx
      · rw [List.mem_singleton] at hx
        subst hx
        exact hd
theorem stored_len (kvs : List (Key × Value)) (k : Key) (r : Value) : (stored kvs k r).length ≤ kvs.length + 1 := by
  unfold stored
  split
  · rw [List.length_map]; omega
  · rw [List.length_append]; exact Nat.le_refl _
theorem storedH_len (xs : List (NestedKey × Addr × Value)) (k : NestedKey) (b : Addr) (r : Value) : (storedH xs k b r).length ≤ xs.length + 1 := by
  unfold storedH
  split
  · rw [List.length_map]; omega
  · rw [List.length_append]; exact Nat.le_refl _
theorem RpAll.put {c : Cfg} {G : Hp} {ks kd : List D} {kv : List V} {k x : D} {y : V} (ka : RpAll c G kv kd) (hk : Rp c G y x) : RpAll c G (putKs ks k kv y) (putKs ks k kd x) := by
  unfold putKs
  split
  · exact ka
  · exact ka.snoc hk
section
variable {X : Cx} {pins : List (Addr × Obj)} {σ : L2.St} {H : Hp} {s : Shared} {c : Cfg} {G : Hp} {A : Around} {E : Value → Shared → Prop}
/-- what a store leaves -/
theorem xd_store {a : Addr} {o : Obj} {ks : List D} {kv us : List V} {y v : V} {k : D} {u r : Value} {m : Sem Unit} {Q : Unit → Shared → Prop} (I : Inv X pins σ H s) (hK : X.K = c.K) (hw : X.w = c.w) (sub : ∀ a o, G a = some o → H a = some o) (hD : H a = some (xdO a o)) (d : DcO c.w a o ks kv us) (ka : RpAll c G kv ks) (hk : Rp c G y k) (hm : homog ks k = true)
    (hz : ks.length < sizeLine) (ry : RelV y u) (rv : RelV v r)
    (step1 : ∀ kvs k0, RelV (kV k0) u → s.heap.DictOf (mixKind X.prog X.w) a kvs → kvs.length ≤ sizeLine → (∀ h', h'.DictOf (mixKind X.prog X.w) a (stored kvs k0 r) → Heap.SameBut a s.heap h' → ∀ t, Q () { s with heap := h', toks := t }) → wpAny (model X.prog X.w) A m Q E s)
    (step2 : ∀ xs n b, u = .ref b → (nestedKind X.prog X.w).is s.heap n b → s.heap.DictOfH (nestedKind X.prog X.w) a xs → xs.length ≤ sizeLine → (∀ h', h'.DictOfH (nestedKind X.prog X.w) a (storedH xs n b r) → Heap.SameBut a s.heap h' → ∀ t, Q () { s with heap := h', toks := t }) → wpAny (model X.prog X.w) A m Q E s)
    (q : ∀ s' o', Inv X pins σ (upd H a (xdO a o')) s' → DcO c.w a o' (putKs ks k ks k) (putKs ks k kv y) (putVs ks k us v) → Q () s') : wpAny (model X.prog X.w) A m Q E s := by
  have sys := d.sys
  rcases d.ask I hK hw sub hD ka hk hm with ⟨kvs, k0, d1, rfl, rfl, e3, e4, rfl, rfl⟩ | ⟨xs, ds, n, b, d1, e1, rfl, e3, e4, e5, e6, rfl, rfl, q1, q2, q3⟩
  · refine step1 kvs k0 ry d1 e4 fun h' dd same t => ?_
    obtain ⟨o', es, ep, ho, hc, hd, _⟩ := id dd
    have I' : Inv X pins σ (upd H a (xdO a o')) { s with heap := h', toks := t } := d_write I (by rw [hD]; exact True.intro) same ⟨o', ho⟩ (xd_ok ho)
    have mo : MixObj c.w o' (stored kvs k0 r) := hw ▸ mixObj_of dd ho
    rw [List.length_map] at hz
    have lk : (stored kvs k0 r).length ≤ sizeLine := Nat.le_trans (stored_len _ _ _) hz
    obtain ⟨f1, f2, f3⟩ := mix_stored (k0 := k0) rv e3
    have dc := DcO.mix (w := c.w) (a := a) sys hc ⟨es, ep, hd⟩ mo lk f3
    rw [f1, f2] at dc
    exact q _ o' I' dc
  · cases ry
    refine step2 xs (.tup n) b rfl q3 d1 e4 fun h' dd same t => ?_
    obtain ⟨o', es, ep, ho, hc, hd, _⟩ := id dd
    have I' : Inv X pins σ (upd H a (xdO a o')) { s with heap := h', toks := t } := d_write I (by rw [hD]; exact True.intro) same ⟨o', ho⟩ (xd_ok ho)
    have mo : NkObj c.w o' (storedH xs (.tup n) b r) := hw ▸ nkObj_of dd ho
    have hl : ks.length = xs.length := by
      have := congrArg List.length e1
      rw [List.length_map, List.length_map] at this
      exact this
    have lk : (storedH xs (.tup n) b r).length ≤ sizeLine := Nat.le_trans (storedH_len _ _ _ _) (by omega)
    have hk2 : nkD (.tup ds) = some (.tup n) := by rw [nkD, q1]
    obtain ⟨f1, f2, f3, f4⟩ := nk_stored (b := b) q1 hk2 q2 e1 rv e3 e6
    have dc := DcO.nk (w := c.w) (a := a) sys hc ⟨es, ep, hd⟩ mo lk f3 f1 f4
    rw [f2] at dc
    exact q _ o' I' dc
theorem x_setItem {a : Addr} {o : Obj} {ks : List D} {kv us : List V} {y v : V} {k : D} {u r : Value} {Q : Unit → Shared → Prop} (hu : A.units + 10 < cLine) (I : Inv X pins σ H s) (hK : X.K = c.K) (hw : X.w = c.w) (sub : ∀ a o, G a = some o → H a = some o) (hD : H a = some (xdO a o)) (d : DcO c.w a o ks kv us) (ka : RpAll c G kv ks) (hk : Rp c G y k) (hm : homog ks k = true)
    (hz : ks.length < sizeLine) (ry : RelV y u) (rv : RelV v r) (q : ∀ s' o', Inv X pins σ (upd H a (xdO a o')) s' → DcO c.w a o' (putKs ks k ks k) (putKs ks k kv y) (putVs ks k us v) → Q () s') :
    wpAny (model X.prog X.w) A (setItem (.ref a) u r) Q E s :=
  xd_store I hK hw sub hD d ka hk hm hz ry rv (fun kvs k0 r0 dd hl f => wpAny_setItem_pairs (hsz := hl) (kV_is r0) dd fun h' d' sm => f h' d' sm _)
    (fun xs n b e hk dd hl f => by subst e; exact wpAny_setItem_heap (hsz := hl) (nk_room hu) hk dd fun h' d' sm => f h' d' sm _) q
theorem nk_room0 {A : Around} {P : Program} {w : World} (hu : A.units + 10 < cLine) : (nestedKind P w).room A := by
  show A.units + 8 < cLine
  omega
theorem x_dictSet {a : Addr} {o : Obj} {ks : List D} {kv us : List V} {y v : V} {k : D} {u r : Value} {Q : Unit → Shared → Prop} (hu : A.units + 10 < cLine) (I : Inv X pins σ H s) (hK : X.K = c.K) (hw : X.w = c.w) (sub : ∀ a o, G a = some o → H a = some o) (hD : H a = some (xdO a o)) (d : DcO c.w a o ks kv us) (ka : RpAll c G kv ks) (hk : Rp c G y k) (hm : homog ks k = true)
    (hz : ks.length < sizeLine) (ry : RelV y u) (rv : RelV v r) (q : ∀ s' o', Inv X pins σ (upd H a (xdO a o')) s' → DcO c.w a o' (putKs ks k ks k) (putKs ks k kv y) (putVs ks k us v) → Q () s') :
    wpAny (model X.prog X.w) A (dictSet a u r) Q E s :=
  xd_store I hK hw sub hD d ka hk hm hz ry rv (fun kvs k0 r0 dd hl f => wpAny_dictSet_pairs (hsz := hl) (kV_is r0) dd fun h' d' sm => f h' d' sm _)
    (fun xs n b e hk dd hl f => by subst e; exact wpAny_dictSet_heap (hsz := hl) (nk_room0 hu) hk dd fun h' d' sm => f h' d' sm _) q
/-- a new dict -/
theorem DcO.new {w : World} {h : Heap} (hb : sysModules < h.objs.size) : DcO w h.objs.size { cls := .type "dict", data := .dict #[] } [] [] [] :=
  .mix (kvs := []) (beq_eq_false_iff_ne.mpr (Ne.symm (Nat.ne_of_lt hb))) ⟨rfl, rfl, rfl⟩ ⟨#[], 0, rfl⟩ (fun P h' b e => ⟨_, #[], 0, e, ⟨rfl, rfl, rfl⟩, rfl, (fun e he => by simp at he), .nil, List.nodup_nil⟩) (Nat.zero_le _) .nil
theorem pairs_keys {P : Program} {w : World} {l : List DictEntry} {kvs : List (Key × Value)} (hp : Pairs (mixKind P w) l kvs) : Vals (kvs.map fun p => kV p.1) (l.map (·.key)) := by
  induction hp with
  | nil => exact .nil
  | cons h1 h2 _ ih =>
    rw [List.map_cons, List.map_cons]
    exact .cons (relV_key (show keyIs _ _ = true from h1)) ih
theorem pairs_vals {P : Program} {w : World} {l : List DictEntry} {kvs : List (Key × Value)} (hp : Pairs (mixKind P w) l kvs) : l.map (·.val) = kvs.map (·.2) := by
  induction hp with
  | nil => rfl
  | cons h1 h2 _ ih => rw [List.map_cons, List.map_cons, h2, ih]
theorem vals_refs : ∀ xs : List (NestedKey × Addr × Value), Vals (xs.map fun x => V.ref x.2.1) (xs.map fun x => Value.ref x.2.1)
  | [] => .nil
  | x :: xs => by
    rw [List.map_cons, List.map_cons]
    exact .cons rfl (vals_refs xs)
/-- its entries -/
theorem DcO.raw {a : Addr} {o : Obj} {ks : List D} {kv us : List V} (I : Inv X pins σ H s) (hK : X.K = c.K) (hw : X.w = c.w) (sub : ∀ a o, G a = some o → H a = some o) (hD : H a = some (xdO a o)) (d : DcO c.w a o ks kv us) (ka : RpAll c G kv ks) :
    ∃ es ep, o.data = .dict es ep ∧ s.heap.DictRaw a es ep ∧ Vals kv (es.toList.map (·.key)) ∧ Vals us (es.toList.map (·.val)) ∧ es.size = ks.length := by
  have got := xd_get I hD
  rcases d.real I hK hw sub hD ka with ⟨kvs, ⟨o', es, ep, ho, hc, hd, hk, hp, hn⟩, rfl, rfl, e3, e4⟩ | ⟨xs, ⟨o', es, ep, ho, hc, hd, he, his, hn⟩, e1, rfl, e3, e4, e5, e6⟩
  · rw [got] at ho
    cases ho
    refine ⟨es, ep, hd, ⟨o, got, hc, hd⟩, pairs_keys hp, by rw [pairs_vals hp]; exact e3, ?_⟩
    · have := hp.length
      rw [Array.length_toList] at this
      rw [List.length_map]
      exact this
  · rw [got] at ho
    cases ho
    refine ⟨es, ep, hd, ⟨o, got, hc, hd⟩, by rw [he, List.map_map]; exact vals_refs xs, by rw [he, List.map_map]; exact e3, ?_⟩
    · have h1 := congrArg List.length e1
      have h2 := congrArg List.length he
      rw [List.length_map, List.length_map] at h1
      rw [List.length_map, Array.length_toList] at h2
      omega
end
end Fx
/-! dicts as data: comprehensions, reads, stores -/
namespace Fx
open PySem PySem.Spec PyProof.Rows L2
open C8 (Cal Mak pe_c pe_mk)
theorem valV_no : ∀ {kvs : List (Key × V)} {k : Key}, (kvs.map fun p => keyD p.1).any (keyEq (keyD k)) = false → valV kvs k = none
  | [], _, _ => rfl
  | p :: r, k, e => by
    rw [List.map_cons, List.any_cons, Bool.or_eq_false_iff, keyEq_keyD] at e
    have h : p.1 ≠ k := fun z => by simp [z] at e
    have := valV_no e.2
    unfold valV at this ⊢
    rw [List.find?_cons]
    simp [h, this]
theorem valV_at {c : Cfg} {G : Hp} : ∀ {kvs : List (Key × V)} {ds : List D} {k : Key} {i : Nat} {x : D}, RpAll c G (kvs.map (·.2)) ds → keyAt (kvs.map fun p => keyD p.1) (keyD k) = some i → ds[i]? = some x → ∃ v, valV kvs k = some v ∧ Rp c G v x
  | [], _, _, _, _, _, e, _ => by simp [keyAt] at e
  | p :: r, ds, k, i, x, ka, e, ex => by
    cases ka with
    | cons h ka =>
      rename_i d ds
      unfold keyAt at e
      rw [List.map_cons, List.findIdx?_cons] at e
      by_cases hk : keyEq (keyD k) (keyD p.1) = true
      · rw [hk] at e
        simp at e
        subst e
        rw [keyEq_keyD, decide_eq_true_eq] at hk
        simp at ex
        subst ex
        refine ⟨p.2, ?_, h⟩
        unfold valV
        rw [List.find?_cons]
        simp [hk]
      · have hk' : keyEq (keyD k) (keyD p.1) = false := by simpa using hk
        rw [hk'] at e
        simp at e
        obtain ⟨j, ej, rfl⟩ := e
        have hne : p.1 ≠ k := fun z => by
          rw [z, keyEq_keyD] at hk
          simp at hk
        obtain ⟨v, e1, e2⟩ := valV_at (k := k) (i := j) ka (by unfold keyAt; rw [List.findIdx?_map]; exact ej) (by simpa using ex)
        refine ⟨v, ?_, e2⟩
        unfold valV at e1 ⊢
        rw [List.find?_cons]
        simp only [hne, decide_false]
        exact e1
theorem RpAll.zip {c : Cfg} {G : Hp} {k x : D} {v : V} (hv : Rp c G v x) : ∀ {ks : List D} {us : List V} {ds : List D}, RpAll c G us ds → RpAll c G (List.zipWith (fun k' d => if keyEq k k' then v else d) ks us) (List.zipWith (fun k' d => if keyEq k k' then x else d) ks ds)
  | [], _, _, _ => by rw [List.zipWith_nil_left, List.zipWith_nil_left]; exact .nil
  | _ :: _, _, _, .nil => by rw [List.zipWith_nil_right, List.zipWith_nil_right]; exact .nil
  | k' :: ks, _, _, .cons h r => by
    rw [List.zipWith_cons_cons, List.zipWith_cons_cons]
    refine .cons ?_ (RpAll.zip hv r)
    split
    · exact hv
    · exact h
theorem RpAll.putV {c : Cfg} {G : Hp} {ks ds : List D} {us : List V} {k x : D} {v : V} (ka : RpAll c G us ds) (hv : Rp c G v x) : RpAll c G (putVs ks k us v) (putVs ks k ds x) := by
  unfold putVs
  split
  · exact ka.zip hv
  · exact ka.snoc hv
/-! ### readings -/
def LookX (c : Cfg) (H : Hp) (a : Addr) (y : V) (vo : Option V) : Prop := ∃ (o : Obj) (ks : List D) (kv us : List V) (k : D) (G : Hp), H a = some (xdO a o) ∧ DcO c.w a o ks kv us ∧ (∀ a o, G a = some o → H a = some o) ∧ RpAll c G kv ks ∧ Rp c G y k ∧ homog ks k = true ∧ vo = look ks k us
def PutX (c : Cfg) (H : Hp) (a : Addr) (y v : V) (Nx : Hp → Prop) : Prop := ∃ (o : Obj) (ks : List D) (kv us : List V) (k : D) (G : Hp), H a = some (xdO a o) ∧ DcO c.w a o ks kv us ∧ (∀ a o, G a = some o → H a = some o) ∧ RpAll c G kv ks ∧ Rp c G y k ∧ homog ks k = true ∧ ks.length < sizeLine ∧
  ∀ o', DcO c.w a o' (putKs ks k ks k) (putKs ks k kv y) (putVs ks k us v) → Nx (upd H a (xdO a o'))
def IsX (c : Cfg) (H : Hp) (a : Addr) : Prop := ∃ (o : Obj) (ks : List D) (kv us : List V), H a = some (xdO a o) ∧ DcO c.w a o ks kv us
section
variable {X : Cx} {pins : List (Addr × Obj)} {σ : L2.St} {H : Hp} {s : Shared} {c : Cfg} {a : Addr} {y : V} {u : Value} {vo : Option V}
theorem LookX.isX (h : LookX c H a y vo) : IsX c H a := let ⟨o, ks, kv, us, _, _, h1, h2, _⟩ := h; ⟨o, ks, kv, us, h1, h2⟩
theorem LookX.x (I : Inv X pins σ H s) (hK : X.K = c.K) (hw : X.w = c.w) (ry : RelV y u) (h : LookX c H a y vo) : XLook X s a u vo := by
  obtain ⟨o, ks, kv, us, k, G, h1, h2, h3, h4, h5, h6, rfl⟩ := h
  exact xd_look I hK hw h3 h1 h2 h4 h5 h6 ry
theorem IsX.at_ (I : Inv X pins σ H s) (h : IsX c H a) : s.TypeIs (.ref a) "dict" ∧ (∀ b, Value.ref a = .ref b → ∃ ob, s.heap.get? b = some ob ∧ ob.dict = none) ∧ (a == sysModules) = false := by
  obtain ⟨o, ks, kv, us, h1, h2⟩ := h
  have got := xd_get I h1
  refine ⟨⟨o, got, h2.exact.1⟩, fun b e => ?_, h2.sys⟩
  cases e
  exact ⟨o, got, h2.exact.2.1⟩
end
/-- .. of a dict told by its keys and values alone -/
def LookK (H : Hp) (a : Addr) (y : V) (vo : Option V) : Prop := ∃ kvs k, H a = some (.dK kvs) ∧ y = kV k ∧ vo = valV kvs k
def LookE (c : Cfg) (H : Hp) (a : Addr) (y : V) (vo : Option V) : Prop := H a = some (.dK []) ∧ (∃ (G : Hp) (k : D), (∀ a o, G a = some o → H a = some o) ∧ Rp c G y k ∧ isKeyT k = true) ∧ vo = none
def LookA (c : Cfg) (H : Hp) (a : Addr) (y : V) (vo : Option V) : Prop := LookX c H a y vo ∨ LookK H a y vo ∨ LookE c H a y vo
def IsA (c : Cfg) (H : Hp) (a : Addr) : Prop := IsX c H a ∨ ∃ kvs, H a = some (.dK kvs)
section
variable {X : Cx} {pins : List (Addr × Obj)} {σ : L2.St} {H : Hp} {s : Shared} {c : Cfg} {a : Addr} {y : V} {u : Value} {vo : Option V}
theorem LookA.isA (h : LookA c H a y vo) : IsA c H a := by
  rcases h with h | ⟨kvs, k, h, _⟩ | ⟨h, _⟩
  · exact .inl h.isX
  · exact .inr ⟨_, h⟩
  · exact .inr ⟨_, h⟩
theorem IsA.at_ (I : Inv X pins σ H s) (h : IsA c H a) : s.TypeIs (.ref a) "dict" ∧ (∀ b, Value.ref a = .ref b → ∃ ob, s.heap.get? b = some ob ∧ ob.dict = none) ∧ (a == sysModules) = false := by
  rcases h with h | ⟨kvs, h⟩
  · exact h.at_ I
  · exact isD_at I (.inl ⟨kvs, .inl h⟩)
theorem LookA.x (I : Inv X pins σ H s) (hK : X.K = c.K) (hw : X.w = c.w) (ry : RelV y u) (h : LookA c H a y vo) : XLook X s a u vo := by
  rcases h with h | ⟨kvs, k, h, rfl, rfl⟩ | ⟨h, ⟨G, k, sub, hk, ht⟩, rfl⟩
  · exact h.x I hK hw ry
  · obtain ⟨z, hd, vs, rel, dd⟩ := dk_of I.hok h
    exact .inl ⟨vs, k, dd, ry, rel.val k⟩
  · obtain ⟨z, hd, vs, rel, dd⟩ := dk_of I.hok h
    cases rel
    obtain ⟨ds, n, rfl, e1, e2, e3⟩ := keyT_of ht
    obtain ⟨b, vs, rfl, _⟩ := hk.tupE
    cases ry
    exact .inr ⟨[], .tup n, b, rfl, DictOf.flip dd, ⟨rp_nested I hK sub hk e2 rfl, e3⟩, True.intro⟩
end
def rInX (c : Cfg) (neg : Bool) : R2 := fun y x H Q => ∃ a o, x = .ref a ∧ LookA c H a y o ∧ Q (.bl (if neg then !o.isSome else o.isSome)) H
def rSetX (c : Cfg) : TSet := fun o i v H Q => ∃ p, o = .ref p ∧ PutX c H p i v Q
def tDNewX (c : Cfg) : TE := fun _ H Q => ∀ p o, H p = none → DcO c.w p o [] [] [] → Q (.ref p) (upd H p (xdO p o))
section
variable {X : Cx} {c : Cfg} {o i e f value : Expr} {pos pos' apos cpos : Pos} {td ty tv tx : TE}
/-- d[y] by values -/
def rGetX (c : Cfg) : R2 := fun x y H Q => ∃ a v, x = .ref a ∧ LookA c H a y (some v) ∧ Q v H
theorem ix_X (hK : X.K = c.K) (hw : X.w = c.w) (hu : X.A.units + 10 < cLine) : IxR X (rGetX c) := by
  intro ve se pins st σ H x y xv yv Q I rx ry ⟨a, v, ex, look, fin⟩ plain
  subst ex
  cases rx
  have ty := (look.isA.at_ I).1
  unfold subscriptTail
  refine wpAny_bind ?_
  rw [getitemInPython_of_ne ty.not_modules]
  refine wpAny_bind (wpAny_specialOf ty PySem.F.slot_dict_getitem.lookup ?_)
  have got := x_getItem (E := X.xe) (Q := EP X pins σ Q) hu I (look.x I hK hw ry) fun w' s' I' rw' => ⟨v, H, I', rw', fin⟩
  first
    | exact wpAny_pure (wpAny_bind (by rw [plain]; exact wpAny_operating (wpAny_mono got (fun _ _ h => wpAny_bind (wpAny_letTemporaryGo (wpAny_pure h))) fun _ _ h => h)))
    | exact wpAny_bind (wpAny_pure (wpAny_bind (by rw [plain]; exact wpAny_operating (wpAny_mono got (fun _ _ h => wpAny_bind (wpAny_letTemporaryGo (wpAny_pure h))) fun _ _ h => h))))
    | exact wpAny_bind (by rw [plain]; exact wpAny_operating (wpAny_mono got (fun _ _ h => wpAny_bind (wpAny_letTemporaryGo (wpAny_pure h))) fun _ _ h => h))
theorem op_ninX (hK : X.K = c.K) (hw : X.w = c.w) (hu : X.A.units + 10 < cLine) : OpR X (compareOp .NotIn) (rInX c true) := by
  rintro pins st σ H y x yv xv Q I ry rx ⟨a, vo, ex, look, fin⟩
  subst ex
  cases rx
  exact x_notIn hu I (look.isA.at_ I).2.2 (look.x I hK hw ry) fun s' I' => ⟨.bl (!vo.isSome), H, I', rfl, fin⟩
theorem set_X (hK : X.K = c.K) (hw : X.w = c.w) (hu : X.A.units + 10 < cLine) : PSet X (rSetX c) := by
  rintro pins st σ H x y v xv yv zv Q I rx ry rz ⟨p, ex, ob, ks, kv, us, k, G, p1, p2, p3, p4, p5, p6, p7, fin⟩
  subst ex
  cases rx
  exact x_setItem hu I hK hw p3 p1 p2 p4 p5 p6 p7 ry rz fun s' o' I' d => ⟨_, I', fin o' d⟩
theorem pe_dnewX (hw : X.w = c.w) : PE X (.Dict [] [] pos) (tDNewX c) := ⟨fun pins s σ H Q I h => by
  have made := I.laid (a := s.heap.objs.size) (o := xdO s.heap.objs.size { cls := .type "dict", data := .dict #[] }) (t' := s.toks) (fun _ _ e => Heap.get?_push_of_some _ e) (Nat.le_refl _) (xd_ok (Heap.get?_push_size _ rfl))
  exact wpAny_Dict_empty ⟨.ref s.heap.objs.size, _, made, rfl, h _ _ (I.hok.fresh (Nat.le_refl _)) (DcO.new I.big)⟩⟩
end
section
variable {X : Cx} {c : Cfg}
/-- {k: v for target in iter if ..}: dd the new dict -/
def tDcX (c : Cfg) (wi : TI) (g : TG) (tt : TT) (tk tv : TE) (vs : List Nat) : TE := fun σ H Q => wi σ H fun J H1 => ∀ dd o0, H1 dd = none → DcO c.w dd o0 [] [] [] → ∃ W : Nat → Nat → Hp → Prop, (∃ m, W 0 m (upd H1 dd (xdO dd o0))) ∧ ∀ i m H, W i m H →
  (J.stop i H ∧ Q (.ref dd) H) ∨ (J.go i H ∧ ∃ Nx : Hp → Prop, (∀ H', Nx H' → ∃ m', m' < m ∧ W (i + 1) m' H') ∧ ∀ x H', J.yld i H x H' → g x (L2.wipe σ vs) H' fun σ2 H2 => L2.wipe σ2 vs = L2.wipe σ vs ∧ tt σ2 H2 fun b H3 =>
    if b = true then tk σ2 H3 fun y H4 => tv σ2 H4 fun z H5 => PutX c H5 dd y z Nx else Nx H3)
/-- what holds ahead of each turn -/
def AtTurn (Y : Cx) (σ0 : L2.St) (fp : List Addr) (tn : Nat → Heap → Prop) (W : Nat → Nat → Hp → Prop) (n : Nat) (s : Shared) : Prop := ∃ i H, Inv Y [] σ0 H s ∧ tn i s.heap ∧ (∀ b ∈ fp, H b = none) ∧ W i n H
/-- the loop of a dict's comprehension, in its own block Y -/
theorem loopX {Y : Cx} (hK : Y.K = c.K) (hw : Y.w = c.w) (hu : Y.A.units + 10 < cLine) (calm : Y.calm = true) (hE : Y.xe = fun _ _ => False) {σ0 : L2.St} {vs : List Nat} {fp : List Addr} {it dd : Addr} {tn : Nat → Heap → Prop} {J : It} {W : Nat → Nat → Hp → Prop} {Qd : Hp → Prop} {R : Result → Shared → Prop}
    {kx vx tg iter : Expr} {ifs : List Expr} {scope : Scope} {pos : Pos} {g : TG} {tt : TT} {tk tv : TE} (T : Turn Y.prog Y.w Y.K tg J fp it tn) (mine : ∀ {σ H s}, Inv Y [] σ H s → (∀ b ∈ fp, H b = none) → ∀ b ∈ fp, FpOk Y [] H b)
    (pg : PG Y tg g) (pt : PTs Y ifs tt) (pk : PE Y kx tk) (pv : PE Y vx tv)
    (turn : ∀ i m H, W i m H → (J.stop i H ∧ Qd H) ∨ (J.go i H ∧ ∃ Nx : Hp → Prop, (∀ H', Nx H' → ∃ m', m' < m ∧ W (i + 1) m' H') ∧ ∀ x H', J.yld i H x H' → g x σ0 H' fun σ2 H2 => L2.wipe σ2 vs = σ0 ∧ tt σ2 H2 fun b H3 =>
      if b = true then tk σ2 H3 fun y H4 => tv σ2 H4 fun z H5 => PutX c H5 dd y z Nx else Nx H3))
    (ends : ∀ H s, Inv Y [] σ0 H s → Qd H → R (.ok .next) s) {n : Nat} {s : Shared} (start : AtTurn Y σ0 fp tn W n s) : codeAny (model Y.prog Y.w) Y.A (.compLoop (.DictComp kx vx [⟨tg, iter, ifs, 0⟩] scope pos) 0 (.ref it) (.ref dd) Y.env) R s := by
  refine compLoop_anyD (AtTurn Y σ0 fp tn W) (fun n s ⟨i, H, inv, at_, free, w⟩ => ?_) n start
  have ok := mine inv free
  have back : ∀ {P : Shared → Prop} {α : Type} {m : Sem α} {Q' : α → Shared → Prop} {E' : Value → Shared → Prop} {s' : Shared}, wpAny (model Y.prog Y.w) Y.A m Q' Y.xe s' → wpAny (model Y.prog Y.w) Y.A m Q' E' s' := fun {P α m Q' E' s'} h =>
    wpAny_mono h (fun _ _ z => z) fun _ _ z => by rw [hE] at z; exact z.elim
  rcases turn i n H w with ⟨stop, fin⟩ | ⟨go, Nx, less, step⟩
  · exact wpAny_mono (T.done Y rfl rfl rfl calm i [] s σ0 H (fun _ _ => False) inv ok at_ stop) (fun r s1 ⟨er, inv1⟩ => by subst er; exact ends H s1 inv1 fin) fun _ _ z => z.elim
  · refine wpAny_mono (T.item Y rfl rfl rfl calm i [] s σ0 H (fun _ _ => False) inv ok at_ go) (fun r s1 ⟨u, er, h1⟩ => ?_) fun _ _ z => z.elim
    subst er
    refine wpAny_mono h1 (fun _ s2 ⟨x, H2, inv2, rx, came, at2, free2⟩ => ?_) fun _ _ z => z.elim
    have locked := inv2.pinned (mine inv2 free2) (T.obj _ _ at2)
    have again : ∀ {σ3 : L2.St} {H3 : Hp} {s3 : Shared}, L2.wipe σ3 vs = σ0 → Inv Y ([] ++ pinsAt fp s2.heap) σ3 H3 s3 → Nx H3 → ∃ m, m < n ∧ AtTurn Y σ0 fp tn W m s3 := fun {σ3 H3 s3} eσ inv3 nx => by
      obtain ⟨m, lt, w3⟩ := less H3 nx
      have stays : ∀ b ∈ fp, ∀ ob, s2.heap.get? b = some ob → s3.heap.get? b = some ob ∧ H3 b = none := fun b hb ob e => by
        have pin := inv3.pin (b, ob) (List.mem_append_right _ (List.mem_append_right _ (mem_pinsAt hb e)))
        exact ⟨pin.1, pin.2.1⟩
      have short := (inv3.unpinned (pins := [])).weak (σ' := σ0) (by rw [← eσ, wipe_length]) fun j v e => (wipe_some (eσ.symm ▸ e)).1
      refine ⟨m, lt, i + 1, H3, short, T.keep _ _ _ at2 fun b hb ob e => (stays b hb ob e).1, fun b hb => ?_, w3⟩
      obtain ⟨ob, e, _⟩ := T.obj _ _ at2 b hb
      exact (stays b hb ob e).2
    refine back (P := fun _ => True) (wpAny_mono (pg.run _ s2 _ H2 x u _ locked rx (step x H2 came)) (fun _ s3 ⟨σ3, H3, inv3, eσ, q3⟩ => ?_) fun _ _ z => z)
    refine back (P := fun _ => True) (wpAny_mono (pt.run _ s3 σ3 H3 _ inv3 q3) (fun b s4 ⟨H4, inv4, q4⟩ => ?_) fun _ _ z => z)
    cases b with
    | false => exact again eσ inv4 q4
    | true =>
      refine back (P := fun _ => True) (wpAny_mono (pk.run _ s4 σ3 H4 _ inv4 q4) (fun yv s5 ⟨y, H5, inv5, ry, q5⟩ => ?_) fun _ _ z => z)
      refine back (P := fun _ => True) (wpAny_mono (pv.run _ s5 σ3 H5 _ inv5 q5) (fun zv s6 ⟨z, H6, inv6, rz, ob, ks, kv, us, k, G, p1, p2, p3, p4, p5, p6, p7, nx⟩ => ?_) fun _ _ z => z)
      exact x_dictSet (X := Y) hu inv6 hK hw p3 p1 p2 p4 p5 p6 p7 ry rz fun s7 o' inv7 d => again eσ inv7 (nx o' d)
/-- an address that is free in the def's context -/
theorem fpOk_free {X : Cx} {pins : List (Addr × Obj)} {H : Hp} {b : Addr} (h : FpOk X pins H b) : (b ∈ X.ex ∨ X.s_0.heap.objs.size ≤ b) ∧ b ≠ X.env.locals ∧ (∀ x c, X.env.cells.lookup x = some c → c ≠ b) ∧ ∀ p ∈ X.pn ++ pins, p.1 ≠ b := by
  obtain ⟨_, a, _, b', c', d⟩ := h
  exact ⟨b', a, c', d⟩
theorem dcx_core (hK : X.K = c.K) (hw : X.w = c.w) (hu : X.A.units + 10 < cLine) {pins : List (Addr × Obj)} {s : Shared} {σ : L2.St} {H : Hp} {Q : VK} {kx vx tg iter : Expr} {ifs : List Expr} {scope : Scope} {own : List (Str × Nat)} {pos pos' : Pos} {wi : TI} {g : TG} {tt : TT} {tk tv : TE} {use : Option (Value → Sem Unit)} {Qf : Value → Shared → Prop}
    (calm : X.calm = true) (nd : X.N.Nodup) (I : Inv X pins σ H s) (hi : PI X tg iter wi) (blk : BlkOk X.N X.env.scope scope own)
    (pg : ∀ (s : Shared) (H : Hp) (C : Addr) (cl : List (Str × Addr)) (fp : List Addr), PG (X.blk s H scope (compEnvC scope cl C X.env) fp) tg g) (pt : ∀ (s : Shared) (H : Hp) (C : Addr) (cl : List (Str × Addr)) (fp : List Addr), PTs (X.blk s H scope (compEnvC scope cl C X.env) fp) ifs tt)
    (pk : ∀ (s : Shared) (H : Hp) (C : Addr) (cl : List (Str × Addr)) (fp : List Addr), PE (X.blk s H scope (compEnvC scope cl C X.env) fp) kx tk) (pv : ∀ (s : Shared) (H : Hp) (C : Addr) (cl : List (Str × Addr)) (fp : List Addr), PE (X.blk s H scope (compEnvC scope cl C X.env) fp) vx tv)
    (plain : ∀ x, foldedSetIterable iter X.env x = pure x) (h : tDcX c wi g tt tk tv (own.map (·.2)) σ H Q)
    (leave : ∀ D C s' m H', Inv X pins σ H' s' → Q (.ref D) H' → s'.heap.Ns C m → FpOk X pins H' C → compPost (model X.prog X.w) X.A X.xe use Qf (.ref D) C (.ok .next) s') :
    wpAny (model X.prog X.w) X.A (comprehension (.DictComp kx vx [⟨tg, iter, ifs, 0⟩] scope pos) scope X.env pos' newDict false (eval iter X.env) use) Qf X.xe s := by
  have free : ∀ y ∈ scope.names, y.2 = .free → ∃ c, X.env.cells.lookup y.1 = some c := fun y hy e => (blk.free y hy e).elim (fun k => I.ok.has _ (.inl k)) fun k => I.ok.has _ (.inr k)
  refine wpAny_comprehension_free (use := use) rfl plain (closure_ok free) blk.kind (fun y hy e => e ▸ blk.uniq y hy) (thn (hi.run pins s σ H _ I h) fun xv s1 come => thn come fun iv s2 h2 => ?_)
  obtain ⟨it, fp, tn, J, H2, ev, I2, T, at2, mine2, rest⟩ := h2
  subst ev
  refine wpAny_newObj_type (newEnv_comp ?_)
  -- the new dict at D, tracked
  obtain ⟨D, eD⟩ : ∃ D, D = s2.heap.objs.size := ⟨_, rfl⟩
  rw [← eD]
  have dc : DcO c.w D { cls := .type "dict", data := .dict #[] } [] [] [] := eD ▸ DcO.new I2.big
  obtain ⟨o0, eo⟩ : ∃ o0 : Obj, o0 = { cls := .type "dict", data := .dict #[] } := ⟨_, rfl⟩
  rw [← eo] at dc
  have noD : H2 D = none := I2.hok.fresh (Nat.le_of_eq eD.symm)
  obtain ⟨W, ⟨n0, w0⟩, turn⟩ := rest D o0 noD dc
  obtain ⟨s3, e3⟩ : ∃ s3 : Shared, s3 = { s2 with heap := s2.heap.push { cls := .type "dict", data := .dict #[] } } := ⟨_, rfl⟩
  have I3 : Inv X pins σ (upd H2 D (xdO D o0)) s3 := by
    rw [e3]
    exact I2.laid (t' := s2.toks) (fun _ _ e => Heap.get?_push_of_some _ e) (Nat.le_of_eq eD.symm) (by rw [eo, eD]; exact xd_ok (Heap.get?_push_size _ rfl))
  have kept3 : ∀ b ob, s2.heap.get? b = some ob → s3.heap.get? b = some ob := fun b ob e => by rw [e3]; exact Heap.get?_push_of_some _ e
  have low : ∀ b ∈ fp, b < s2.heap.objs.size := fun b hb => let ⟨_, e, _⟩ := T.obj _ _ at2 b hb; Heap.lt_size e
  have mine3 : ∀ b ∈ fp, FpOk X pins (upd H2 D (xdO D o0)) b ∧ b < s3.heap.objs.size := fun b hb => by
    have lt := low b hb
    refine ⟨⟨?_, (mine2 b hb).2⟩, ?_⟩
    · rw [upd_ne (by rw [eD]; exact Nat.ne_of_lt lt)]
      exact (mine2 b hb).1
    · rw [e3, Heap.size_push]
      exact Nat.lt_succ_of_lt lt
  have at3 : tn 0 s3.heap := T.keep _ _ _ at2 fun b _ => kept3 b
  -- the block
  have I4 := block_start I3 blk nd mine3
  have pg := pg s3 (upd H2 D (xdO D o0)) s3.heap.objs.size (cellsFrom (s3.heap.objs.size + 1) scope.names (cloFrom X.env.cells scope.names [])) fp
  have pt := pt s3 (upd H2 D (xdO D o0)) s3.heap.objs.size (cellsFrom (s3.heap.objs.size + 1) scope.names (cloFrom X.env.cells scope.names [])) fp
  have pk := pk s3 (upd H2 D (xdO D o0)) s3.heap.objs.size (cellsFrom (s3.heap.objs.size + 1) scope.names (cloFrom X.env.cells scope.names [])) fp
  have pv := pv s3 (upd H2 D (xdO D o0)) s3.heap.objs.size (cellsFrom (s3.heap.objs.size + 1) scope.names (cloFrom X.env.cells scope.names [])) fp
  rw [← e3]
  obtain ⟨s4, e4⟩ : ∃ s4 : Shared, s4 = { s3 with heap := pushCells (s3.heap.push { cls := .type "dict", data := .dict #[] }) scope.names } := ⟨_, rfl⟩
  rw [← e4] at I4
  have at4 : tn 0 s4.heap := T.keep _ _ _ at3 fun b _ ob e => by rw [e4]; exact pushCells_keeps _ _ _ _ (Heap.get?_push_of_some _ e)
  obtain ⟨Y, eY⟩ : ∃ Y : Cx, Y = X.blk s3 (upd H2 D (xdO D o0)) scope (compEnvC scope (cellsFrom (s3.heap.objs.size + 1) scope.names (cloFrom X.env.cells scope.names [])) s3.heap.objs.size X.env) fp := ⟨_, rfl⟩
  rw [← eY] at I4 pg pt pk pv
  have loc : Y.env.locals = s3.heap.objs.size := by rw [eY]; rfl
  have run : codeAny (model X.prog X.w) X.A (.compLoop (.DictComp kx vx [⟨tg, iter, ifs, 0⟩] scope pos) 0 (.ref it) (.ref D) Y.env) (compPost (model X.prog X.w) X.A X.xe use Qf (.ref D) s3.heap.objs.size) s4 := by
    have key := loopX (Y := Y) (c := c) (σ0 := L2.wipe σ (own.map (·.2))) (vs := own.map (·.2)) (fp := fp) (it := it) (dd := D) (tn := tn) (J := J) (W := W) (Qd := Q (.ref D)) (R := compPost (model X.prog X.w) X.A X.xe use Qf (.ref D) s3.heap.objs.size) (kx := kx) (vx := vx) (iter := iter) (scope := scope) (pos := pos) (n := n0) (s := s4)
      (by rw [eY]; exact hK) (by rw [eY]; exact hw) (by rw [eY]; exact hu) (by rw [eY]; exact calm) (by rw [eY]) (by rw [eY]; exact T) ?_ pg pt pk pv turn ?_ ⟨0, _, I4, at4, fun b hb => (mine3 b hb).1.1, w0⟩
    · rw [eY] at key ⊢
      exact key
    · intro σ5 H5 s5 I5 no b hb
      rw [eY] at I5 ⊢
      exact ⟨no b hb, (I5.ok.exf b hb).1, I5.ok.exfs b hb, .inl hb, fun x c e => (I5.ok.exf b hb).2 x c e, fun p hp => absurd (show p ∈ ([] : List (Addr × Obj)) ++ [] from hp) (by simp)⟩
    · intro H5 s5 I5 fin
      obtain ⟨m, ns, _⟩ := id I5.loc
      have noC := I5.free
      rw [loc] at ns noC
      rw [eY] at I5
      exact leave D s3.heap.objs.size s5 m H5 (I3.call' (ch := fp) I5.os I5.base I5.hok I5.bare fun b hb => fpOk_free (mine3 b hb).1) fin ns (I3.fpOk (Nat.le_refl _) noC)
  have whole := codeAny_compStart_dict run (T.self X.A 0 _ _ _ at4 run)
  rw [eY, e4] at whole
  exact whole
end
end Fx
/-! dicts on data -/
namespace Fx
open PySem PySem.Spec PyProof.Rows L2
open C8 (Cal Mak pe_c pe_mk)
theorem dcx_it {c : Cfg} {J : It} {n : Nat} {G : Hp → Prop} {Y : Nat → Hp → V → Hp → Prop} (w : Walk J n G Y) {g : TG} {tt : TT} {tk tv : TE} {vs : List Nat} {σ : L2.St} {H1 : Hp} {dd : Addr} {o0 : Obj} {Qd : Hp → Prop} (Pv : Nat → Hp → Prop) (h0 : Pv 0 (upd H1 dd (xdO dd o0))) (hG : ∀ i H, i ≤ n → Pv i H → G H)
    (hs : ∀ i x H H', i < n → Pv i H → Y i H x H' → g x (L2.wipe σ vs) H' fun σ2 H2 => L2.wipe σ2 vs = L2.wipe σ vs ∧ tt σ2 H2 fun b H3 =>
      if b = true then tk σ2 H3 fun y H4 => tv σ2 H4 fun z H5 => PutX c H5 dd y z (Pv (i + 1)) else Pv (i + 1) H3) (hd : ∀ H, Pv n H → Qd H) :
    ∃ W : Nat → Nat → Hp → Prop, (∃ m, W 0 m (upd H1 dd (xdO dd o0))) ∧ ∀ i m H, W i m H →
      (J.stop i H ∧ Qd H) ∨ (J.go i H ∧ ∃ Nx : Hp → Prop, (∀ H', Nx H' → ∃ m', m' < m ∧ W (i + 1) m' H') ∧ ∀ x H', J.yld i H x H' → g x (L2.wipe σ vs) H' fun σ2 H2 => L2.wipe σ2 vs = L2.wipe σ vs ∧ tt σ2 H2 fun b H3 =>
        if b = true then tk σ2 H3 fun y H4 => tv σ2 H4 fun z H5 => PutX c H5 dd y z Nx else Nx H3) := by
  refine ⟨fun i m H => m = n - i ∧ i ≤ n ∧ Pv i H, ⟨n, by simp, Nat.zero_le _, h0⟩, ?_⟩
  rintro i m H ⟨rfl, hi, p⟩
  have q := hG i H hi p
  by_cases hlt : i < n
  · refine .inr ⟨w.goes i H hlt q, Pv (i + 1), fun H' p' => ⟨n - (i + 1), by omega, rfl, hlt, p'⟩, fun x H' y => hs i x H H' hlt p (w.yields i H x H' hlt q y)⟩
  · have e : i = n := by omega
    subst e
    exact .inl ⟨w.stops H q, hd H p⟩
/-! ### reads -/
def gDget : D → D → Option S
  | .dct ks ds, k => if homog ks k then (look ks k ds).bind ok1 else none
  | .dcq ks ds, k => if homog ks k then (look ks k ds).bind ok1 else none
  | _, _ => none
def gInD (neg : Bool) : D → D → Option S
  | k, .dct ks _ => if homog ks k then ok1 (.bl (if neg then !hasKey ks k else hasKey ks k)) else none
  | _, _ => none
/-- a name that holds a dict, whether it may still be changed or not -/
def isDc : D → Bool
  | .dct _ _ => true
  | .dcq _ _ => true
  | _ => false
def peekD (ρ : En) (i : Nat) : Bool := match peek ρ i with
  | some x => isDc x
  | none => false
section
variable {c : Cfg} {B : Base} {W : WX} {ts : En} {vs : List (Option V)} {ρ : En} {σ : L2.St} {H : Hp} {ta tb tx : TE} {fa fb fx : M S} {i : Nat}
theorem look_rp {G : Hp} {us : List V} {ds ks : List D} {k x : D} (ka : RpAll c G us ds) (e : look ks k ds = some x) : ∃ v, look ks k us = some v ∧ Rp c G v x := by
  unfold look at e ⊢
  cases h : keyAt ks k with
  | none => rw [h] at e; cases e
  | some j =>
    rw [h] at e
    exact ka.get e
theorem look_no {G : Hp} {us : List V} {ds ks : List D} {k : D} (ka : RpAll c G us ds) (e : look ks k ds = none) : look ks k us = none := by
  unfold look at e ⊢
  cases h : keyAt ks k with
  | none => rfl
  | some j =>
    rw [h] at e
    have e : ds[j]? = none := e
    show us[j]? = none
    rw [List.getElem?_eq_none_iff] at e ⊢
    rw [ka.length]
    exact e
/-- a dict at a, either of its two forms -/
def DcAt (c : Cfg) (G H : Hp) (a : Addr) (ks ds : List D) : Prop := (∃ kvs : List (Key × V), H a = some (.dK kvs) ∧ ks = kvs.map (fun p => keyD p.1) ∧ RpAll c G (kvs.map (·.2)) ds) ∨ ∃ o kv us, H a = some (xdO a o) ∧ DcO c.w a o ks kv us ∧ RpAll c G kv ks ∧ RpAll c G us ds
theorem Rp.dcE {G : Hp} {v : V} {ks ds : List D} (s : ∀ a o, G a = some o → H a = some o) (h : Rp c G v (.dct ks ds)) : ∃ a, v = .ref a ∧ DcAt c G H a ks ds := by
  cases h with
  | @dcx a o kv us _ _ ha hd k1 k2 => exact ⟨a, rfl, .inr ⟨o, kv, us, s _ _ ha, hd, k1, k2⟩⟩
theorem DcAt.isA {G : Hp} {a : Addr} {ks ds : List D} (h : DcAt c G H a ks ds) : IsA c H a := by
  rcases h with ⟨kvs, ha, _⟩ | ⟨o, kv, us, ha, hd, _⟩
  · exact .inr ⟨kvs, ha⟩
  · exact .inl ⟨o, ks, kv, us, ha, hd⟩
theorem Rp.dqE {G : Hp} {v : V} {ks ds : List D} (s : ∀ a o, G a = some o → H a = some o) (h : Rp c G v (.dcq ks ds)) : ∃ a, v = .ref a ∧ DcAt c G H a ks ds := by
  cases h with
  | @dct a kvs _ ha ka => exact ⟨a, rfl, .inl ⟨kvs, s _ _ ha, rfl, ka⟩⟩
/-- what is found -/
inductive OptRp (c : Cfg) (G : Hp) : Option V → Option D → Prop
  | none : OptRp c G none none
  | some {v : V} {x : D} : Rp c G v x → OptRp c G (some v) (some x)
theorem valV_none {kvs : List (Key × V)} {k : Key} (e : keyAt (kvs.map fun p => keyD p.1) (keyD k) = none) : valV kvs k = none := by
  refine valV_no ?_
  have := any_idx (p := keyEq (keyD k)) (l := kvs.map fun p => keyD p.1)
  unfold keyAt at e
  rw [e] at this
  exact this
theorem keyAt_lt {ks : List D} {k : D} {j : Nat} (e : keyAt ks k = some j) : j < ks.length := (List.findIdx?_eq_some_iff_findIdx_eq.mp e).1
theorem DcAt.find {G : Hp} {a : Addr} {ks ds : List D} {w : V} {k : D} (s : ∀ a o, G a = some o → H a = some o) (h : DcAt c G H a ks ds) (h2 : Rp c G w k) (hm : homog ks k = true) :
    ∃ vo, LookA c H a w vo ∧ OptRp c G vo (look ks k ds) ∧ vo.isSome = hasKey ks k := by
  have hs : ∀ (n : Nat) (l : List D), l.length = ks.length → (look ks k l).isSome = hasKey ks k := by
    intro n l hl
    unfold look hasKey
    rw [any_idx]
    show ((keyAt ks k).bind fun i => l[i]?).isSome = (keyAt ks k).isSome
    cases e : keyAt ks k with
    | none => rfl
    | some i =>
      have hi := keyAt_lt e
      show (l[i]?).isSome = true
      rw [List.getElem?_eq_getElem (by omega)]
      rfl
  rcases h with ⟨kvs, ha, rfl, ka⟩ | ⟨o, kv, us, ha, hd, k1, k2⟩
  · have hl : ds.length = (kvs.map fun p => keyD p.1).length := by rw [← ka.length, List.length_map, List.length_map]
    have hs' := hs 0 ds hl
    unfold homog at hm
    rw [Bool.or_eq_true, Bool.and_eq_true, Bool.and_eq_true] at hm
    have real : isKey k = true → ∃ vo, LookA c H a w vo ∧ OptRp c G vo (look (kvs.map fun p => keyD p.1) k ds) ∧ vo.isSome = hasKey (kvs.map fun p => keyD p.1) k := by
      intro hk
      obtain ⟨k0, rfl, rfl⟩ := key_of h2 hk
      refine ⟨valV kvs k0, .inr (.inl ⟨kvs, k0, ha, rfl, rfl⟩), ?_, ?_⟩
      · cases e : look (kvs.map fun p => keyD p.1) (keyD k0) ds with
        | none =>
          have : keyAt (kvs.map fun p => keyD p.1) (keyD k0) = none := by
            unfold Fx.look at e
            cases ei : keyAt (kvs.map fun p => keyD p.1) (keyD k0) with
            | none => rfl
            | some j =>
              rw [ei] at e
              have hj := keyAt_lt ei
              have e : ds[j]? = none := e
              rw [List.getElem?_eq_getElem (by omega)] at e
              cases e
          rw [valV_none this]
          exact .none
        | some x =>
          unfold Fx.look at e
          cases ei : keyAt (kvs.map fun p => keyD p.1) (keyD k0) with
          | none => rw [ei] at e; cases e
          | some j =>
            rw [ei] at e
            obtain ⟨u, e1, e2⟩ := valV_at ka ei e
            rw [e1]
            exact .some e2
      · rw [← valV_any, ← any_map2 (p := keyEq (keyD k0)) (l1 := kvs.map fun p => keyD p.1) (q := fun kv : Key × V => decide (kv.1 = k0)) (l2 := kvs)]
        · rfl
        · rw [List.map_map]
          apply List.map_congr_left
          intro p _
          show keyEq (keyD k0) (keyD p.1) = _
          rw [keyEq_keyD]
          by_cases e : p.1 = k0
          · rw [decide_eq_true e, decide_eq_true e.symm]
          · rw [decide_eq_false e, decide_eq_false fun z => e z.symm]
    rcases hm with hm | hm
    · exact real hm.1
    · cases kvs with
      | nil => exact ⟨none, .inr (.inr ⟨ha, ⟨G, k, s, h2, hm.1⟩, rfl⟩), .none, rfl⟩
      | cons p r =>
        have := hm.2
        rw [List.map_cons, List.all_cons, key_notT] at this
        cases this
  · refine ⟨Fx.look ks k us, .inl ⟨o, ks, kv, us, k, G, ha, hd, s, k1, h2, hm, rfl⟩, ?_, hasKey_look hd⟩
    cases e : Fx.look ks k ds with
    | none => rw [look_no k2 e]; exact .none
    | some x =>
      obtain ⟨u, e1, e2⟩ := look_rp k2 e
      rw [e1]
      exact .some e2
theorem den_dget (ha : Den c W ta fa) (hb : Den c W tb fb) : Den c W (tOp (rGetX c) ta tb) (mOp gDget fa fb) := fun B ts vs ρ σ H Q r q => by
  unfold mOp at q
  rw [post_then] at q
  refine ha.dv r (q.imp1 fun x ρ1 q v H1 r1 => ?_)
  rw [post_then] at q
  refine hb.dv r1 (q.imp (fun y ρ2 q w H2 r2 => ?_) fun _ _ h => h.drop)
  have q : Post (OkP c B ts vs σ Q) (ErrP c W B ts vs σ) (match gDget x y with
    | some s => .ok s ρ2
    | none => .stuck) := q
  cases x with
  | dct ks ds =>
    cases e : gDget (.dct ks ds) y with
    | none => rw [e] at q; exact q.elim
    | some s =>
      rw [e] at q
      have e : (if homog ks y then (look ks y ds).bind ok1 else none) = some s := e
      split at e
      · rename_i hm
        obtain ⟨G, O, h1, h2⟩ := r2.two
        obtain ⟨a, rfl, g⟩ := h1.dcE O.sub
        obtain ⟨vo, g1, g2, _⟩ := g.find O.sub h2 hm
        cases el : look ks y ds with
        | none => rw [el] at e; cases e
        | some z =>
          rw [el] at e g2
          cases e
          cases g2 with
          | some hu => exact ⟨a, _, rfl, g1, q _ _ (O.val hu)⟩
      · cases e
  | dcq ks ds =>
    cases e : gDget (.dcq ks ds) y with
    | none => rw [e] at q; exact q.elim
    | some s =>
      rw [e] at q
      have e : (if homog ks y then (look ks y ds).bind ok1 else none) = some s := e
      split at e
      · rename_i hm
        obtain ⟨G, O, h1, h2⟩ := r2.two
        obtain ⟨a, rfl, g⟩ := h1.dqE O.sub
        obtain ⟨vo, g1, g2, _⟩ := g.find O.sub h2 hm
        cases el : look ks y ds with
        | none => rw [el] at e; cases e
        | some z =>
          rw [el] at e g2
          cases e
          cases g2 with
          | some hu => exact ⟨a, _, rfl, g1, q _ _ (O.val hu)⟩
      · cases e
  | _ => exact q.elim
/-- the dict that a name holds -/
theorem Rep.dctAt {x : D} {ks ds : List D} (e : peek ρ i = some x) (hx : x = .dct ks ds ∨ x = .dcq ks ds) (r : Rep c B ts vs ρ σ H) : ∃ a G o1 o2, σ[i]? = some (some (.ref a)) ∧ OkB c B G H (o1 ++ o2) ∧ Sl c B G H ts vs o1 ∧ Sl c B G H ρ σ o2 ∧ DcAt c G H a ks ds := by
  unfold peek at e
  obtain ⟨G, o1, o2, k, h1, h2⟩ := r
  split at e
  · rename_i x e1
    cases e
    obtain ⟨v, ev, hv⟩ := h2.getD e1
    rcases hx with rfl | rfl
    · obtain ⟨a, rfl, g⟩ := hv.dcE k.sub
      exact ⟨a, G, o1, o2, ev, k, h1, h2, g⟩
    · obtain ⟨a, rfl, g⟩ := hv.dqE k.sub
      exact ⟨a, G, o1, o2, ev, k, h1, h2, g⟩
  · rename_i b x e1
    cases e
    obtain ⟨a, ev, hc, _, _⟩ := h2.getO e1
    rcases hx with rfl | rfl
    · exact ⟨a, G, o1, o2, ev, k, h1, h2, .inr hc⟩
    · exact hc.elim
  · cases e
theorem peekD_at (h : peekD ρ i = true) (r : Rep c B ts vs ρ σ H) : ∃ a, σ[i]? = some (some (.ref a)) := by
  unfold peekD at h
  cases e : peek ρ i with
  | none => rw [e] at h; cases h
  | some x =>
    rw [e] at h
    cases x <;> first | cases h | skip
    · obtain ⟨a, _, _, _, ev, _⟩ := r.dctAt e (.inl rfl)
      exact ⟨a, ev⟩
    · obtain ⟨a, _, _, _, ev, _⟩ := r.dctAt e (.inr rfl)
      exact ⟨a, ev⟩
/-- x in d, d a name -/
def mInN (neg : Bool) (fa : M S) (i : Nat) : M S := fun ρ => (dv fa ρ).then fun y ρ1 => match peek ρ1 i with
  | some x => match gInD neg y x with
    | some s => .ok s ρ1
    | none => .stuck
  | none => .stuck
theorem den_inN {neg : Bool} (ha : Den c W ta fa) : Den c W (tOp (rInX c neg) ta (tVar i)) (mInN neg fa i) := fun B ts vs ρ σ H Q r q => by
  unfold mInN at q
  rw [post_then] at q
  refine ha.dv r (q.imp1 fun y ρ1 q w H1 r1 => ?_)
  cases e1 : peek ρ1 i with
  | none => rw [e1] at q; exact q.elim
  | some x =>
    rw [e1] at q
    have q : Post (OkP c B ts vs σ Q) (ErrP c W B ts vs σ) (match gInD neg y x with
      | some s => .ok s ρ1
      | none => .stuck) := q
    cases x with
    | dct ks ds =>
      cases e : gInD neg y (.dct ks ds) with
      | none => rw [e] at q; exact q.elim
      | some s =>
        rw [e] at q
        have e : (if homog ks y then ok1 (.bl (if neg then !hasKey ks y else hasKey ks y)) else none) = some s := by cases y <;> exact e
        split at e
        · rename_i hm
          cases e
          obtain ⟨a, G, o1, o2, ev, kk, h1, h2, g⟩ := r1.dctAt e1 (.inl rfl)
          cases h1 with
          | d hy h1 =>
            obtain ⟨vo, g1, g2, g3⟩ := g.find kk.sub hy hm
            exact ⟨.ref a, ev, a, vo, rfl, g1, by rw [g3]; exact q _ _ ⟨G, o1, o2, kk, .d (.bl _) h1, h2⟩⟩
        · cases e
    | _ => cases y <;> exact q.elim
end
end Fx
/-! tuple(d) of a dict -/
/-! dicts on data: get, store, new, comprehension, len, truth, walks, list(d), tuple(d), list(d.values()) -/
namespace Fx
open PySem PySem.Spec PyProof.Rows L2
open PySem.W (KdlSrc kdl_call)
open C8 (Cal Mak pe_c pe_mk)
/-- a dict whose keys and values are known -/
def WholeX (c : Cfg) (H : Hp) (a : Addr) (o : Obj) (ks : List D) (kv us : List V) : Prop := H a = some (xdO a o) ∧ DcO c.w a o ks kv us ∧ ∃ G : Hp, (∀ a o, G a = some o → H a = some o) ∧ RpAll c G kv ks
section
variable {X : Cx} {pins : List (Addr × Obj)} {σ : L2.St} {H : Hp} {s : Shared} {c : Cfg} {a : Addr} {o : Obj} {ks : List D} {kv us : List V}
theorem WholeX.raw (I : Inv X pins σ H s) (hK : X.K = c.K) (hw : X.w = c.w) (h : WholeX c H a o ks kv us) : s.heap.get? a = some o ∧ (a == sysModules) = false ∧ o.ExactDict ∧ ks.length ≤ sizeLine ∧ ∃ es ep, o.data = .dict es ep ∧ s.heap.DictRaw a es ep ∧ Vals kv (es.toList.map (·.key)) ∧ Vals us (es.toList.map (·.val)) ∧ es.size = ks.length := by
  obtain ⟨h1, h2, G, h3, h4⟩ := h
  exact ⟨xd_get I h1, h2.sys, h2.exact, h2.len, h2.raw I hK hw h3 h1 h4⟩
/-! ### for k in d -/
end
end Fx
/-! dicts on data: the rules that gen2 prints -/
namespace Fx
open PySem PySem.Spec PyProof.Rows L2
open C8 (Cal Mak pe_c pe_mk)
/-! ### k in d, d.get -/
/-- d[k] = v -/
def gmItemD (i : Nat) (fe : M S) : D → M Unit := fun x ρ => if peekD ρ i then (dv fe ρ).then fun y ρ1 => match ρ1[i]? with
    | some (some (.o b (.dct ks ds))) => if homog ks y && small (ks.length + 1) then .ok () (ρ1.set i (some (.o b (.dct (putKs ks y ks y) (putVs ks y ds x))))) else .stuck
    | _ => .stuck
  else .stuck
def mDnew : M S := fun ρ => .ok (.o none (.dct [] [])) ρ
section
variable {c : Cfg} {W : WX} {B : Base} {ts : En} {vs : List (Option V)} {ρ : En} {σ : L2.St} {H : Hp} {te ta tb tx : TE} {fe fa fb fx : M S} {i : Nat}
theorem OptRp.getD {G : Hp} {vo : Option V} {xo : Option D} {v : V} {x : D} (h : OptRp c G vo xo) (hx : Rp c G v x) : Rp c G (vo.getD v) (xo.getD x) := by
  cases h with
  | none => exact hx
  | some h => exact h
theorem dct_cell {o : Obj} {ks : List D} {kv us : List V} {w : World} {a : Addr} (d : DcO w a o ks kv us) : isCell (xdO a o) := by
  obtain ⟨es, ep, e⟩ := d.dat
  exact .xd _ _ _ _ e
theorem dg_itemD (h : Den c W te fe) : DenG c W (gSub (tVar i) te (rSetX c)) (gmItemD i fe) [] := fun B ts vs ρ σ H x v Q r q => by
  unfold gmItemD at q
  split at q
  · rename_i hp
    obtain ⟨a, ev⟩ := peekD_at hp r
    rw [post_then] at q
    refine ⟨.ref a, ev, h.dv r (q.imp (fun y ρ1 q1 w H1 r1 => ?_) fun _ _ h => h.drop.toP)⟩
    split at q1
    · rename_i b ks ds e1
      split at q1
      · rename_i hz
        rw [Bool.and_eq_true] at hz
        obtain ⟨hm, hz⟩ := hz
        obtain ⟨G, o1, o2, kk, h1, h2⟩ := id r1
        obtain ⟨a', ev', ⟨o, kv, us, ha, hd, k1, k2⟩, hmem, hb⟩ := h2.getO e1
        rw [ev] at ev'
        cases ev'
        cases h1 with
        | d hw h1 =>
          cases h1 with
          | d hv h1 =>
            have nd := kk.nd
            rw [List.nodup_append] at nd
            have hz := small_line hz
            refine ⟨a, rfl, o, ks, kv, us, y, G, ha, hd, kk.sub, k1, hw, hm, by omega, fun o' d' => q1 σ _ ⟨rfl, fun _ _ => rfl⟩ ?_⟩
            exact ⟨G, o1, o2, kk.write (List.mem_append_right _ hmem) ha (dct_cell hd), h1.mono (fun _ _ e => e) fun q hq => upd_ne fun z => nd.2.2 q hq a hmem z, h2.write nd.2.1 e1 ev (fun q hq => upd_ne hq) ⟨o', _, _, upd_same, d', k1.put hw, k2.putV hv⟩⟩
      · exact q1.elim
    · exact q1.elim
  · exact q.elim
theorem den_dnew : Den c W (tDNewX c) mDnew := fun B ts vs ρ σ H Q r q p o hp d => q _ _ (Rep.newO (ds := []) (us := []) r rfl hp fun G H' e _ => ⟨o, [], [], e, d, .nil, .nil⟩)
end
end Fx
/-! dicts on data: comprehensions; the rules that gen2 prints -/
namespace Fx
open PySem PySem.Spec PyProof.Rows L2
open C8 (Cal Mak pe_c pe_mk)
open PySem.W (KdlSrc kdl_call)
section
variable {c : Cfg} {B : Base} {W : WX} {ts : En} {vs : List (Option V)} {ρ : En} {σ : L2.St} {H : Hp}
theorem Rep.insX {st : List D} {sv : List V} {p : Addr} {o : Obj} (hl : sv.length = st.length) (r : Rep c B (tmp st ++ ts) (tmv sv ++ vs) ρ σ H) (hp : H p = none) (d : DcO c.w p o [] [] []) :
    Rep c B (tmp st ++ (some (.o none (.dct [] [])) :: ts)) (tmv sv ++ (some (.ref p) :: vs)) ρ σ (upd H p (xdO p o)) := by
  obtain ⟨G, o1, o2, k, h1, h2⟩ := r
  obtain ⟨a1, a2⟩ := h1.tmp hl
  have ow := own_new (o := xdO p o) k hp
  exact ⟨G, p :: o1, o2, k.allocO hp, a1.tmpS (.o ⟨o, [], [], upd_same, d, .nil, .nil⟩ (fun _ e => nomatch e) (a2.mono (fun _ _ e => e) fun q hq => ow q (List.mem_append_left _ hq))), h2.mono (fun _ _ e => e) fun q hq => ow q (List.mem_append_right _ hq)⟩
theorem Rep.putX {st ks ds : List D} {sv : List V} {p : Addr} {y k : D} {v w : V} (hl : sv.length = st.length) (hm : homog ks k = true) (hz : ks.length < sizeLine) (r : Rep c B (some (.d y) :: some (.d k) :: (tmp st ++ (some (.o none (.dct ks ds)) :: ts))) (some v :: some w :: (tmv sv ++ (some (.ref p) :: vs))) ρ σ H) {Nx : Hp → Prop}
    (q : ∀ H', Rep c B (tmp st ++ (some (.o none (.dct (putKs ks k ks k) (putVs ks k ds y))) :: ts)) (tmv sv ++ (some (.ref p) :: vs)) ρ σ H' → Nx H') : PutX c H p w v Nx := by
  obtain ⟨G, o1, o2, k', h1, h2⟩ := r
  cases h1 with
  | d hv h1 =>
    cases h1 with
    | d hw h1 =>
      obtain ⟨a1, a2⟩ := h1.tmp hl
      cases a2 with
      | @o _ _ _ _ _ own hc hb a2 =>
        obtain ⟨o, kv, us, e, hd, k1, k2⟩ := hc
        have nd := k'.nd
        rw [List.cons_append, List.nodup_cons] at nd
        refine ⟨o, ks, kv, us, k, G, e, hd, k'.sub, k1, hw, hm, hz, fun o' d' => q _ ?_⟩
        have ne : ∀ q ∈ own ++ o2, upd H p (xdO p o') q = H q := fun q hq => upd_ne fun z => nd.1 (z ▸ hq)
        exact ⟨G, p :: own, o2, k'.write (List.mem_append_left _ List.mem_cons_self) e (dct_cell hd), a1.tmpS (.o ⟨o', _, _, upd_same, d', k1.put hw, k2.putV hv⟩ hb (a2.mono (fun _ _ e => e) fun q hq => ne q (List.mem_append_left _ hq))), h2.mono (fun _ _ e => e) fun q hq => ne q (List.mem_append_right _ hq)⟩
end
def mDComp (gm : D → M Unit) (ft : M Bool) (fk fv : M S) (own : List Nat) : List D → List D → List D → En → Out (List D × List D)
  | [], ks, ds, ρ => .ok (ks, ds) ρ
  | x :: xs, ks, ds, ρ => (gm x ρ).calm.then fun _ ρ1 => (ft ρ1).calm.then fun b ρ2 => if b = true then (dv fk ρ2).calm.then fun k ρ3 => (dv fv ρ3).calm.then fun y ρ4 => if homog ks k && small (ks.length + 1) then mDComp gm ft fk fv own xs (putKs ks k ks k) (putVs ks k ds y) (wipeE ρ4 own) else .stuck
    else mDComp gm ft fk fv own xs ks ds (wipeE ρ2 own)
def mDc (fI : M (List D)) (gm : D → M Unit) (ft : M Bool) (fk fv : M S) (own : List Nat) : M S := fun ρ => (fI ρ).then fun items ρ1 => (mDComp gm ft fk fv own items [] [] (wipeE ρ1 own)).then fun p ρ2 => .ok (.o none (.dct p.1 p.2)) ρ2
section
variable {c : Cfg} {W : WX} {wi : TI} {fI : M (List D)} {tk tv : TE} {fk fv : M S} {tt : TT} {ft : M Bool} {g : TG} {gm : D → M Unit} {js own : List Nat}
theorem den_dc (h : DenI c W wi fI) (k : DenG c W0 g gm js) (kt : DenT c W0 tt ft) (kk : Den c W0 tk fk) (kv : Den c W0 tv fv) (hj : ∀ j ∈ js, j ∈ own) : Den c W (tDcX c wi g tt tk tv own) (mDc fI gm ft fk fv own) := fun B ts vs ρ σ H Q r q => by
  unfold mDc at q
  rw [post_then] at q
  refine h B ts vs ρ σ H _ r (q.imp1 fun items ρ1 q J st sv H1 hl r1 w Da o0 hD hnew => ?_)
  obtain ⟨n, Gw, Y, wk, rfl, hG, hY⟩ := w
  rw [post_then] at q
  refine dcx_it wk (fun i H => ∃ ρ ks ds, Rep c B (tmp st ++ (some (.o none (.dct ks ds)) :: ts)) (tmv sv ++ (some (.ref Da) :: vs)) ρ σ H ∧ (∀ v ∈ own, ρ.set v none = ρ) ∧
    Post (fun (p : List Fx.D × List Fx.D) ρ2 => OkP c B ts vs σ Q (.o none (.dct p.1 p.2)) ρ2) (ErrP c W B ts vs σ) (mDComp gm ft fk fv own (items.drop i) ks ds ρ)) ⟨wipeE ρ1 own, [], [], ?_, fun v hv => wipeE_at ρ1 own v hv, q⟩ (fun i H _ ⟨ρ, ks, ds, r, _⟩ => hG _ _ _ _ _ _ r) ?_ ?_
  · exact (Rep.insX hl r1 hD hnew).back rfl
  · rintro i x H1 H2 hi ⟨ρ, ks, ds, r, hw, q⟩ y
    obtain ⟨d, ed, r2⟩ := hY _ _ _ _ _ _ _ _ _ hi r y
    have hd : items.drop i = d :: items.drop (i + 1) := by
      rw [List.drop_eq_getElem_cons hi]
      rw [List.getElem?_eq_getElem hi] at ed
      cases ed
      rfl
    rw [hd] at q
    have q : Post _ _ ((gm d ρ).calm.then fun _ ρ1 => (ft ρ1).calm.then fun b ρ2 => _) := q
    rw [post_then] at q
    have r3 : Rep c B (some (.d d) :: (tmp st ++ (some (.o none (.dct ks ds)) :: ts))) (some x :: (tmv sv ++ (some (.ref Da) :: vs))) ρ (L2.wipe σ own) H2 := by
      have := r2.wipe own
      have e := wipeE_id hw
      rw [e] at this
      exact this
    refine k B _ _ ρ _ H2 d x _ r3 (post_calm (q.imp1 fun _ ρ2 q σ2 H3 o r4 => ?_))
    have eo := Off.wipe hj o
    refine ⟨eo, ?_⟩
    rw [post_then] at q
    refine kt B _ _ ρ2 σ2 H3 _ r4 (post_calm (q.imp1 fun b ρ3 q H4 r5 => ?_))
    cases b with
    | false => exact ⟨wipeE ρ3 own, ks, ds, r5.back eo, fun v hv => wipeE_at ρ3 own v hv, q⟩
    | true =>
      have q : Post _ _ ((dv fk ρ3).calm.then fun k ρ3 => (dv fv ρ3).calm.then fun y ρ4 => _) := q
      rw [post_then] at q
      refine kk.dv r5 (post_calm (q.imp1 fun y ρ4 q v H5 r6 => ?_))
      rw [post_then] at q
      refine kv.dv r6 (post_calm (q.imp1 fun z ρ5 q u H6 r7 => ?_))
      split at q
      · rename_i hz
        rw [Bool.and_eq_true] at hz
        have hz2 := small_line hz.2
        exact Rep.putX hl hz.1 (by omega) r7 fun H' r8 => ⟨wipeE ρ5 own, _, _, r8.back eo, fun v hv => wipeE_at ρ5 own v hv, q⟩
      · exact q.elim
  · rintro H1 ⟨ρ, ks, ds, r, _, q⟩
    rw [List.drop_length] at q
    exact q _ H1 (r.dropN hl)
end
/-! ### list(d.values()) -/
section
variable {X : Cx} {c : Cfg} {W : WX} {tg it kx vx a b e : Expr} {ifs : List Expr} {fI : M (List D)} {g : D → M Unit} {js : List Nat} {ft : M Bool} {fk fv fa fb fe fx : M S} {scope : Scope} {own : List (Str × Nat)} {pos p p2 apos cpos : Pos} {wi : TI} {tgt : TG} {tt : TT} {tk tv ta tb te tx : TE} {kk : Nat} {x : Str}
theorem un10 {A : Around} (hr : Room kk A) : A.units + 10 < cLine := by have := un66 hr; omega
theorem q_dget (hr : Room kk X.A) (hw : X.w = c.w) (ha : QE X c W a ta fa) (hb : QE X c W b tb fb) (hK : X.K = c.K := by rfl) (hs : PlainIx b := by exact fun _ _ => rfl) : QE X c W (.Subscript a b pos) (tOp (rGetX c) ta tb) (mOp gDget fa fb) := by
  obtain ⟨h1, h2⟩ := ha; obtain ⟨k1, k2⟩ := hb
  exact ⟨pe_ix (ix_X hK hw (un10 hr)) h1 k1 hs, den_dget h2 k2⟩
theorem t_ninN (i : Nat) (hr : Room kk X.A) (hw : X.w = c.w) (ha : QE X c W a ta fa) (hN : X.N[i]? = some x := by rfl) (hv : Vis X.env.scope x := by first | exact Or.inl rfl | exact Or.inr (Or.inl rfl) | exact Or.inr (Or.inr rfl)) (hd : (x == ("__debug__" : Str)) = false := by decide)
    (hcd : (x == ("__classdict__" : Str)) = false := by decide) (hK : X.K = c.K := by rfl) (hm : behindInMarks .NotIn (.Name x p) = false := by with_unfolding_all rfl) : QT X c W (.Compare a [.NotIn] [.Name x p] pos) (tTest (tOp (rInX c true) ta (tVar i))) (mTest (mInN true fa i)) := by
  obtain ⟨h1, h2⟩ := ha
  exact ⟨pt_cmpR (op_ninX hK hw (un10 hr)) h1 (pe_var hN hv hd hcd) hm, dt_test (den_inN h2)⟩
theorem g_itemD (i : Nat) (hr : Room kk X.A) (hw : X.w = c.w) (h : QE X c W e te fe) (hN : X.N[i]? = some x := by rfl) (hv : Vis X.env.scope x := by first | exact Or.inl rfl | exact Or.inr (Or.inl rfl) | exact Or.inr (Or.inr rfl)) (hd : (x == ("__debug__" : Str)) = false := by decide)
    (hcd : (x == ("__classdict__" : Str)) = false := by decide) (hK : X.K = c.K := by rfl)
    (ha : ∀ v, assign (.Subscript (.Name x p) e pos) X.env v = (do
      let ov ← holding [v] (eval (.Name x p) X.env)
      let iv ← holding [v, ov] (eval e X.env)
      standAt pos
      holding [v, ov, iv] (setItem ov iv v)
      release [v, ov, iv] []) := by intro _; rfl) : QG X c W (.Subscript (.Name x p) e pos) (gSub (tVar i) te (rSetX c)) (gmItemD i fe) [] := by
  obtain ⟨h1, h2⟩ := h
  exact ⟨pg_sub (pe_var hN hv hd hcd) h1 (set_X hK hw (un10 hr)) ha, dg_itemD h2⟩
theorem q_dnew (hw : X.w = c.w) : QE X c W (.Dict [] [] pos) (tDNewX c) mDnew := ⟨pe_dnewX hw, den_dnew⟩
theorem swD {es : List Comprehension} {py : Pos} {y : Str} {l : Nat} {env : Env} (hf : env.scope.kind = .function) (hy : env.scope.names.lookup y = some .local) (hl : (py.line == pos.line) = true)
    (ha : (scope.names.any fun (n, k) => n == y && (k == .local || k == .cell)) = false) : swapsWith (.DictComp kx vx es scope pos) (some (.Name y py)) l env = pure true := by
  have k1 : env.kindOf y = some .local := hy
  have k2 : env.blockKind = .function := by unfold Env.blockKind; rw [hf]; rfl
  unfold swapsWith
  simp only [k2, k1, ha, Expr.pos, hl]
  rfl
theorem psDX (hK : X.K = c.K) (hw : X.w = c.w) (hu : X.A.units + 10 < cLine) {i : Nat} {y : Str} {py spos : Pos} (calm : X.calm = true) (nd : X.N.Nodup) (at_ : X.N[i]? = some y) (own_ : X.env.scope.names.lookup y = some .local)
    (used : swapsWith (.DictComp kx vx [⟨tg, it, ifs, 0⟩] scope pos) (some (.Name y py)) spos.line X.env = pure true) (hi : PI X tg it wi) (blk : BlkOk X.N X.env.scope scope own)
    (pg : ∀ s H C cl fp, PG (Blk X scope s H C cl fp) tg tgt) (pt : ∀ s H C cl fp, PTs (Blk X scope s H C cl fp) ifs tt) (pk : ∀ s H C cl fp, PE (Blk X scope s H C cl fp) kx tk) (pv : ∀ s H C cl fp, PE (Blk X scope s H C cl fp) vx tv) (plain : ∀ x, foldedSetIterable it X.env x = pure x) :
    PS X (.Assign [.Name y py] (.DictComp kx vx [⟨tg, it, ifs, 0⟩] scope pos) spos) (tAsg (tDcX c wi tgt tt tk tv (own.map (·.2))) (gName i)) := by
  refine ⟨fun pins s σ H D I h => ?_⟩
  have h : tDcX c wi tgt tt tk tv (own.map (·.2)) σ H (fun x H1 => gName i x σ H1 D.nx) := h
  have stored := dcx_core (pos := pos) (Qf := fun _ s' => SP X pins D .next s') (use := some (assign (.Name y py) X.env)) (pos' := firstIterPos [⟨tg, it, ifs, 0⟩] pos) hK hw hu calm nd I hi blk pg pt pk pv plain h fun L C s1 m H1 I1 fin ns ok => by
    obtain ⟨f0, f1, _, f3, f4, f5⟩ := ok
    refine wpAny_assign_Name (store_ok2 (v := V.ref L) I1 nd at_ (.inl own_) rfl (fun s2 I2 ⟨a, same, place⟩ => ?_) (.inr own_))
    have apart : C ≠ a := place.elim (fun z => by rw [z]; exact f1) fun z e => f4 y a z e.symm
    exact ⟨m, ns.sameBut same apart, fun h3 same3 => ⟨_, H1, I2.turned (t' := s2.toks) (fun b ob ne e => (same3.2 b ne).trans e) f0 f1 f3 f4 f5, fin⟩⟩
  rw [exec_Assign_Name_used _ _ _ _ used]
  refine wpAny_bind (wpAny_standAt (wpAny_bind ?_))
  exact wpAny_bind (thn stored fun _ s' done => wpAny_pure (wpAny_pure done))
theorem s_setDc (i : Nat) {y : Str} {py spos : Pos} (hr : Room kk X.A) (hw : X.w = c.w) (hN : X.N.Nodup) (hI : QI X c W tg it wi fI) (hB : BlkOk X.N X.env.scope scope own) (hG : ∀ s H C cl fp, QG (Blk X scope s H C cl fp) c W0 tg tgt g js) (hT : ∀ s H C cl fp, QTs (Blk X scope s H C cl fp) c W0 ifs tt ft)
    (hk : ∀ s H C cl fp, QE (Blk X scope s H C cl fp) c W0 kx tk fk) (hE : ∀ s H C cl fp, QE (Blk X scope s H C cl fp) c W0 vx tv fv) (hj : ∀ j ∈ js, j ∈ own.map (·.2) := by decide) (hc : X.calm = true := by rfl) (hK : X.K = c.K := by rfl) (hi : X.N[i]? = some y := by rfl) (hy : X.env.scope.names.lookup y = some .local := by rfl)
    (hsw : swapsWith (.DictComp kx vx [{ target := tg, iter := it, ifs := ifs, is_async := 0 }] scope pos) (some (.Name y py)) spos.line X.env = pure true := by rfl) (hs : ∀ x, foldedSetIterable it X.env x = pure x := by intro _; rfl) :
    QS X c W (.Assign [.Name y py] (.DictComp kx vx [{ target := tg, iter := it, ifs := ifs, is_async := 0 }] scope pos) spos) (tAsg (tDcX c wi tgt tt tk tv (own.map (·.2))) (gName i)) (mAsg (mDc fI g ft fk fv (own.map (·.2))) (gmName i)) := by
  obtain ⟨h1, h2⟩ := hI
  obtain ⟨s, H, C, cl, fp, g2, t2, k2, e2⟩ := anyPlace c _ fun s H C cl fp => And.intro (hG s H C cl fp).dn (And.intro (hT s H C cl fp).dn (And.intro (hk s H C cl fp).dn (hE s H C cl fp).dn))
  exact ⟨psDX hK hw (un10 hr) hc hN hi hy hsw h1 hB (fun s H C cl fp => (hG s H C cl fp).pe) (fun s H C cl fp => (hT s H C cl fp).pe) (fun s H C cl fp => (hk s H C cl fp).pe) (fun s H C cl fp => (hE s H C cl fp).pe) hs, ds_asg (den_dc h2 g2 t2 k2 e2 hj) dg_name⟩
end
end Fx
/-! sorted of a tuple or a list of pairs of ints -/
namespace PySem
open PySem.Spec PyProof.Rows SrtO
section
variable {prog : Program} {w : World} {A : Around} {E : Value → Shared → Prop} {s : Shared}
/-- the items of a tuple, collected -/
theorem collect_tupF {l : Addr} {vs : List Value} {Q : List Value → Shared → Prop} (hl : s.heap.IsTuple l vs.toArray)
    (h : Q vs { s with heap := (s.heap.push (seqObj "list" #[] 0)).update s.heap.objs.size (Obj.mapSeq (· ++ vs.toArray)) }) (hsz : vs.length ≤ sizeLine) : wpAny (model prog w) A (collect (.ref l)) Q E s := by
  obtain ⟨o, ho, hc, n, hd⟩ := id hl
  unfold collect
  refine wpAny_bind (wpAny_runValue (codeAny_builtin entry_proto_collect' ?_))
  show wpAny _ _ (do again (.builtin "list.__iadd__" ⟨[← newList [], .ref l], []⟩)) _ _ s
  refine wpAny_bind (wpAny_newList (wpAny_pure ⟨Code.quiet_builtin _ (by decide +kernel), codeAny_builtin entry_list_iadd' ?_⟩))
  show wpAny _ _ (Builtin.List.listExtendWith (.ref s.heap.objs.size) (.ref l) (.ref s.heap.objs.size)) _ _ { s with heap := s.heap.push (seqObj "list" #[] 0) }
  unfold Builtin.List.listExtendWith
  have ho' : (s.heap.push (seqObj "list" #[] 0)).get? l = some o := Heap.get?_push_of_some _ ho
  refine wpAny_bind (wpAny_typeOf (T := "tuple") ⟨o, ho', hc⟩ ?_)
  have ht : (Value.type "tuple" == Value.type "tuple") = true := by rfl
  rw [if_pos (by rw [ht]; simp)]
  refine wpAny_bind (listItems_at ho' hd ?_)
  refine wpAny_bind (listItems_at (xs := #[]) (n := 0) (Heap.get?_push_size _ rfl) rfl ?_)
  rw [if_neg (by simp)]
  refine wpAny_bind (listUpdate_at (xs := #[]) (n := 0) (Heap.get?_push_size _ rfl) rfl ?_ (Nat.zero_le _) (by show (#[] ++ vs.toArray).size ≤ sizeLine + 1; simp only [Array.size_append, List.size_toArray, List.length_nil]; omega))
  refine wpAny_pure ?_
  show wpAny (model prog w) A (do
      let o ← load s.heap.objs.size
      match o.data with
      | .seq xs _ => pure xs.toList
      | _ => unsupported "internal:collect") Q E { s with heap := (s.heap.push (seqObj "list" #[] 0)).update s.heap.objs.size (Obj.mapSeq (· ++ vs.toArray)) }
  refine wpAny_bind (wpAny_load (get?_update_seq (Heap.get?_push_size _ rfl) _) ?_)
  show wpAny _ _ (pure ((#[] : Array Value) ++ vs.toArray).toList) Q E _
  rw [show ((#[] : Array Value) ++ vs.toArray).toList = vs by simp]
  exact wpAny_pure h
theorem sorted_ordT {l : Addr} {vs : List Value} {ltv : Value → Value → Bool} {Q : Value → Shared → Prop} (O : Swo ltv) (hl : s.heap.IsTuple l vs.toArray) (hz : vs.length ≤ sizeLine)
    (hS : 2 ≤ vs.length → ∀ (h₁ : Heap) (a : Addr), h₁.get? a = some (seqObj "list" vs.toArray 0) → (∀ b o, s.heap.get? b = some o → b ≠ a ∧ h₁.get? b = some o) → SortableO prog w A.in1.in1 { s with heap := h₁ } a vs ltv)
    (h : ∀ out : List Value, Srtd ltv out → Stb ltv out vs → Q (.ref (s.heap.objs.size + 1)) { s with heap := sortedAll s.heap vs out.toArray }) :
    wpAny (model prog w) A (call (.builtin "sorted") [.ref l]) Q E s := by
  refine Calls.call_function_entry kind_sorted plain_sorted entry_sorted (args_sorted1 _) ?_
  unfold Builtin.«sorted»
  refine wpAny_bind (m := checkCount "sorted" 1 1 _) (wpAny_pure ?_)
  refine wpAny_bind (collect_tupF hl ?_ hz)
  refine wpAny_bind (wpAny_newList ?_ hz)
  have hsz : ((s.heap.push (seqObj "list" #[] 0)).update s.heap.objs.size (Obj.mapSeq (· ++ vs.toArray))).objs.size = s.heap.objs.size + 1 := by
    rw [Heap.size_update, size_push']
  have hoL : (((s.heap.push (seqObj "list" #[] 0)).update s.heap.objs.size (Obj.mapSeq (· ++ vs.toArray))).push (seqObj "list" vs.toArray 0)).get? (s.heap.objs.size + 1) = some (seqObj "list" vs.toArray 0) := by
    rw [← hsz]; exact Heap.get?_push_size _ rfl
  have keep : ∀ b o, s.heap.get? b = some o → b ≠ s.heap.objs.size + 1 ∧ (((s.heap.push (seqObj "list" #[] 0)).update s.heap.objs.size (Obj.mapSeq (· ++ vs.toArray))).push (seqObj "list" vs.toArray 0)).get? b = some o := fun b o q => by
    have hlt : b < s.heap.objs.size := Heap.lt_size q
    refine ⟨Nat.ne_of_lt (Nat.lt_succ_of_lt hlt), Heap.get?_push_of_some _ ?_⟩
    rw [Heap.get?_update_ne _ _ _ _ (Nat.ne_of_lt hlt)]
    exact Heap.get?_push_of_some _ q
  show wpAny _ _ _ _ _ { s with heap := ((s.heap.push (seqObj "list" #[] 0)).update s.heap.objs.size (Obj.mapSeq (· ++ vs.toArray))).push (seqObj "list" vs.toArray 0) }
  rw [hsz]
  refine wpAny_bind (wpAny_holding (wpAny_call_entry slot_list_sort ⟨_, hoL, rfl⟩ entry_list_sort (list_sort_ord O hoL hz (fun h2 => hS h2 _ _ hoL keep) fun out hs hb => ⟨_, rfl, ?_⟩) (args_list_sort _)))
  exact wpAny_pure ⟨_, rfl, h out hs hb⟩
end
end PySem
/-! sorted of a tuple or a list of tuples of ints, none empty, of any lengths -/
namespace PySem
open PySem.Spec PyProof.Rows SrtO
/-- one before another, as tuples of ints are -/
def lexI : List Int → List Int → Bool
  | [], [] => false
  | [], _ :: _ => true
  | _ :: _, [] => false
  | x :: xs, y :: ys => if x = y then lexI xs ys else decide (x < y)
theorem lexI_asym : ∀ {xs ys : List Int}, lexI xs ys = true → lexI ys xs = false
  | [], [], h => by simp [lexI] at h
  | [], _ :: _, _ => rfl
  | _ :: _, [], h => by simp [lexI] at h
  | x :: xs, y :: ys, h => by
    unfold lexI at h ⊢
    by_cases e : x = y
    · rw [if_pos e] at h
      rw [if_pos e.symm]
      exact lexI_asym h
    · rw [if_neg e, decide_eq_true_eq] at h
      rw [if_neg (Ne.symm e), decide_eq_false_iff_not]
      omega
theorem lexI_anti : ∀ {xs ys : List Int}, lexI xs ys = false → lexI ys xs = false → xs = ys
  | [], [], _, _ => rfl
  | [], _ :: _, h, _ => by simp [lexI] at h
  | _ :: _, [], _, h => by simp [lexI] at h
  | x :: xs, y :: ys, h, k => by
    unfold lexI at h k
    by_cases e : x = y
    · rw [if_pos e] at h
      rw [if_pos e.symm] at k
      rw [e, lexI_anti h k]
    · rw [if_neg e, decide_eq_false_iff_not] at h
      rw [if_neg (Ne.symm e), decide_eq_false_iff_not] at k
      omega
/-- not behind, and not behind: not behind -/
theorem lexI_tr : ∀ {xs ys zs : List Int}, lexI ys xs = false → lexI zs ys = false → lexI zs xs = false
  | [], _, [], _, _ => rfl
  | [], _, _ :: _, _, _ => rfl
  | _ :: _, [], [], h, _ => by simp [lexI] at h
  | _ :: _, _ :: _, [], _, h => by simp [lexI] at h
  | _ :: _, [], _ :: _, h, _ => by simp [lexI] at h
  | x :: xs, y :: ys, z :: zs, h, k => by
    unfold lexI at h k ⊢
    by_cases e1 : y = x
    · rw [if_pos e1] at h
      by_cases e2 : z = y
      · rw [if_pos e2] at k
        rw [if_pos (e2.trans e1)]
        exact lexI_tr h k
      · rw [if_neg e2, decide_eq_false_iff_not] at k
        rw [if_neg (by omega), decide_eq_false_iff_not]
        omega
    · rw [if_neg e1, decide_eq_false_iff_not] at h
      by_cases e2 : z = y
      · rw [if_neg (by omega), decide_eq_false_iff_not]
        omega
      · rw [if_neg e2, decide_eq_false_iff_not] at k
        rw [if_neg (by omega), decide_eq_false_iff_not]
        omega
theorem swo_lexI {α : Type} (k : α → List Int) : Swo fun v u => lexI (k v) (k u) := ⟨fun _ _ h => lexI_asym h, fun _ _ _ h1 h2 => lexI_tr h1 h2⟩
section
variable {prog : Program} {w : World} {A : Around} {E : Value → Shared → Prop} {s : Shared}
theorem kat_lex {b : Bool} {Q : Bool → Shared → Prop} : ∀ {xs ys : List Value} {ns ms : List Int} (i : Nat), IntsAre xs ns → IntsAre ys ms → Q (lexI ns ms) s → PySem.W.KatLex prog w A b (decide (ns.length < ms.length)) Q (xs.zip ys) i s
  | _, _, _, _, i, .nil, .nil, h => PySem.W.kat_nil (by simpa [lexI] using h)
  | _, _, _, _, i, .nil, .cons q u hy, h => PySem.W.kat_nil (by simpa [lexI] using h)
  | _, _, _, _, i, .cons p t hx, .nil, h => PySem.W.kat_nil (by simpa [lexI] using h)
  | _, _, p :: ns, q :: ms, i, @IntsAre.cons _ t xs _ hx, @IntsAre.cons _ u ys _ hy, h => by
    show PySem.W.KatLex prog w A b _ Q ((Value.int p t, Value.int q u) :: xs.zip ys) i s
    refine PySem.W.kat_cons (wpAny_eqBool_int ?_)
    unfold lexI at h
    by_cases e : p = q
    · subst e
      rw [beq_self_eq_true]
      rw [if_pos rfl] at h
      have d : decide ((p :: ns).length < (p :: ms).length) = decide (ns.length < ms.length) := by simp
      rw [d]
      exact PySem.W.kat_yes (kat_lex (i + 1) hx hy h)
    · rw [show (p == q) = false from beq_eq_false_iff_ne.mpr e]
      rw [if_neg e] at h
      exact PySem.W.kat_no (TS.oneLt_ints _ h)
/-- a tuple of ints, not empty -/
def NeT (h : Heap) (v : Value) (ns : List Int) : Prop := TS.TupInts h v ns ∧ ns ≠ []
theorem NeT.keeps {h h' : Heap} {v : Value} {ns : List Int} (x : NeT h v ns) (k : ∀ b o, h.get? b = some o → o.cls = .type "tuple" → h'.get? b = some o) : NeT h' v ns := ⟨x.1.keeps k, x.2⟩
theorem firstsT {h : Heap} : ∀ vs : List Value, (∀ v ∈ vs, ∃ ns, NeT h v ns) → ∃ fs, PySem.W.KatTups h vs fs ∧ fs.length = vs.length ∧ ∀ f ∈ fs, ∃ n t, f = Value.int n t
  | [], _ => ⟨[], PySem.W.KatTups.nil, rfl, fun f hf => by simp at hf⟩
  | v :: vs, x => by
    obtain ⟨fs, k, hl, hi⟩ := firstsT vs fun u hu => x u (List.mem_cons_of_mem _ hu)
    obtain ⟨ns, ⟨a, xs, rfl, ⟨o, ho, hc, n, hdt⟩, i⟩, hn⟩ := x v (List.mem_cons_self ..)
    obtain ⟨y, ys, e⟩ : ∃ y ys, xs.toList = y :: ys := by
      cases q : xs.toList with
      | nil =>
        rw [q] at i
        cases i
        exact absurd rfl hn
      | cons y ys => exact ⟨y, ys, rfl⟩
    obtain ⟨m, t, hy⟩ := i.all y (by rw [e]; exact List.mem_cons_self ..)
    refine ⟨y :: fs, PySem.W.KatTups.cons ho hc hdt ?_ k, by simp [hl], ?_⟩
    · have z := congrArg (fun l : List Value => l[0]?) e
      simpa using z
    · intro f hf
      rcases List.mem_cons.mp hf with rfl | hf
      · exact ⟨m, t, hy⟩
      · exact hi f hf
theorem tups_cmp {vs : List Value} {k : Value → List Int} (hp : ∀ v ∈ vs, NeT s.heap v (k v)) : Cmp prog w A s (tuples' true) (fun p => p.1 ∈ vs) (lt2 fun v u => lexI (k v) (k u)) := by
  intro p q hm hm'
  obtain ⟨⟨a, xs, e, ⟨o, ho, hc, n, hd⟩, i⟩, _⟩ := hp _ hm
  obtain ⟨⟨a', ys, e', ⟨o', ho', hc', n', hd'⟩, i'⟩, _⟩ := hp _ hm'
  show wpAny (model prog w) A (keyLt' (tuples' true) p.1 q.1) (fun r s' => s' = s ∧ r = lexI (k p.1) (k q.1)) (fun _ _ => False) s
  generalize k p.1 = ns at i ⊢
  generalize k q.1 = ms at i' ⊢
  rw [e, e']
  refine PySem.W.kat_lt ho hd ho' hd' ?_
  have l1 : xs.size = ns.length := by rw [← i.length, Array.length_toList]
  have l2 : ys.size = ms.length := by rw [← i'.length, Array.length_toList]
  rw [l1, l2]
  exact kat_lex 0 i i' ⟨rfl, rfl⟩
theorem tups_sortable {a : Addr} {vs : List Value} {k : Value → List Int} (h0 : 0 < vs.length) (hp : ∀ v ∈ vs, NeT s.heap v (k v)) (ha : ∀ o, s.heap.get? a = some o → o.cls ≠ .type "tuple") : SortableO prog w A s a vs fun v u => lexI (k v) (k u) := by
  intro h' keep
  have hp' : ∀ v ∈ vs, NeT h' v (k v) := fun v hm => (hp v hm).keeps fun b o e c => keep b o (fun z => by subst z; exact ha o e c) e
  obtain ⟨fs, h1, h2, h3⟩ := firstsT vs fun v hm => ⟨_, hp' v hm⟩
  refine ⟨tuples' true, fun Q E hq => ?_, tups_cmp hp'⟩
  refine PySem.W.kat_kind (T := .type "int") h1 (by omega) (fun f hm => ?_) (by rfl) ?_
  · obtain ⟨x, t, rfl⟩ := h3 f hm
    exact PySem.W.Looks.now
  · have e : (Value.type "int" != Value.type "tuple") = true := by first | decide +kernel | rfl | decide
    rw [e]
    exact hq
theorem sorted_tupsA {l : Addr} {vs : List Value} {k : Value → List Int} {Q : Value → Shared → Prop} (hl : s.heap.IsList l vs.toArray ∨ s.heap.IsTuple l vs.toArray) (hz : vs.length ≤ sizeLine) (hp : ∀ v ∈ vs, NeT s.heap v (k v))
    (h : ∀ (h' : Heap) (d : Addr) (out : List Value), Srtd (fun v u => lexI (k v) (k u)) out → Stb (fun v u => lexI (k v) (k u)) out vs → (∀ b o, s.heap.get? b = some o → h'.get? b = some o) → s.heap.objs.size ≤ d → (∃ n, h'.get? d = some (seqObj "list" out.toArray n)) → Q (.ref d) { s with heap := h' }) :
    wpAny (model prog w) A (call (.builtin "sorted") [.ref l]) Q E s := by
  have hS : 2 ≤ vs.length → ∀ (h₁ : Heap) (a : Addr), h₁.get? a = some (seqObj "list" vs.toArray 0) → (∀ b o, s.heap.get? b = some o → b ≠ a ∧ h₁.get? b = some o) → SortableO prog w A.in1.in1 { s with heap := h₁ } a vs fun v u => lexI (k v) (k u) := fun h2 h₁ a ha kk => by
    refine tups_sortable (s := { s with heap := h₁ }) (by omega) (fun v hm => (hp v hm).keeps fun b o e _ => (kk b o e).2) fun o e => ?_
    have e' : some o = some (seqObj "list" vs.toArray 0) := e.symm.trans ha
    cases e'
    intro c
    exact absurd (Value.type.inj c) (by decide)
  have fin : ∀ out : List Value, Srtd (fun v u => lexI (k v) (k u)) out → Stb (fun v u => lexI (k v) (k u)) out vs → Q (.ref (s.heap.objs.size + 1)) { s with heap := sortedAll s.heap vs out.toArray } := fun out hs hb => h _ _ out hs hb (fun b o e => sortedAll_old e) (Nat.le_succ _) (sortedAll_at s.heap vs out.toArray)
  rcases hl with hl | hl
  · exact sorted_ord (swo_lexI k) hl hz hS fin
  · exact sorted_ordT (swo_lexI k) hl hz hS fin
end
end PySem
namespace Fx
open PySem PySem.Spec PyProof.Rows L2
abbrev ltL (k : V → List Int) (x y : V) : Bool := lexI (k x) (k y)
section
variable {X : Cx}
/-- sorted(xs), xs a list or a tuple of tuples of ints, none empty: a new list; what a tuple holds is one -/
def rSortedL (K : PySem.W.Frag) : List V → Hp → VK → Prop := fun vs H Q => ∃ (a : Addr) (xs : List V) (k : V → List Int), vs = [V.ref a] ∧ (SqL K H a xs ∨ SqT K H a xs) ∧ (∀ x ∈ xs, k x ≠ [] ∧ ∃ t, x = V.ref t ∧ SqT K H t ((k x).map V.int)) ∧
  ∀ ys p, SrtO.Srtd (ltL k) ys → ys.Perm xs → (∀ t us us', SqT K H t us → SqT K H t us' → us = us') → H p = none → Q (.ref p) (upd H p (.lst ys))
theorem cr_sortedL : CallR X (.builtin "sorted") (rSortedL X.K) := by
  intro pins s σ H vs us Q I r h
  obtain ⟨a, xs, k, rfl, hs, hx, q⟩ := h
  have inj : ∀ t us us', SqT X.K H t us → SqT X.K H t us' → us = us' := fun t us us' h1 h2 => I.tuple_inj h1 h2
  obtain ⟨u, rfl, ru⟩ := vals1 r
  obtain rfl : u = Value.ref a := ru
  obtain ⟨its, rv, hl, hz⟩ : ∃ its : List Value, Vals xs its ∧ (s.heap.IsList a its.toArray ∨ s.heap.IsTuple a its.toArray) ∧ xs.length ≤ sizeLine := by
    rcases hs with hs | hs
    · obtain ⟨its, rv, hl, hz⟩ := I.list hs
      exact ⟨its, rv, .inl hl.isList, hz⟩
    · obtain ⟨its, rv, hl, hz⟩ := I.tuple hs
      exact ⟨its, rv, .inr hl, hz⟩
  obtain ⟨e1, e2⟩ := refs_back rv fun x m => by
    obtain ⟨_, t, e, _⟩ := hx x m
    exact ⟨t, e⟩
  refine PySem.sorted_tupsA (k := fun u => k (backV u)) hl (by rw [← rv.length]; exact hz) (fun v hv => ?_) fun h' d out h1 h2 kp hd hn => ?_
  · obtain ⟨t, rfl⟩ := e2 v hv
    have hm : V.ref t ∈ xs := by rw [e1]; exact List.mem_map.mpr ⟨_, hv, rfl⟩
    obtain ⟨hne, t', e, ht⟩ := hx _ hm
    cases e
    obtain ⟨its2, r2, hT, _⟩ := I.tuple ht
    exact ⟨⟨t, its2.toArray, rfl, hT, ints_of_vals r2⟩, hne⟩
  · have h3 : ∀ u ∈ out, ∃ a, u = Value.ref a := fun u hu => e2 u (h2.perm.mem_iff.mp hu)
    obtain ⟨n, hn⟩ := hn
    have hb : (out.map backV).Perm xs := by
      rw [e1]
      exact h2.perm.map backV
    refine ⟨.ref d, upd H d (.lst (out.map backV)), I.laid (t' := s.toks) kp hd ⟨?_, out, n, vals_back h3, hn⟩, rfl, q _ d (SrtO.srtd_map h1) hb inj (I.hok.fresh hd)⟩
    rw [hb.length_eq]
    exact hz
end
/-! ### on data -/
def tpD (ns : List Int) : D := .tup (ns.map D.int)
def tpOf : D → Option (List Int)
  | .tup ds => match intsD ds with
    | some [] => none
    | some (n :: ns) => some (n :: ns)
    | none => none
  | _ => none
def tpsOf : List D → Option (List (List Int))
  | [] => some []
  | d :: ds => match tpOf d, tpsOf ds with
    | some p, some ps => some (p :: ps)
    | _, _ => none
theorem intsD_back : ∀ {ds : List D} {ns : List Int}, intsD ds = some ns → ds = ns.map D.int := by
  intro ds
  induction ds with
  | nil =>
    intro ns h
    cases h
    rfl
  | cons d ds ih =>
    intro ns h
    cases d <;> first | (simp [intsD] at h; done) | skip
    rename_i i
    cases e : intsD ds with
    | none => simp [intsD, e] at h
    | some ms =>
      simp [intsD, e] at h
      subst h
      rw [ih e]
      rfl
theorem tpOf_eq {d : D} {p : List Int} (h : tpOf d = some p) : d = tpD p ∧ p ≠ [] := by
  unfold tpOf at h
  split at h
  · split at h
    · cases h
    · rename_i ds n ns e
      cases h
      exact ⟨by rw [intsD_back e]; rfl, by simp⟩
    · cases h
  · cases h
theorem tpsOf_eq : ∀ {ds : List D} {ps : List (List Int)}, tpsOf ds = some ps → ds = ps.map tpD ∧ ∀ p ∈ ps, p ≠ []
  | [], ps, h => by
    cases h
    exact ⟨rfl, fun p hp => by simp at hp⟩
  | d :: ds, ps, h => by
    unfold tpsOf at h
    split at h
    · rename_i p qs e1 e2
      cases h
      obtain ⟨a1, a2⟩ := tpOf_eq e1
      obtain ⟨b1, b2⟩ := tpsOf_eq e2
      refine ⟨by rw [a1, b1]; rfl, fun x hx => ?_⟩
      rcases List.mem_cons.mp hx with rfl | hx
      · exact a2
      · exact b2 x hx
    · cases h
/-- not behind -/
def leL (p q : List Int) : Prop := lexI q p = false
instance (p q : List Int) : Decidable (leL p q) := by unfold leL; infer_instance
def insL (p : List Int) : List (List Int) → List (List Int)
  | [] => [p]
  | q :: qs => if leL p q then p :: q :: qs else q :: insL p qs
def isortL : List (List Int) → List (List Int)
  | [] => []
  | p :: ps => insL p (isortL ps)
theorem insL_perm (p : List Int) : ∀ qs : List (List Int), (insL p qs).Perm (p :: qs)
  | [] => .refl _
  | q :: qs => by
    unfold insL
    split
    · exact .refl _
    · exact ((insL_perm p qs).cons q).trans (.swap p q qs)
theorem isortL_perm : ∀ ps : List (List Int), (isortL ps).Perm ps
  | [] => .refl _
  | p :: ps => (insL_perm p _).trans ((isortL_perm ps).cons p)
theorem insL_pw (p : List Int) : ∀ {qs : List (List Int)}, qs.Pairwise leL → (insL p qs).Pairwise leL
  | [], _ => by simp [insL]
  | q :: qs, h => by
    unfold insL
    split
    · rename_i hpq
      refine List.pairwise_cons.mpr ⟨fun r hr => ?_, h⟩
      rcases List.mem_cons.mp hr with rfl | hr
      · exact hpq
      · exact lexI_tr hpq ((List.pairwise_cons.mp h).1 r hr)
    · rename_i hpq
      refine List.pairwise_cons.mpr ⟨fun r hr => ?_, insL_pw p (List.pairwise_cons.mp h).2⟩
      rcases List.mem_cons.mp ((insL_perm p qs).mem_iff.mp hr) with rfl | hr
      · have : lexI q r = true := by
          unfold leL at hpq
          simpa using hpq
        exact lexI_asym this
      · exact (List.pairwise_cons.mp h).1 r hr
theorem isortL_pw : ∀ ps : List (List Int), (isortL ps).Pairwise leL
  | [] => .nil
  | p :: ps => insL_pw p (isortL_pw ps)
theorem isortL_eq {ps qs : List (List Int)} (h : qs.Perm ps) (k : qs.Pairwise leL) : qs = isortL ps :=
  List.Perm.eq_of_pairwise (fun a b _ _ h1 h2 => lexI_anti h2 h1) k (isortL_pw ps) (h.trans (isortL_perm ps).symm)
def gSortA : List D → Option S
  | [.lst ds] => match intsD ds with
    | some ns => some (.o none (.lst ((isort ns).map D.int)))
    | none => (tpsOf ds).map fun ps => .o none (.lst ((isortL ps).map tpD))
  | [.tup ds] => (tpsOf ds).map fun ps => .o none (.lst ((isortL ps).map tpD))
  | _ => none
section
variable {c : Cfg} {G H : Hp}
noncomputable def lOf (K : PySem.W.Frag) (H : Hp) (x : V) : List Int := open Classical in if h : ∃ p : List Int, p ≠ [] ∧ ∃ t, x = V.ref t ∧ SqT K H t (p.map V.int) then h.choose else []
theorem tup_at {x : V} {p : List Int} (s : ∀ a o, G a = some o → H a = some o) (h : Rp c G x (tpD p)) : ∃ t, x = V.ref t ∧ SqT c.K H t (p.map V.int) := by
  obtain ⟨t, us, rfl, ht, k⟩ := h.tupE
  refine ⟨t, rfl, ?_⟩
  have := RpAll.ints (intsD_map p) k
  rw [this] at ht
  exact SqT.up s ht
theorem lOf_at {x : V} (h : ∃ p : List Int, p ≠ [] ∧ ∃ t, x = V.ref t ∧ SqT c.K H t (p.map V.int)) : lOf c.K H x ≠ [] ∧ ∃ t, x = V.ref t ∧ SqT c.K H t ((lOf c.K H x).map V.int) := by
  unfold lOf
  rw [dif_pos h]
  exact h.choose_spec
theorem ints_inj : ∀ {p q : List Int}, p.map V.int = q.map V.int → p = q
  | [], [], _ => rfl
  | [], _ :: _, h => by simp at h
  | _ :: _, [], h => by simp at h
  | a :: p, b :: q, h => by
    simp only [List.map_cons, List.cons.injEq, V.int.injEq] at h
    rw [h.1, ints_inj h.2]
theorem lOf_eq {x : V} {p : List Int} (inj : ∀ t us us', SqT c.K H t us → SqT c.K H t us' → us = us') (hp : p ≠ []) (h : ∃ t, x = V.ref t ∧ SqT c.K H t (p.map V.int)) : lOf c.K H x = p := by
  obtain ⟨_, t, e, ht⟩ := lOf_at (c := c) ⟨p, hp, h⟩
  obtain ⟨t', e', ht'⟩ := h
  rw [e] at e'
  cases e'
  exact ints_inj (inj _ _ _ ht ht')
theorem lkeys_of (inj : ∀ t us us', SqT c.K H t us → SqT c.K H t us' → us = us') (s : ∀ a o, G a = some o → H a = some o) : ∀ {xs : List V} {ps : List (List Int)}, (∀ p ∈ ps, p ≠ []) → RpAll c G xs (ps.map tpD) → xs.map (lOf c.K H) = ps
  | [], [], _, _ => rfl
  | x :: xs, p :: ps, hn, h => by
    cases h with
    | cons h k => rw [List.map_cons, lOf_eq inj (hn p List.mem_cons_self) (tup_at s h), lkeys_of inj s (fun q hq => hn q (List.mem_cons_of_mem _ hq)) k]
  | [], p :: ps, _, h => by cases h
  | x :: xs, [], _, h => by cases h
theorem sortedL_run {Q : VK} {B : Base} {ts : En} {vs : List (Option V)} {ρ : En} {σ : L2.St} {xs : List V} {ps : List (List Int)} (hne : ∀ p ∈ ps, p ≠ []) (O : Opn c B ts vs ρ σ H G) (ka : RpAll c G xs (ps.map tpD))
    (q : ∀ v H', Rep c B (some (.o none (.lst ((isortL ps).map tpD))) :: ts) (some v :: vs) ρ σ H' → Q v H') : (∀ x ∈ xs, lOf c.K H x ≠ [] ∧ ∃ t, x = V.ref t ∧ SqT c.K H t ((lOf c.K H x).map V.int)) ∧
    ∀ ys p, SrtO.Srtd (ltL (lOf c.K H)) ys → ys.Perm xs → (∀ t us us', SqT c.K H t us → SqT c.K H t us' → us = us') → H p = none → Q (.ref p) (upd H p (.lst ys)) := by
  have each : ∀ x ∈ xs, ∃ p ∈ ps, Rp c G x (tpD p) := fun x hx => by
    obtain ⟨i, hi⟩ := List.getElem?_of_mem hx
    obtain ⟨d, e1, e2⟩ := ka.getV hi
    rw [List.getElem?_map] at e1
    obtain ⟨p, hp, rfl⟩ := Option.map_eq_some_iff.mp e1
    exact ⟨p, List.mem_of_getElem? hp, e2⟩
  refine ⟨fun x hx => ?_, fun ys p hs hp inj hn => ?_⟩
  · obtain ⟨p, hp, h⟩ := each x hx
    exact lOf_at ⟨p, hne p hp, tup_at O.sub h⟩
  · have e := lkeys_of inj O.sub hne ka
    have ey : ys.map (lOf c.K H) = isortL ps := by
      refine isortL_eq (by rw [← e]; exact hp.map _) ?_
      rw [List.pairwise_map]
      exact List.Pairwise.imp (fun {x y} h => h) hs
    refine q _ _ (O.newO hn fun H' e' => ⟨_, e', ?_⟩)
    rw [← ey]
    have go : ∀ zs : List V, (∀ z ∈ zs, z ∈ xs) → RpAll c G zs ((zs.map (lOf c.K H)).map tpD) := by
      intro zs
      induction zs with
      | nil => exact fun _ => .nil
      | cons z zs ih =>
        intro hz
        obtain ⟨p, hp, h⟩ := each z (hz z List.mem_cons_self)
        refine .cons ?_ (ih fun w hw => hz w (List.mem_cons_of_mem _ hw))
        rw [lOf_eq inj (hne p hp) (tup_at O.sub h)]
        exact h
    exact go ys fun z hz => hp.mem_iff.mp hz
theorem cd_sortA : CbDen c (fun vs H Q => rSortedI c.K vs H Q ∨ rSortedL c.K vs H Q) gSortA := by
  intro B ts vs ρ σ H Q ds us s hl r e q
  match ds, hl, r, e with
  | [.lst ds], hl, r, e =>
    obtain ⟨v, rfl, G, O, h⟩ := r.one' hl
    obtain ⟨a, xs, rfl, ha, ka⟩ := h.lstE
    have e : (match intsD ds with
      | some ns => some (S.o none (.lst ((isort ns).map D.int)))
      | none => (tpsOf ds).map fun ps => S.o none (.lst ((isortL ps).map tpD))) = some s := e
    cases e2 : intsD ds with
    | some ns =>
      rw [e2] at e
      cases e
      rw [RpAll.ints e2 ka] at ha
      refine .inl ⟨a, ns, rfl, SqL.of (O.sub _ _ ha), fun ns' p pm pw hp => ?_⟩
      rw [isort_eq pm pw]
      exact q _ _ (O.newO hp fun H' e => ⟨_, e, RpAll.ofInts _⟩)
    | none =>
      rw [e2] at e
      have e : (tpsOf ds).map (fun ps => S.o none (.lst ((isortL ps).map tpD))) = some s := e
      cases e3 : tpsOf ds with
      | none => rw [e3] at e; cases e
      | some ps =>
        rw [e3] at e
        cases e
        obtain ⟨e4, hne⟩ := tpsOf_eq e3
        rw [e4] at ka
        obtain ⟨k1, k2⟩ := sortedL_run hne O ka q
        exact .inr ⟨a, xs, _, rfl, .inl (SqL.of (O.sub _ _ ha)), k1, k2⟩
  | [.tup ds], hl, r, e =>
    obtain ⟨v, rfl, G, O, h⟩ := r.one' hl
    obtain ⟨a, xs, rfl, ha, ka⟩ := h.tupE
    have e : (tpsOf ds).map (fun ps => S.o none (.lst ((isortL ps).map tpD))) = some s := e
    cases e3 : tpsOf ds with
    | none => rw [e3] at e; cases e
    | some ps =>
      rw [e3] at e
      cases e
      obtain ⟨e4, hne⟩ := tpsOf_eq e3
      rw [e4] at ka
      obtain ⟨k1, k2⟩ := sortedL_run hne O ka q
      exact .inr ⟨a, xs, _, rfl, .inr (SqT.up O.sub ha), k1, k2⟩
end
section
variable {X : Cx} {c : Cfg}
theorem b_sortA (hK : X.K = c.K := by rfl) : QB X c "sorted" (fun vs H Q => rSortedI c.K vs H Q ∨ rSortedL c.K vs H Q) gSortA := by
  refine ⟨.inl ⟨"sorted", ?_, by decide +kernel⟩, cd_sortA⟩
  intro pins s σ H vs us Q I r h
  rcases h with h | h
  · exact cr_sortedI pins s σ H vs us Q I r (hK ▸ h)
  · exact cr_sortedL pins s σ H vs us Q I r (hK ▸ h)
end
end Fx
/-! sorted(t), t a tuple of ints -/
namespace Fx
open PySem PySem.Spec PyProof.Rows L2
/-- a new list of the ints that a tuple holds, ascending -/
def rSortTI (K : PySem.W.Frag) : List V → Hp → VK → Prop := fun vs H Q => ∃ (a : Addr) (ns : List Int), vs = [V.ref a] ∧ SqT K H a (ns.map V.int) ∧
  ∀ (ns' : List Int) (p : Addr), ns'.Perm ns → ns'.Pairwise (· ≤ ·) → H p = none → Q (.ref p) (upd H p (.lst (ns'.map V.int)))
section
variable {X : Cx}
theorem cr_sortTI : CallR X (.builtin "sorted") (rSortTI X.K) := by
  intro pins s σ H vs us Q I r h
  obtain ⟨a, ns, rfl, hs, q⟩ := h
  obtain ⟨its, rv, hl, hz⟩ := I.tuple hs
  rw [Vals.ref1 r]
  have hi := rv.ints
  refine PySem.sorted_ordT SrtO.swo_int hl (by rw [← rv.length]; exact hz) (fun h2 h₁ a' _ _ => SrtO.ints_sortable hi h2) fun out h1 h2 => ?_
  obtain ⟨k1, k2, k3⟩ := SrtO.ints_out hi h1 h2
  obtain ⟨ep, he'⟩ := PyProof.Rows.sortedAll_at s.heap its out.toArray
  have hlen : ((out.map SrtO.iv).map V.int).length ≤ sizeLine := by
    have := k2.length_eq
    rw [List.length_map] at hz ⊢
    omega
  refine ⟨.ref _, upd H (s.heap.objs.size + 1) (.lst ((out.map SrtO.iv).map V.int)), I.laid (t' := s.toks) ?_ (Nat.le_succ _) ?_, rfl, q _ _ k2 k3 (I.hok.fresh (Nat.le_succ _))⟩
  · exact fun _ _ e => PyProof.Rows.sortedAll_old e
  · exact ⟨hlen, out, ep, vals_of_ints k1, he'⟩
end
def gSortI : List D → Option S
  | [.tup ds] => (intsD ds).map fun ns => .o none (.lst ((isort ns).map D.int))
  | _ => none
section
variable {c : Cfg}
theorem cd_sortI : CbDen c (rSortTI c.K) gSortI := by
  intro B ts vs ρ σ H Q ds us s hl r e q
  match ds, hl, r, e with
  | [.tup ds], hl, r, e =>
    obtain ⟨v, rfl, G, O, h⟩ := r.one' hl
    obtain ⟨a, xs, rfl, ha, ka⟩ := h.tupE
    have e : (intsD ds).map (fun ns => S.o none (.lst ((isort ns).map D.int))) = some s := e
    cases e2 : intsD ds with
    | none => rw [e2] at e; cases e
    | some ns =>
      rw [e2] at e
      cases e
      rw [RpAll.ints e2 ka] at ha
      refine ⟨a, ns, rfl, SqT.up O.sub ha, fun ns' p pm pw hp => ?_⟩
      rw [isort_eq pm pw]
      exact q _ _ (O.newO hp fun H' e => ⟨_, e, RpAll.ofInts _⟩)
theorem b_sortI {X : Cx} (hK : X.K = c.K := by rfl) : QB X c "sorted" (rSortTI c.K) gSortI :=
  ⟨.inl ⟨"sorted", hK ▸ cr_sortTI, by decide +kernel⟩, cd_sortI⟩
end
end Fx
/-! a dict whose values are lists that change: d = {k: [..] for ..}, d[k].append(x), d[k].pop(), frozen when it is read -/
namespace Fx
open PySem PySem.Spec PyProof.Rows L2
open C8 (Cal Mak pe_c pe_mk)
section
variable {c : Cfg} {B : Base} {G G' H H' : Hp} {own own' : Owns} {ts : En} {vs : List (Option V)} {ρ : En} {σ : L2.St}
theorem LsAll.get : ∀ {bs : List Addr} {dss : List (List D)} {n : Nat} {ds : List D}, LsAll c G H bs dss → dss[n]? = some ds → ∃ b us, bs[n]? = some b ∧ H b = some (.lst us) ∧ RpAll c G us ds
  | _, _, _, _, .nil, e => by simp at e
  | _, _, 0, _, .cons h k _, e => by simp at e; subst e; exact ⟨_, _, rfl, h, k⟩
  | _, _, n + 1, _, .cons _ _ l, e => by
    obtain ⟨b, us, e1, e2⟩ := LsAll.get (n := n) l (by simpa using e)
    exact ⟨b, us, by simpa using e1, e2⟩
theorem LsAll.put {b : Addr} {us : List V} {es : List D} (hb : H' b = some (.lst us)) (k : RpAll c G us es) (hh : ∀ q, q ≠ b → H' q = H q) : ∀ {bs : List Addr} {dss : List (List D)} {n : Nat}, LsAll c G H bs dss → bs[n]? = some b → bs.Nodup → LsAll c G H' bs (dss.set n es)
  | _, _, _, .nil, e, _ => by simp at e
  | b0 :: bs, ds0 :: dss, 0, .cons _ _ l, e, nd => by
    simp at e
    subst e
    rw [List.nodup_cons] at nd
    exact .cons hb k (l.mono (fun _ _ e => e) fun p hp => hh p fun z => nd.1 (z ▸ hp))
  | b0 :: bs, ds0 :: dss, n + 1, .cons h0 k0 l, e, nd => by
    rw [List.nodup_cons] at nd
    have e : bs[n]? = some b := by simpa using e
    have ne : b0 ≠ b := fun z => nd.1 (z ▸ List.mem_of_getElem? e)
    exact .cons ((hh _ ne).trans h0) k0 (LsAll.put hb k hh l e nd.2)
theorem LsAll.length : ∀ {bs : List Addr} {dss : List (List D)}, LsAll c G H bs dss → bs.length = dss.length
  | _, _, .nil => rfl
  | _, _, .cons _ _ l => by rw [List.length_cons, List.length_cons, LsAll.length l]
theorem LsAll.snoc {b : Addr} {us : List V} {ds : List D} (hb : H b = some (.lst us)) (k : RpAll c G us ds) : ∀ {bs : List Addr} {dss : List (List D)}, LsAll c G H bs dss → LsAll c G H (bs ++ [b]) (dss ++ [ds])
  | _, _, .nil => .cons hb k .nil
  | _, _, .cons h0 k0 l => .cons h0 k0 (LsAll.snoc hb k l)
theorem LsAll.all : ∀ {bs : List Addr} {dss : List (List D)}, LsAll c G H bs dss → ∀ {G' : Hp}, (∀ a o, G a = some o → G' a = some o) → (∀ b ∈ bs, G' b = H b) → RpAll c G' (bs.map V.ref) (dss.map D.lst)
  | _, _, .nil, _, _, _ => .nil
  | _, _, .cons h k l, G', s, e => .cons (.lst ((e _ List.mem_cons_self).trans h) (k.mono s)) (LsAll.all l s fun b hb => e b (List.mem_cons_of_mem _ hb))
end
end Fx
/-! sum, max, min of a list of ints -/
/-! t.index(x) of a tuple of tuples of numbers; min of a list or tuple of data that can be compared -/
namespace Fx
open PySem PySem.Spec PyProof.Rows L2 PySem.SeqAt
open PySem.W (AlikeAll minD alike dataLt min_list_data min_tuple_data readsAll_at)
/-! ### on data -/
/-- the place of x among the items -/
def placeD (ds : List D) (x : D) : Option Nat := ds.findIdx? fun y => eqD y x
section
variable {c : Cfg} {W : WX} {te tf : TE} {fe ff : M S}
/-- data that can be compared with one another -/
def alikeB (ds : List D) : Bool := ds.all fun x => (match x with | .non => false | _ => true) && ds.all fun y => alike (toP x) (toP y)
theorem alike_of {ds : List D} (hp : plA 60 ds = true) (h : alikeB ds = true) : AlikeAll (toPs ds) := by
  rw [toPs_map]
  unfold alikeB at h
  rw [List.all_eq_true] at h
  refine ⟨fun x hx y hy => ?_, fun x hx e => ?_⟩
  · obtain ⟨a, ha, rfl⟩ := List.mem_map.mp hx
    obtain ⟨b, hb, rfl⟩ := List.mem_map.mp hy
    have := h a ha
    rw [Bool.and_eq_true] at this
    exact List.all_eq_true.mp this.2 b hb
  · obtain ⟨a, ha, rfl⟩ := List.mem_map.mp hx
    have := h a ha
    rw [Bool.and_eq_true] at this
    have p := List.all_eq_true.mp (plA_all.symm.trans hp) a ha
    cases a <;> simp [toP, pl] at e this p
end
end Fx
/-! xs.index(x), xs.count(x) of a list of data -/
namespace Fx
open PySem PySem.Spec PyProof.Rows L2 PySem.SeqAt
/-- a list of data and a datum -/
def ListOf (K : PySem.W.Frag) (H : Hp) (x : V) (xs : List V) (ds : List PyData) (d : PyData) : Prop := ∃ (a : Addr) (ys : List V) (y : V), x = .ref a ∧ xs = [y] ∧ SqL K H a ys ∧ Dp K H x (.list ds) ∧ Dp K H y d ∧ d.plain = true ∧ PyData.plainAll ds = true ∧ d.depth ≤ 64
def rIdxL (K : PySem.W.Frag) : V → List V → Hp → VK → Prop := fun x xs H Q => ∃ ds d j, ListOf K H x xs ds d ∧ ds.length ≤ sizeLine ∧ dataPlace ds d = some j ∧ Q (.int (j : Nat)) H
section
variable {X : Cx}
theorem ListOf.reads {pins : List (Addr × Obj)} {s : Shared} {σ : L2.St} {H : Hp} {x : V} {xs : List V} {v : Value} {us : List Value} {ds : List PyData} {d : PyData} (I : Inv X pins σ H s) (rx : RelV x v) (rs : Vals xs us) (h : ListOf X.K H x xs ds d) :
    ∃ (a : Addr) (u : Value) (its : Array Value) (as bs : List Addr), v = .ref a ∧ us = [u] ∧ s.heap.IsList a its ∧ ReadsAll s.heap its.toList ds as ∧ Reads s.heap u d bs ∧ d.plain = true ∧ PyData.plainAll ds = true ∧ d.depth ≤ 64 := by
  obtain ⟨a, ys, y, rfl, rfl, sq, hx, hy, p1, p2, p3⟩ := h
  obtain ⟨u, rfl, ru⟩ := vals1 rs
  cases rx
  obtain ⟨bs, rd⟩ := Dp.reads I d _ _ hy ru
  obtain ⟨as, rl⟩ := Dp.reads I _ _ _ hx rfl
  cases rl with
  | list k1 k2 k3 k4 =>
    rename_i ob vs n _
    refine ⟨a, u, vs, _, bs, rfl, rfl, ⟨ob, k1, k2, n, k3⟩, k4, rd, p1, p2, p3⟩
theorem mt_idxL (hu : X.A.units + 66 < cLine) : MtR X "list.index" (rIdxL X.K) := by
  rintro pins s σ H x xs v us Q I rx rs ⟨ds, d, j, h, few, hp, q⟩
  obtain ⟨a, u, its, as, bs, rfl, rfl, hl, ra, rd, p1, p2, p3⟩ := h.reads I rx rs
  obtain ⟨⟨cls, dd, data, sl⟩, ho, hc, n, hd⟩ := hl
  simp only at hc hd
  subst hc hd
  obtain ⟨hj, hit, hno⟩ := hit_at ra p2 hp
  have sz := len_at ra
  rw [sizeLine_eq] at few
  exact call_meets PySem.F.slot_list_index ⟨_, ho, rfl⟩ PySem.F.entry_list_index (PySem.F.args_list_index_2 _ _) (list_indexAt a its n dd sl u (fun y => PyData.eqv (readOf s.heap y) d) j hj (by omega) hit hno)
    ⟨ho, items_plain ra rd p2 p1 (by have : min (PyData.depthAll ds) d.depth ≤ d.depth := Nat.min_le_right _ _; show X.A.units + 1 + _ < _; omega), ⟨.int (j : Nat), H, I.tok _, ⟨_, rfl⟩, q⟩⟩
end
/-! ### on data -/
def mIdxL (fe ff : M S) : M S := fun ρ => (dv fe ρ).then fun x ρ1 => match x with
  | .lst ds => (dv ff ρ1).then fun y ρ2 => if pl60 y && plA 60 ds && small ds.length then (match placeD ds y with
    | some j => .ok (.d (.int (j : Nat))) ρ2
    | none => .stuck) else .stuck
  | _ => .stuck
section
variable {c : Cfg} {W : WX} {te tf : TE} {fe ff : M S}
theorem listOf {B : Base} {ts ρ : En} {vs : List (Option V)} {σ : L2.St} {H : Hp} {ds : List D} {y : D} {v w : V} (r : Rep c B (some (.d y) :: some (.d (.lst ds)) :: ts) (some w :: some v :: vs) ρ σ H) (hp : (pl60 y && plA 60 ds) = true) : ListOf c.K H v [w] (toPs ds) (toP y) := by
  rw [Bool.and_eq_true] at hp
  obtain ⟨G, O, g1, g2⟩ := r.two
  obtain ⟨a, us, rfl, ha, ka⟩ := id g1.lstE
  have t := g1.dp (n := 61) O.sub (by simpa [pl] using hp.2)
  simp only [toP] at t
  exact ⟨a, us, w, rfl, rfl, SqL.of (O.sub _ _ ha), t, g2.dp O.sub hp.1, (pl60_shaped hp.1).1, (plA_plain hp.2).1, Nat.le_trans (pl60_shaped hp.1).2 (by decide)⟩
theorem isListV {B : Base} {ts ρ : En} {vs : List (Option V)} {σ : L2.St} {H : Hp} {ds : List D} {v : V} (r : Rep c B (some (.d (.lst ds)) :: ts) (some v :: vs) ρ σ H) : tyV c.K "list" v H := by
  obtain ⟨G, O, hv⟩ := r.one
  obtain ⟨a, us, rfl, ha, ka⟩ := hv.lstE
  exact .inl ⟨rfl, us, SqL.of (O.sub _ _ ha)⟩
theorem den_idxL (h : Den c W te fe) (k : Den c W tf ff) : Den c W (tBM c.K "list" (rIdxL c.K) te (tCons tf tNil)) (mIdxL fe ff) := fun B ts vs ρ σ H Q r q => by
  unfold mIdxL at q
  rw [post_then] at q
  refine h.dv r (q.imp1 fun x ρ1 q v H1 r1 => ?_)
  split at q
  · rename_i ds
    rw [post_then] at q
    refine ⟨isListV r1, k.dv r1 (q.imp (fun y ρ2 q w H2 r2 => ?_) fun _ _ h => h.drop)⟩
    by_cases hp : (pl60 y && plA 60 ds && small ds.length) = true
    case neg => rw [if_neg hp] at q; exact q.elim
    rw [if_pos hp] at q
    rw [Bool.and_eq_true] at hp
    cases e : placeD ds y with
    | none => rw [e] at q; exact q.elim
    | some j =>
      rw [e] at q
      obtain ⟨G2, O2, g1, g2⟩ := r2.two
      have fw := small_line hp.2
      refine ⟨toPs ds, toP y, j, listOf r2 hp.1, by rw [toPs_map, List.length_map]; omega, ?_, q _ _ (O2.val (.int _))⟩
      unfold dataPlace
      rw [toPs_map, List.findIdx?_map]
      exact e
  · exact q.elim
variable {X : Cx} {e f : Expr} {apos cpos : Pos} {k : Nat}
theorem q_idxL (hu : X.A.units + 66 < cLine) (he : QE X c W e te fe) (hf : QE X c W f tf ff) (hbase : attributeBase e "index" X.env (eval e X.env) = eval e X.env := by rfl)
    (hfew : ((backTo cpos (starEach [f] X.env)).all (fun y => !y.1) && (backToKw cpos (keywordEach [] X.env)).all (fun y => y.1.isSome) && decide ([f].length + ([] : List Keyword).length + (if ([] : List Keyword).isEmpty then 0 else 1) < 30)) = true := by rfl) (hline : (apos.endLine == cpos.line) = true := by rfl)
    (hs : starEach [f] X.env = (false, eval f X.env) :: starEach [] X.env := by rfl) (hplain : (backTo cpos (starEach [] X.env)).any (·.1) = false := by rfl) (hK : X.K = c.K := by rfl) :
    QE X c W (.Call (.Attribute e "index" apos) [f] [] cpos) (tBM c.K "list" (rIdxL c.K) te (tCons tf tNil)) (mIdxL fe ff) :=
  ⟨hK ▸ pe_bm PySem.F.plainAttrs_list PySem.F.slot_list_index PySem.F.type_list_index (mt_idxL hu) he.1 (pa_cons hf.1 pa_nil hs) hbase hfew hline hs hplain, den_idxL he.2 hf.2⟩
end
end Fx
/-! sorted of a list of data that can be compared: tuples, none empty -/
namespace Fx
open PySem PySem.Spec PyProof.Rows L2
open PySem.W (AllAlike Sortable dataLe sorted_data EachIs)
theorem eachR {R : Value → V × D → Prop} : ∀ {bs : List (V × D)} {vs : List Value}, (∀ b ∈ bs, ∀ v, RelV b.1 v → R v b) → Vals (bs.map (·.1)) vs → EachIs R vs bs
  | [], _, _, .nil => .nil
  | b :: bs, _, h, .cons r k => .cons (h b List.mem_cons_self _ r) (eachR (fun b' hb => h b' (List.mem_cons_of_mem _ hb)) k)
theorem valsE : ∀ {bs : List (V × D)} {vs : List Value}, EachIs (fun v b => RelV b.1 v) vs bs → Vals (bs.map (·.1)) vs
  | _, _, .nil => .nil
  | _, _, .cons r k => .cons r (valsE k)
abbrev leD : V × D → V × D → Bool := dataLe false fun b => toP b.2
/-- sorted(xs), xs a list of data -/
def rSortD (K : PySem.W.Frag) : List V → Hp → VK → Prop := fun vs H Q => ∃ (a : Addr) (bs : List (V × D)), vs = [V.ref a] ∧ SqL K H a (bs.map (·.1)) ∧ (∀ b ∈ bs, Dp K H b.1 (toP b.2)) ∧ AllAlike (bs.map fun b => toP b.2) ∧ Sortable (bs.map fun b => toP b.2) ∧
  (∀ b ∈ bs, (toP b.2).depth ≤ 64) ∧ ∀ p, H p = none → Q (.ref p) (upd H p (.lst ((bs.mergeSort leD).map (·.1))))
section
variable {X : Cx}
theorem cr_sortD (hu : X.A.units + 66 < cLine) : CallR X (.builtin "sorted") (rSortD X.K) := by
  rintro pins s σ H vs us Q I r ⟨a, bs, rfl, hs, hd, ha, hk, hz, q⟩
  obtain ⟨u, rfl, ru⟩ := vals1 r
  cases ru
  obtain ⟨its, rv, pl, hl⟩ := I.list hs
  rw [List.length_map] at hl
  refine sorted_data (R := fun v b => RelV b.1 v) (bs := bs) (enc := fun b => toP b.2) pl.isList (eachR (fun b _ v hv => hv) rv) (eachR (fun b hb v hv => Dp.reads I _ _ _ (hd b hb) hv) rv) ha hk hl (fun b hb => by have := hz b hb; omega) fun out hn ho => ?_
  obtain ⟨n, hget⟩ := sortedAll_at s.heap its out.toArray
  refine ⟨.ref (s.heap.objs.size + 1), _, I.laid (o := .lst ((bs.mergeSort leD).map (·.1))) (t' := s.toks) (fun b o e => sortedAll_old e) (Nat.le_succ _) ⟨?_, out, n, valsE ho, hget⟩, rfl, q _ (I.hok.fresh (Nat.le_succ _))⟩
  rw [List.length_map, List.length_mergeSort]
  exact hl
end
/-! ### on data -/
def tupsB (ds : List D) : Bool := ds.all fun
  | .tup (_ :: _) => true
  | _ => false
def gSortD : List D → Option S
  | [.lst ds] => if plA 60 ds && alikeB ds && tupsB ds then some (.o none (.lst (ds.mergeSort (dataLe false toP)))) else none
  | _ => none
section
variable {c : Cfg} {G H : Hp}
theorem rpAll_zip : ∀ {xs : List V} {ds : List D}, RpAll c G xs ds → (xs.zip ds).map (·.1) = xs ∧ (xs.zip ds).map (·.2) = ds ∧ ∀ b ∈ xs.zip ds, Rp c G b.1 b.2
  | _, _, .nil => ⟨rfl, rfl, fun b hb => by simp at hb⟩
  | _, _, .cons h k => by
    obtain ⟨h1, h2, h3⟩ := rpAll_zip k
    refine ⟨by simp [h1], by simp [h2], fun b hb => ?_⟩
    rw [List.zip_cons_cons] at hb
    rcases List.mem_cons.mp hb with rfl | hb
    · exact h
    · exact h3 b hb
theorem rpAll_of : ∀ {bs : List (V × D)}, (∀ b ∈ bs, Rp c G b.1 b.2) → RpAll c G (bs.map (·.1)) (bs.map (·.2))
  | [], _ => .nil
  | b :: bs, h => .cons (h b List.mem_cons_self) (rpAll_of fun b' hb => h b' (List.mem_cons_of_mem _ hb))
theorem cd_sortD : CbDen c (rSortD c.K) gSortD := by
  intro B ts vs ρ σ H Q ds us s hl r e q
  match ds, hl, r, e with
  | [.lst ds], hl, r, e =>
    have e : (if plA 60 ds && alikeB ds && tupsB ds then some (S.o none (.lst (ds.mergeSort (dataLe false toP)))) else none) = some s := e
    by_cases hp : (plA 60 ds && alikeB ds && tupsB ds) = true
    case neg => rw [if_neg hp] at e; cases e
    rw [if_pos hp] at e
    cases e
    rw [Bool.and_eq_true, Bool.and_eq_true] at hp
    obtain ⟨⟨hp, hal⟩, htu⟩ := hp
    obtain ⟨v, rfl, G, O, h⟩ := r.one' hl
    obtain ⟨a, xs, rfl, ha, ka⟩ := h.lstE
    obtain ⟨z1, z2, z3⟩ := rpAll_zip ka
    have hpa := List.all_eq_true.mp (plA_all.symm.trans hp)
    have inD : ∀ b ∈ xs.zip ds, b.2 ∈ ds := fun b hb => (List.of_mem_zip (show (b.1, b.2) ∈ xs.zip ds from hb)).2
    have em : (xs.zip ds).map (fun b => toP b.2) = toPs ds := by
      rw [toPs_map, ← z2, List.map_map, z2]
      rfl
    refine ⟨a, xs.zip ds, rfl, by rw [z1]; exact SqL.of (O.sub _ _ ha), fun b hb => (z3 b hb).dp O.sub (hpa _ (inD b hb)), ?_, ?_, fun b hb => Nat.le_trans (pl60_shaped (hpa _ (inD b hb))).2 (by decide), fun p hn => ?_⟩
    · rw [em]
      exact (alike_of hp hal).1
    · rw [em, toPs_map]
      refine .inl fun d hd => ?_
      obtain ⟨x, hx, rfl⟩ := List.mem_map.mp hd
      have := List.all_eq_true.mp htu x hx
      cases x <;> first | cases this | skip
      rename_i es
      cases es with
      | nil => cases this
      | cons y ys => exact ⟨toP y, toPs ys, by simp [toP, toPs]⟩
    · refine q _ _ (O.newO hn fun H' e' => ⟨_, e', ?_⟩)
      have es : ds.mergeSort (dataLe false toP) = ((xs.zip ds).mergeSort leD).map (·.2) := by
        have := List.map_mergeSort (r := leD) (s := dataLe false toP) (f := fun b : V × D => b.2) (l := xs.zip ds) fun a _ b _ => rfl
        rw [z2] at this
        exact this.symm
      rw [es]
      exact rpAll_of fun b hb => z3 b (List.mem_mergeSort.mp hb)
end
section
variable {X : Cx} {c : Cfg} {k : Nat}
theorem b_sortD (hr : Room k X.A) (hK : X.K = c.K := by rfl) : QB X c "sorted" (rSortD c.K) gSortD := ⟨.inl ⟨_, hK ▸ cr_sortD (un66 hr), by decide +kernel⟩, cd_sortD⟩
end
end Fx
/-! sorted of a tuple of data that can be compared -/
namespace PySem.W
open PySem PySem.Calls PyProof.Rows
end PySem.W
/-! min(x, default=d) of a list or tuple of data that can be compared -/
/-! sorted(xs, key=f), f a def of the program or what may be called so; keys that can be compared -/
namespace Fx
open PySem PySem.Spec PyProof.Rows L2
open PySem.W (AllAlike Sortable dataLe EachIs dataLt KeepsBut copyHeap sortVals SortsAt dataKind)
/-- the heap without the object at a -/
def without (h : Heap) (a : Addr) : Heap := { h with objs := h.objs.setIfInBounds a { cls := .none, data := .freed } }
theorem without_self {h : Heap} {a : Addr} : (without h a).get? a = none := by
  unfold without Heap.get?
  by_cases ha : a < h.objs.size
  · rw [Array.getElem?_setIfInBounds_self_of_lt ha]
  · rw [Array.getElem?_eq_none (by rw [Array.size_setIfInBounds]; exact Nat.le_of_not_lt ha)]
theorem without_ne {h : Heap} {a b : Addr} (hb : b ≠ a) : (without h a).get? b = h.get? b := by
  unfold without Heap.get?
  rw [Array.getElem?_setIfInBounds_ne (fun z => hb z.symm)]
/-- what is called for each item: one after another -/
def keysQ (sp1 : V → Hp → VK → Prop) : List V → Hp → (List V → Hp → Prop) → Prop
  | [], H, Q => Q [] H
  | x :: xs, H, Q => sp1 x H fun k H1 => keysQ sp1 xs H1 fun ks H2 => Q (k :: ks) H2
abbrev leK : V × PyData → V × PyData → Bool := dataLe false fun b => b.2
def KTail (K : PySem.W.Frag) (xs : List V) (Q : VK) (ks : List V) (H1 : Hp) : Prop := ∃ bs : List (V × PyData), (bs.map fun b => b.1) = xs ∧ DpAll K H1 ks (bs.map fun b => b.2) ∧ AllAlike (bs.map fun b => b.2) ∧ Sortable (bs.map fun b => b.2) ∧
  (∀ b ∈ bs, b.2.depth ≤ 64) ∧ ∀ p, H1 p = none → Q (.ref p) (upd H1 p (.lst ((bs.mergeSort leK).map fun b => b.1)))
def rSortK (K : PySem.W.Frag) (f : Addr) (sp1 : V → Hp → VK → Prop) : List V → List V → Hp → VK → Prop := fun vs zs H Q => ∃ (a : Addr) (xs : List V), vs = [V.ref a] ∧ zs = [V.ref f] ∧ SqL K H a xs ∧ keysQ sp1 xs H (KTail K xs Q)
section
variable {X : Cx} {pins : List (Addr × Obj)} {σ : L2.St} {H : Hp} {s : Shared}
/-- what may be called for a key -/
def KeyAt (X : Cx) (σ : L2.St) (f : Addr) (sp1 : V → Hp → VK → Prop) : Prop := ∀ (pins : List (Addr × Obj)) (s : Shared) (H : Hp) (x : V) (u : Value) (Q : VK) (E : Value → Shared → Prop), Inv X pins σ H s → RelV x u → sp1 x H Q → wpAny (model X.prog X.w) X.A.in1.in1 (call (.ref f) [u]) (EP X pins σ Q) E s
theorem eachOf {ks : List V} {us : List Value} {ds : List PyData} (I : Inv X pins σ H s) : DpAll X.K H ks ds → Vals ks us → EachIs (fun v d => ∃ as, Reads s.heap v d as) us ds := by
  intro hd hv
  induction hv generalizing ds with
  | nil =>
    cases ds with
    | nil => exact .nil
    | cons d ds => cases hd
  | cons r rs ih =>
    cases ds with
    | nil => cases hd
    | cons d ds =>
      cases hd with
      | cons h1 h2 => exact .cons (Dp.reads I _ _ _ h1 r) (ih h2)
theorem eachV : ∀ {bs : List (V × PyData)} {us : List Value}, Vals (bs.map fun b => b.1) us → EachIs (fun v b => RelV b.1 v) us bs
  | [], _, .nil => .nil
  | b :: bs, _, .cons r k => .cons r (eachV k)
theorem valsV : ∀ {bs : List (V × PyData)} {vs : List Value}, EachIs (fun v b => RelV b.1 v) vs bs → Vals (bs.map fun b => b.1) vs
  | _, _, .nil => .nil
  | _, _, .cons r k => .cons r (valsV k)
theorem sortK_at {f : Addr} {sp1 : V → Hp → VK → Prop} {vs zs : List V} {us ws : List Value} {Q : VK} (kc : KeyAt X σ f sp1) (hu : X.A.units + 66 < cLine) (I : Inv X pins σ H s) (r1 : Vals vs us) (r2 : Vals zs ws) (hsp : rSortK X.K f sp1 vs zs H Q) : wpAny (model X.prog X.w) X.A (call (.builtin "sorted") us ([Str.ofString "key"].zip ws)) (EP X pins σ Q) X.xe s := by
  obtain ⟨a, xs, rfl, rfl, hs, hq⟩ := hsp
  obtain ⟨u, rfl, ru⟩ := vals1 r1
  cases ru
  obtain ⟨t, rfl, rt⟩ := vals1 r2
  cases rt
  obtain ⟨its, rv, pl, hl⟩ := I.list hs
  have hL : its.length ≤ sizeLine := by rw [← rv.length]; exact hl
  show wpAny _ _ (call (.builtin "sorted") [.ref a] [(Str.ofString "key", .ref f)]) _ _ s
  refine PySem.W.sorted_of_sort pl.isList hL (PyProof.Rows.ksk_s1 _ _) (fun _ => PyProof.Rows.ksk_l1 _ _) fun E' => ?_
  rw [PyProof.Rows.ksk_t1]
  generalize hb : s.heap.objs.size + 1 = b
  have ho : (copyHeap s.heap its).get? b = some (seqObj "list" its.toArray 0) := by
    rw [← hb]
    exact PySem.W.copyHeap_at s.heap its
  have hbn : s.heap.objs.size ≤ b := by omega
  obtain ⟨e1, ho1⟩ : ∃ e1, ((copyHeap s.heap its).update b (Obj.mapSeq fun _ => (#[] : Array Value))).get? b = some (seqObj "list" #[] e1) := ⟨_, get?_update_seq ho fun _ => #[]⟩
  have hbs : b < (copyHeap s.heap its).objs.size := Heap.lt_size ho
  unfold PyProof.Rows.ksk_tree
  refine wpAny_bind (listItems_at ho rfl ?_)
  refine wpAny_bind (listUpdate_at ho rfl ?_ (by rw [List.size_toArray]; exact hL) (Nat.zero_le _))
  refine wpAny_bind (seqEpoch_at ho1 rfl ?_)
  refine wpAny_bind (wpAny_newTuple ?_ hL)
  refine wpAny_bind (wpAny_newList ?_ (Nat.zero_le _))
  refine wpAny_holding ?_
  generalize hkSe : (((copyHeap s.heap its).update b (Obj.mapSeq fun _ => (#[] : Array Value))).push (seqObj "tuple" its.toArray 0)).objs.size = kS
  have hkS : kS = (copyHeap s.heap its).objs.size + 1 := by rw [← hkSe, size_push', Heap.size_update]
  have hkb : kS ≠ b := by omega
  have hkn : s.heap.objs.size ≤ kS := by omega
  have k0 : ∀ x o, s.heap.get? x = some o → ((((copyHeap s.heap its).update b (Obj.mapSeq fun _ => (#[] : Array Value))).push (seqObj "tuple" its.toArray 0)).push (seqObj "list" #[] 0)).get? x = some o := fun x o e => by
    have hx : x ≠ b := Nat.ne_of_lt (Nat.lt_of_lt_of_le (Heap.lt_size e) hbn)
    refine Heap.get?_push_of_some _ (Heap.get?_push_of_some _ ?_)
    rw [Heap.get?_update_ne _ _ _ _ hx]
    exact PySem.W.copyHeap_old e
  have nk0 : ((((copyHeap s.heap its).update b (Obj.mapSeq fun _ => (#[] : Array Value))).push (seqObj "tuple" its.toArray 0)).push (seqObj "list" #[] 0)).get? kS = some (seqObj "list" #[] 0) := by
    rw [← hkSe]
    exact Heap.get?_push_size _ rfl
  have na0 : ((((copyHeap s.heap its).update b (Obj.mapSeq fun _ => (#[] : Array Value))).push (seqObj "tuple" its.toArray 0)).push (seqObj "list" #[] 0)).get? b = some (seqObj "list" #[] e1) := Heap.get?_push_of_some _ (Heap.get?_push_of_some _ ho1)
  generalize ((((copyHeap s.heap its).update b (Obj.mapSeq fun _ => (#[] : Array Value))).push (seqObj "tuple" its.toArray 0)).push (seqObj "list" #[] 0)) = hN at k0 nk0 na0
  -- what holds at the two lists that are on the way
  have fp : ∀ (H' : Hp) (y : Addr), s.heap.objs.size ≤ y → H' y = none → FpOk X pins H' y := fun H' y hy hn => I.fpOk hy hn
  have notcell : ∀ (xs : Array Value) (n : Nat) v, (seqObj "list" xs n).data ≠ .cell v := fun xs n v z => by cases z
  have mkPins : ∀ {s' : Shared} {H' : Hp} {kA : Array Value} {e : Nat}, Inv X pins σ H' s' → s'.heap.get? kS = some (seqObj "list" kA e) → s'.heap.get? b = some (seqObj "list" #[] e1) → H' kS = none → H' b = none → Inv X ((kS, seqObj "list" kA e) :: (b, seqObj "list" #[] e1) :: pins) σ H' s' := fun {s' H' kA e} I' h1 h2 h3 h4 => by
    have f1 := fp H' kS hkn h3
    have f2 := fp H' b hbn h4
    refine I'.pins_of fun p hp => ?_
    rcases List.mem_cons.mp hp with rfl | hp
    · exact ⟨h1, h3, f1.2.1, f1.2.2.1, notcell _ _⟩
    rcases List.mem_cons.mp hp with rfl | hp
    · exact ⟨h2, h4, f2.2.1, f2.2.2.1, notcell _ _⟩
    · exact I'.pin p (List.mem_append_right _ hp)
  have I0 : Inv X ((kS, seqObj "list" #[] 0) :: (b, seqObj "list" #[] e1) :: pins) σ H { s with heap := hN } := mkPins (s' := { s with heap := hN }) (I.kept (t' := s.toks) k0) nk0 na0 (I.hok.fresh hkn) (I.hok.fresh hbn)
  show wpAny _ _ (PyProof.Rows.ksk_rest b (.ref f) false its.toArray e1 (.ref kS)) _ _ { s with heap := hN }
  unfold PyProof.Rows.ksk_rest
  refine wpAny_bind (wpAny_rule ?_)
  first
    | rw [List.forIn_toArray]
    | (rw [← Array.forIn_toList]; simp only [List.toList_toArray])
    | rw [← Array.forIn_toList]
  refine wpAny_bind (PyProof.Rows.ksk_fold (fun i s' => ∃ (H' : Hp) (ks : List V) (kA : Array Value) (e : Nat), Inv X ((kS, seqObj "list" kA e) :: (b, seqObj "list" #[] e1) :: pins) σ H' s' ∧ Vals ks kA.toList ∧ ks.length = i ∧
      keysQ sp1 (xs.drop i) H' fun ks2 H1 => KTail X.K xs Q (ks ++ ks2) H1) its 0 _
    ⟨H, [], #[], 0, I0, .nil, rfl, by rw [List.drop_zero]; exact hq⟩ ?step ?done)
  case step =>
    rintro j x s' hx ⟨H', ks, kA, e, I', rk, hkl, hqq⟩
    simp only [Nat.zero_add] at hkl hqq ⊢
    have hj : j < its.length := (List.getElem?_eq_some_iff.mp hx).1
    have hjx : j < xs.length := by rw [rv.length]; exact hj
    obtain ⟨u, eu, ru⟩ := rv.get (List.getElem?_eq_getElem hjx)
    rw [hx] at eu
    cases eu
    rw [List.drop_eq_getElem_cons hjx] at hqq
    refine wpAny_bind (wpAny_attempt (wpAny_mono (kc _ s' H' _ x _ (fun _ _ => False) I' ru hqq) (fun v s2 he => ?_) fun _ _ z => z.elim))
    obtain ⟨k, H1, I1, rkv, q1⟩ := he
    have p1 := I1.pin (kS, seqObj "list" kA e) (List.mem_append_right _ List.mem_cons_self)
    have p2 := I1.pin (b, seqObj "list" #[] e1) (List.mem_append_right _ (List.mem_cons_of_mem _ List.mem_cons_self))
    dsimp only at p1 p2
    have hsz : kA.size = j := by
      have h2 : ks.length = kA.toList.length := rk.length
      rw [hkl, Array.length_toList] at h2
      exact h2.symm
    have s1 := Heap.SameBut.update s2.heap kS (Obj.mapSeq (·.push v))
    obtain ⟨c2, hc2⟩ : ∃ c2, (s2.heap.update kS (Obj.mapSeq (·.push v))).get? kS = some (seqObj "list" (kA.push v) c2) := ⟨_, get?_update_seq p1.1 (·.push v)⟩
    dsimp only
    refine wpAny_bind (listUpdate_at p1.1 rfl ?_ (by omega) (by rw [Array.size_push]; omega))
    have I2 : Inv X pins σ H1 s2 := I1.pins_of fun p hp => I1.pin p (List.mem_append_right _ (List.mem_cons_of_mem _ (List.mem_cons_of_mem _ hp)))
    have I3 : Inv X pins σ H1 { s2 with heap := s2.heap.update kS (Obj.mapSeq (·.push v)), toks := s2.toks } := I2.turnedL (ch := [kS]) (fun y o hy ey => (s1.2 y (fun z => hy (by rw [z]; exact List.mem_cons_self))).trans ey) fun y hy => by
      rw [List.mem_singleton.mp hy]
      exact fp H1 kS hkn p1.2.1
    refine wpAny_pure ⟨rfl, H1, ks ++ [k], kA.push v, c2, mkPins I3 hc2 ((s1.2 b hkb.symm).trans p2.1) p1.2.1 p2.2.1, ?_, by rw [List.length_append, hkl]; rfl, ?_⟩
    · rw [Array.toList_push]
      exact rk.append (.cons rkv .nil)
    · have em : ∀ ks2 : List V, ks ++ [k] ++ ks2 = ks ++ k :: ks2 := fun ks2 => by rw [List.append_assoc]; rfl
      simp only [em]
      exact q1
  case done =>
    rintro s' ⟨H', ks, kA, e, I', rk, hkl, hqq⟩
    rw [Nat.zero_add] at hkl hqq
    rw [List.drop_of_length_le (by rw [rv.length]; exact Nat.le_refl _)] at hqq
    obtain ⟨bs, hbx, hd, hal, hsk, hdp, q⟩ := hqq
    rw [List.append_nil] at hd
    have p1 := I'.pin (kS, seqObj "list" kA e) (List.mem_append_right _ List.mem_cons_self)
    have p2 := I'.pin (b, seqObj "list" #[] e1) (List.mem_append_right _ (List.mem_cons_of_mem _ List.mem_cons_self))
    dsimp only at p1 p2
    have hsz : kA.size = its.length := by
      have h2 : ks.length = kA.toList.length := rk.length
      rw [hkl, Array.length_toList] at h2
      exact h2.symm
    have er := eachOf I' hd rk
    refine wpAny_bind (listItems_at p1.1 rfl ?_)
    have S : SortsAt X.prog X.w X.A.in1.in1 s' (dataKind s'.heap (bs.map fun b => b.2)) kA.toList := SortsAt.data er hal hsk fun d hdm => by
      obtain ⟨c, hc, rfl⟩ := List.mem_map.mp hdm
      have := hdp c hc
      show X.A.units + 1 + 1 + c.2.depth < _
      omega
    refine PySem.W.keyH_end (h₁ := without s'.heap kS) (fun y o hy ey => ?_) without_self p1.1 p2.1 hkb S hsz hL fun h' tk c kp hD => ⟨rfl, ?_⟩
    · by_cases z : y = kS
      · rw [z, without_self] at ey
        cases ey
      · rw [without_ne z] at ey
        exact ey
    have kp' : ∀ y o, y ≠ b → y ≠ kS → s'.heap.get? y = some o → h'.get? y = some o := fun y o h1 h2 ey => kp y o h1 (by rw [without_ne h2]; exact ey)
    have rbs : Vals (bs.map fun b => b.1) its := by rw [hbx]; exact rv
    have eo := PySem.W.keyedOut_each (rev := false) (vs := its) (bs := bs) (R := fun v b => RelV b.1 v) (fun b => b.2) ⟨s'.heap, kA.toList, hal, rfl, er⟩ (eachV rbs)
    have hout := valsV eo
    have I2 : Inv X pins σ H' s' := I'.pins_of fun p hp => I'.pin p (List.mem_append_right _ (List.mem_cons_of_mem _ (List.mem_cons_of_mem _ hp)))
    have f1 := fp H' kS hkn p1.2.1
    have f2 := fp H' b hbn p2.2.1
    have nch : ∀ {y : Addr}, y ∉ [kS, b] → y ≠ b ∧ y ≠ kS := fun {y} hy => ⟨fun z => hy (by rw [z]; simp), fun z => hy (by rw [z]; simp)⟩
    have inH : ∀ {y : Addr} {u : HO}, H' y = some u → y ≠ b ∧ y ≠ kS := fun {y u} ey => ⟨fun z => (by rw [z, p2.2.1] at ey; cases ey), fun z => (by rw [z, p1.2.1] at ey; cases ey)⟩
    have hokT : HOk X.prog X.w H' h' := (I2.turnedL (h' := h') (t' := tk) (ch := [kS, b]) (fun y o hy ey => kp' y o (nch hy).1 (nch hy).2 ey) fun y hy => by
      rcases List.mem_cons.mp hy with rfl | hy
      · exact f1
      · rw [List.mem_singleton.mp hy]
        exact f2).hok
    have I3 : Inv X pins σ (upd H' b (.lst ((bs.mergeSort leK).map fun b => b.1))) { s' with heap := h', toks := tk } := by
      refine I2.step (g' := s'.gens) (d' := s'.drawn) (t' := tk) (ch := [kS, b]) (fun y hy => ?_) (fun y o _ _ hy ey _ => kp' y o (nch hy).1 (nch hy).2 ey) (fun y o _ _ hy ey _ => ⟨o.slots, kp' y o (nch hy).1 (nch hy).2 ey⟩) (fun y o hy _ n => by rw [upd_ne (nch hy).1]; exact n) (fun y o hy ey => ⟨o, kp' y o (nch hy).1 (nch hy).2 ey⟩)
        (fun y ts ey => by rw [upd_ne (inH ey).1]; exact ey) (fun y o u ey => by rw [upd_ne (inH ey).1]; exact ey) (fun y ps ey => ⟨#[], by rw [upd_ne (inH ey).1, ey]; simp⟩) (fun m hm => ?_) (L2.HOk.laidN hokT (fun _ _ z => z) p2.2.1 ?_) I2.bare
      · have := List.mem_cons.mp hy
        have g : FpOk X pins H' y := by
          rcases this with rfl | z
          · exact f1
          · rw [List.mem_singleton.mp z]
            exact f2
        exact ⟨g.2.2.2.1, g.2.1, g.2.2.2.2.1, g.2.2.2.2.2⟩
      · obtain ⟨o, es, ep, ho2, r⟩ := hm
        exact ⟨o, es, ep, kp' _ o (fun z => f2.2.1 z.symm) (fun z => f1.2.1 z.symm) ho2, r⟩
      · refine ⟨?_, _, c, hout, hD⟩
        rw [List.length_map, List.length_mergeSort]
        have := rbs.length
        rw [List.length_map] at this
        omega
    exact ⟨.ref b, _, I3, rfl, q b p2.2.1⟩
end
end Fx
/-! a stable sort that the kernel computes -/
namespace Fx
open PySem PyProof.Rows
open PySem.W
def insB {β : Type} (le : β → β → Bool) (a : β) : List β → List β
  | [] => [a]
  | b :: l => if le a b then a :: b :: l else b :: insB le a l
def isB {β : Type} (le : β → β → Bool) : List β → List β
  | [] => []
  | a :: l => insB le a (isB le l)
theorem insB_app {β : Type} {le : β → β → Bool} {a : β} : ∀ {l1 l2 : List β}, (∀ b ∈ l1, le a b = false) → (∀ b, l2.head? = some b → le a b = true) → insB le a (l1 ++ l2) = l1 ++ a :: l2
  | [], [], _, _ => rfl
  | [], b :: l2, _, h => by
    show (if le a b then a :: b :: l2 else b :: insB le a l2) = _
    rw [if_pos (h b rfl)]
    rfl
  | b :: l1, l2, h, k => by
    show (if le a b then _ else b :: insB le a (l1 ++ l2)) = _
    rw [h b List.mem_cons_self, insB_app (fun x hx => h x (List.mem_cons_of_mem _ hx)) k]
    rfl
theorem isB_eq {β : Type} {le : β → β → Bool} (tr : ∀ a b c, le a b = true → le b c = true → le a c = true) (tot : ∀ a b, (le a b || le b a) = true) : ∀ l : List β, l.mergeSort le = isB le l
  | [] => by simp [isB]
  | a :: l => by
    obtain ⟨l1, l2, e1, e2, h⟩ := List.mergeSort_cons tr tot a l
    show _ = insB le a (isB le l)
    rw [← isB_eq tr tot l, e2, e1]
    have sp := List.pairwise_mergeSort tr tot (a :: l)
    rw [e1] at sp
    have sp2 := (List.pairwise_append.mp sp).2.1
    rw [List.pairwise_cons] at sp2
    exact (insB_app (fun b hb => by simpa using h b hb) fun b hb => sp2.1 b (List.mem_of_mem_head? hb)).symm
theorem dataSort_isB {β : Type} (k : β → PyData) (l : List β) : l.mergeSort (dataLe false k) = isB (dataLe false k) l := by
  have tot := sortLe_total (listOrd itemOrd) false fun b : β => keyToks (k b)
  exact isB_eq (fun a b c h1 h2 => tot.trans a b c h1 h2) (fun a b => by
    have := tot.total a b
    rcases this with h | h
    · rw [Bool.or_eq_true]; exact .inl h
    · rw [Bool.or_eq_true]; exact .inr h) l
end Fx
/-! sorted(xs, key=f) on data -/
namespace Fx
open PySem PySem.Spec PyProof.Rows L2
open PySem.W (AllAlike Sortable dataLe EachIs)
open C8 (Cal Mak pe_c pe_mk)
def keysOf (F : Fn) : List D → Option (List D)
  | [] => some []
  | d :: ds => match F [.d d] with
    | .ok s _ => match toD s with
      | some k => (keysOf F ds).map (k :: ·)
      | none => none
    | _ => none
def noTupB (ds : List D) : Bool := ds.all fun
  | .tup _ => false
  | .non => false
  | _ => true
def sortBy (ds ks : List D) : List D := (isB (dataLe false fun b : D × D => toP b.2) (ds.zip ks)).map fun b => b.1
def keysOkB (ks : List D) : Bool := plA 60 ks && alikeB ks && (tupsB ks || noTupB ks)
theorem keysOf_len {F : Fn} : ∀ {ds ks : List D}, keysOf F ds = some ks → ks.length = ds.length
  | [], ks, h => by cases h; rfl
  | d :: ds, ks, h => by
    unfold keysOf at h
    cases hf : F [.d d] with
    | stuck => rw [hf] at h; cases h
    | err e ρ => rw [hf] at h; cases h
    | ok s ρ =>
      rw [hf] at h
      dsimp only at h
      cases ht : toD s with
      | none => rw [ht] at h; cases h
      | some k =>
        rw [ht] at h
        dsimp only at h
        obtain ⟨ks', e1, rfl⟩ := Option.map_eq_some_iff.mp h
        rw [List.length_cons, List.length_cons, keysOf_len e1]
section
variable {c : Cfg} {B : Base} {W : WX} {ts : En} {vs : List (Option V)} {ρ : En} {σ : L2.St} {H : Hp} {te : TE} {fe : M S} {F : Fn} {f : Addr} {G : Hp}
theorem slPush : ∀ {ds : List D} {us : List V} {es : En} {ws : List (Option V)} {own : Owns}, RpAll c G us ds → Sl c B G H es ws own → Sl c B G H (tmp ds ++ es) (tmv us ++ ws) own
  | _, _, _, _, _, .nil, k => k
  | _, _, _, _, _, .cons (v := v) (d := d) (vs := us) (ds := ds) h t, k => by
    have := slPush t (Sl.d h k)
    simpa [tmp, tmv] using this
theorem bare_of {s : S} {x : D} (h : toD s = some x) : bare s = true := by
  cases s with
  | d y => rfl
  | o b y =>
    cases b with
    | none => rfl
    | some p => cases h
  | q ks ds => cases h
theorem zip3 {α β γ δ : Type} {g : γ → δ} : ∀ {xs : List α} {ds : List β} {ks : List γ}, xs.length = ds.length → ds.length = ks.length → (xs.zip (ds.zip ks)).map (fun z => (z.1, g z.2.2)) = xs.zip (ks.map g) ∧ (xs.zip (ds.zip ks)).map (fun z => z.2) = ds.zip ks
  | [], [], [], _, _ => ⟨rfl, rfl⟩
  | x :: xs, d :: ds, k :: ks, h1, h2 => by
    obtain ⟨a, b⟩ := zip3 (g := g) (xs := xs) (ds := ds) (ks := ks) (by simpa using h1) (by simpa using h2)
    simp only [List.zip_cons_cons, List.map_cons, a, b]
    exact ⟨trivial, trivial⟩
  | [], _ :: _, _, h, _ => by simp at h
  | _ :: _, [], _, h, _ => by simp at h
  | _, [], _ :: _, _, h => by simp at h
  | _, _ :: _, [], _, h => by simp at h
theorem rp3 {γ : Type} : ∀ {xs : List V} {ds : List D} {ks : List γ}, RpAll c G xs ds → ∀ z ∈ xs.zip (ds.zip ks), Rp c G z.1 z.2.1
  | _, _, _, .nil => fun z hz => by simp at hz
  | _, _, [], .cons h k => fun z hz => by simp at hz
  | _, _, _ :: ks, .cons h k => fun z hz => by
    rw [List.zip_cons_cons, List.zip_cons_cons] at hz
    rcases List.mem_cons.mp hz with rfl | hz
    · exact h
    · exact rp3 k z hz
end
end Fx
/-! own errors with fields: the promise of an __init__ that says super().__init__(f'..'), then self.f = f -/
/-! own errors with fields: one field, two fields; raise X(..) -/
/-! try: .. except X as e: the suite knows what e is -/
/-! in the suite: isinstance(e, X), e.f -/
/-! x(lambda: e), the lambda capturing names: x calls it first of all, in try: .. except .. as .. -/
namespace Fx
open PySem PySem.Spec PyProof.Rows L2
open C8 (Cal Mak pe_c pe_mk)
open LamX (Tabs TabS TabB ExtN CodeO codeO_ne GivesTo tLam lamCx lamEnv pe_lamcall)
/-- the values alone that stay -/
def dOnly : Option S → Option S
  | some (.d x) => some (.d x)
  | _ => none
section
variable {c : Cfg} {B B' : Base} {G H H1 : Hp} {ts ρ : En} {vs : List (Option V)} {σ : L2.St}
theorem Sl.only : ∀ {es : En} {vs : List (Option V)} {own : Owns}, Sl c B G H es vs own → Sl c B' G H (es.map dOnly) vs []
  | _, _, _, .nil => .nil
  | _, _, _, .skip k => .skip (Sl.only k)
  | _, _, _, .d h k => .d h (Sl.only k)
  | _, _, _, .o _ _ k => .skip (Sl.only k)
  | _, _, _, .q _ k => .skip (Sl.only k)
end
section
variable {X : Cx} {c : Cfg} {W : WX} {F : Out S → Out S} {fb : M S} {t : XK → TE}
variable {x a : Str} {cc Pt : Addr} {k kk : Nat} {params : Arguments} {body : Expr} {scope : Scope} {p lpos pos : Pos}
/-! a lambda that changes one owned cell that it captures -/
theorem Rep.swap {B : Base} {s1 s2 : S} {v1 v2 : Option V} {T ρ : En} {V : List (Option V)} {σ : L2.St} {H : Hp} (r : Rep c B (some s1 :: some s2 :: T) (v1 :: v2 :: V) ρ σ H) : Rep c B (some s2 :: some s1 :: T) (v2 :: v1 :: V) ρ σ H := by
  obtain ⟨G, o1, o2, k, h1, h2⟩ := r
  obtain ⟨w1, os1, own1, rfl, e1, rfl, h3⟩ := h1.unone
  obtain ⟨w2, os2, own2, rfl, e2, rfl, h4⟩ := h3.unone
  have pm : (os2 ++ (os1 ++ own2) ++ o2).Perm (os1 ++ (os2 ++ own2) ++ o2) := by
    refine List.Perm.append_right _ ?_
    rw [← List.append_assoc, ← List.append_assoc]
    exact List.Perm.append_right _ List.perm_append_comm
  exact ⟨G, os2 ++ (os1 ++ own2), o2, k.subO (fun p hp => pm.subset hp) (pm.nodup_iff.mpr k.nd), Sl.one e2 (Sl.one e1 h4), h2⟩
end
end Fx
/-! a lambda of one parameter that captures names, called for its key -/
namespace Fx
open PySem PySem.Spec PyProof.Rows L2
open LamX (Tabs TabS TabB ExtN CodeO codeO_ne inv_table among_app lamCx lamEnv)
/-- the lambda's names: its parameter, captured ones, globals -/
structure LamSK (sc scope : Scope) (a : Str) : Prop where
  kind : scope.kind = .function
  co : scope.isCoroutine = false
  gen : scope.isGenerator = false
  par : scope.names.lookup a = some .local
  own : ∀ y ∈ scope.names, (y.2 = .local → y.1 = a) ∧ y.2 ≠ .cell
  free : ∀ y ∈ scope.names, y.2 = .free → sc.names.lookup y.1 = some .cell ∨ sc.names.lookup y.1 = some .free
def lamSKB (sc scope : Scope) (a : Str) : Bool :=
  decide (scope.kind = .function) && !scope.isCoroutine && !scope.isGenerator && decide (scope.names.lookup a = some .local) && scope.names.all fun y => (!decide (y.2 = .local) || decide (y.1 = a)) && !decide (y.2 = .cell) && (!decide (y.2 = .free) || decide (sc.names.lookup y.1 = some .cell) || decide (sc.names.lookup y.1 = some .free))
theorem lamSK_by {sc scope : Scope} {a : Str} (h : lamSKB sc scope a = true) : LamSK sc scope a := by
  unfold lamSKB at h
  simp only [Bool.and_eq_true, Bool.or_eq_true, Bool.not_eq_true', decide_eq_true_eq, decide_eq_false_iff_not, List.all_eq_true] at h
  obtain ⟨⟨⟨⟨h1, h2⟩, h3⟩, h5⟩, h4⟩ := h
  refine ⟨h1, h2, h3, h5, fun y hy => ⟨fun e => ?_, (h4 y hy).1.2⟩, fun y hy e => ?_⟩
  · rcases (h4 y hy).1.1 with z | z
    · exact absurd e z
    · exact z
  · rcases (h4 y hy).2 with (z | z) | z
    · exact absurd e z
    · exact .inl z
    · exact .inr z
theorem LamSK.has {X : Cx} {scope : Scope} {a : Str} (L : LamSK X.env.scope scope a) (ok : X.Ok) : ∀ y ∈ scope.names, y.2 = .free → ∃ c, X.env.cells.lookup y.1 = some c := fun y hy e => by
  rcases L.free y hy e with k | k
  · exact ok.has _ (.inl k)
  · exact ok.has _ (.inr k)
abbrev lamOb (q : Str) (params : Arguments) (body : Expr) (scope : Scope) (clo : List (Str × Addr)) (pm : Value) (c' : Addr) (ctv : Value) : Obj := PySem.W.kla_obj "<lambda>" q params body scope clo pm c' ctv
section
variable {X : Cx} {pins : List (Addr × Obj)} {σ : L2.St} {H : Hp} {s : Shared}
theorem keyL_start {E : XK} {scope : Scope} {f c' : Addr} {h₁ : Heap} {tk : Nat} {a : Str} {j : Nat} {x : V} {u : Value} (I : Inv X pins σ H s) (L : LamSK X.env.scope scope a) (hd : X.A.handled = none) (hN : X.N.Nodup) (hj : X.N[j]? = some a) (r : RelV x u)
    (hns : h₁.Ns s.heap.objs.size fun y => ([(a, u)] : List (Str × Value)).reverse.lookup y) (kp : ∀ b o, s.heap.get? b = some o → h₁.get? b = some o) :
    Inv (lamCx X X.A.in1.in1 X.stack s H E scope f c') [] (σ.set j (some x)) H { s with heap := h₁, toks := tk } := by
  have e0 := I.env0.in1.in1
  have hfree := L.has I.ok
  have cm : ∀ {y c}, (cloFrom X.env.cells scope.names []).lookup y = some c → X.env.cells.lookup y = some c := fun {y c} e => by
    rcases cloFrom_mem (PySem.mem_of_lookup e) with hm | ⟨h1, h2⟩
    · cases hm
    · obtain ⟨c1, hc⟩ := hfree _ h1 rfl
      have hc : X.env.cells.lookup y = some c1 := hc
      have e2 : c = c1 := by
        rw [h2, hc] <;> rfl
      rw [e2]
      exact hc
  have look : ∀ {y}, scope.names.lookup y = some .free → ∃ c, (cloFrom X.env.cells scope.names []).lookup y = some c := fun {y} hl => by
    have hy : (y, NameKind.free) ∈ scope.names := PySem.mem_of_lookup hl
    exact mem_lookup (cloFrom_has (cells := X.env.cells) (acc := []) hy)
  have cellK : ∀ {c : Addr} {v : Option Value}, s.heap.IsCell c v → h₁.IsCell c v := fun {c v} ⟨o, ho, hd⟩ => ⟨_, kp _ _ ho, hd⟩
  have noA : ∀ b : Addr, b ∉ (lamCx X X.A.in1.in1 X.stack s H E scope f c').ex := fun b z => absurd (show b ∈ ([] : List Addr) from z) (by simp)
  have hjl : j < σ.length := by
    rw [I.len]
    exact (List.getElem?_eq_some_iff.mp hj).1
  refine ⟨⟨e0.mod, L.kind, rfl, rfl, Nat.le_refl _, fun y z c e1 e2 => I.ok.inj y z c (cm e1) (cm e2), fun y hy => ?_, fun y c z _ => ?_, fun _ => hd, Around.frames_deeper e0.frames, .inr ⟨rfl, rfl⟩, fun b z => absurd z (noA b), e0.bs, e0.bsz, fun b _ _ => noA b,
      fun b z => absurd z (noA b), e0.funs, e0.frf⟩,
    rfl, e0.bare, Un.kept kp, ⟨_, hns, fun i y v e1 e2 e3 => ?_⟩, fun y c e => ?_, e0.hok.fresh (Nat.le_refl _), fun y c e => ?_, fun q hq => absurd (show q ∈ ([] : List (Addr × Obj)) ++ [] from hq) (by simp), e0.hok.kept kp, by rw [List.length_set]; exact I.len⟩
  · have hy : scope.names.lookup y = some .cell ∨ scope.names.lookup y = some .free := hy
    rcases hy with hy | hy
    · exact absurd rfl (L.own _ (PySem.mem_of_lookup hy)).2
    · exact look hy
  · have z : false = true := z
    cases z
  · have e3 : Vis scope y := e3
    have e1 : X.N[i]? = some y := e1
    rcases e3 with k | k | k
    · have ya : y = a := (L.own _ (PySem.mem_of_lookup k)).1 rfl
      subst ya
      have ij : i = j := (List.getElem?_inj (List.getElem?_eq_some_iff.mp e1).1 hN).mp (e1.trans hj.symm)
      subst ij
      rw [List.getElem?_set_self hjl] at e2
      cases e2
      refine ⟨u, r, .inl ⟨k, ?_⟩⟩
      simp
    · exact absurd rfl (L.own _ (PySem.mem_of_lookup k)).2
    · have ij : j ≠ i := fun z => by
        subst z
        rw [hj] at e1
        cases e1
        rw [L.par] at k
        cases k
      rw [List.getElem?_set_ne ij] at e2
      obtain ⟨m, hn, hl⟩ := I.loc
      have hvis : Vis X.env.scope y := (L.free _ (PySem.mem_of_lookup k) rfl).elim (fun k => .inr (.inl k)) (fun k => .inr (.inr k))
      obtain ⟨w', r, q⟩ := hl i y v e1 e2 hvis
      obtain ⟨c2, h2⟩ := look k
      refine ⟨w', r, .inr ⟨.inr k, c2, h2, ?_⟩⟩
      have c1 := cm h2
      rcases q with ⟨k', _⟩ | ⟨_, c3, e', z⟩
      · have k' : X.env.scope.names.lookup y = some .local := k'
        rcases L.free _ (PySem.mem_of_lookup k) rfl with k2 | k2 <;> rw [show X.env.scope.names.lookup y = _ from k2] at k' <;> cases k'
      · rw [c1] at e'
        cases e'
        exact cellK z
  · obtain ⟨w', z⟩ := I.cell y c (cm e)
    exact ⟨w', cellK z⟩
  · exact I.freeC y c (cm e)
/-- what the lambda's call asks -/
def spL (q : Str) (params : Arguments) (body : Expr) (scope : Scope) (clo : List (Str × Addr)) (pm : Value) (c' : Addr) (ctv : Value) (f : Addr) (j : Nat) (tb : TE) (σ : L2.St) : V → Hp → VK → Prop := fun x H Q => H f = some (Rw.LamO f (lamOb q params body scope clo pm c' ctv)) ∧ H c' = some (CodeO c' q) ∧ tb (σ.set j (some x)) H Q
theorem key_lam {f c' : Addr} {pm ctv : Value} {params : Arguments} {body : Expr} {scope : Scope} {k j : Nat} {a : Str} {tb : TE} (L : LamSK X.env.scope scope a) (hN : X.N.Nodup) (hj : X.N[j]? = some a) (hr : Room (k + 3) X.A)
    (hbind : ∀ u : Value, bindArgs (PySem.W.kla_fn "<lambda>" (X.env.qual ++ "<lambda>") params body scope (cloFrom X.env.cells scope.names []) pm (.ref c') ctv) ⟨[u], []⟩ = pure [(a, u)])
    (hbody : ∀ (A : Around) (outer : List Env) (s : Shared) (H : Hp), Room k (A.deeper (lamEnv X scope s.heap.objs.size f c')) → PE (lamCx X A outer s H L2.E0 scope f c') body tb) :
    KeyAt X σ f (spL (X.env.qual ++ "<lambda>") params body scope (cloFrom X.env.cells scope.names []) pm c' ctv f j tb σ) := by
  rintro pins s H x u Q E I r ⟨hf, hc, ht⟩
  have of1 := Rw.lamO_at I.hok hf
  obtain ⟨⟨oc, vs, t, hoc, hdc, hvc⟩, _, _⟩ := I.hok c' _ hc
  have hr2 : Room (k + 1) X.A.in1.in1 := (hr.mono (by omega)).in1.in1
  have hd : X.A.handled = none := hr.hd
  have rc : codeAny (model X.prog X.w) X.A.in1.in1 (.call (.ref f) ⟨[u], []⟩) (CR (L2.CX X.prog X.w) X.stack X.prog X.w H s Q L2.E0) s := by
    refine PySem.W.kla_callFunE hr2.depth of1 rfl L.co L.gen rfl ⟨c', oc, vs, t, rfl, hoc, hdc, hvc⟩ ?_
    rw [hbind]
    refine wpAny_pure (wpAny_newFunctionEnv (fun y hy => (L.own y hy).2) (fun y hy => ?_) (fun h₁ hns hsb => ⟨I.nolimit.fresh _ hsb, ?_⟩) L.kind)
    · rw [List.mem_singleton.mp hy]
      exact L.par
    show codeAny _ _ (.expr body (lamEnv X scope s.heap.objs.size f c')) _ _
    have kp : ∀ b o, s.heap.get? b = some o → h₁.get? b = some o := fun b o e => hsb.extBut b o (Nat.ne_of_lt (Heap.lt_size e)) (Heap.get?_push_of_some _ e)
    have J : Inv (lamCx X X.A.in1.in1 X.stack s H L2.E0 scope f c') [] (σ.set j (some x)) H { s with heap := h₁, toks := s.toks + ([(a, u)] : List (Str × Value)).length } :=
      keyL_start I L hd hN hj r hns kp
    refine PySem.W.kla_codeExpr (wpAny_mono ((hbody _ _ s H (hr2.deeper _)).run [] _ _ H Q J ht) (fun v s' hq => ?_) fun e s' hq => hq)
    obtain ⟨w', H', J', rv, q⟩ := hq
    exact ⟨w', H', J'.os, J'.bare, J'.base, J'.hok, rv, q⟩
  refine wpAny_call (codeAny_mono rc fun r s' hq => ?_)
  cases r with
  | error e =>
    obtain ⟨_, _, _, _, _, _, _, _, _, _, _, _, z⟩ := (show L2.CX X.prog X.w X.stack H s L2.E0 e s' from hq)
    exact z.elim
  | ok fl =>
    cases fl with
    | ret u => exact I.after hq
    | next => exact False.elim hq
    | brk => exact False.elim hq
    | cont => exact False.elim hq
/-- what a capturing lambda's making asks and gives -/
def tLamK (T : List (Addr × Str)) (q : Str) (params : Arguments) (body : Expr) (scope : Scope) (clo : List (Str × Addr)) (R : Addr → Addr → Value → Value → Hp → Prop) : Hp → Prop := fun H => Tabs T H ∧ ∀ (f c' : Addr) (pm ctv : Value) (H1 : Hp), ExtN H H1 → Tabs T H1 → H1 f = none → H1 c' = some (CodeO c' q) →
  R f c' pm ctv (upd H1 f (Rw.LamO f (lamOb q params body scope clo pm c' ctv)))
theorem lam_makeK {T : List (Addr × Str)} {c P : Addr} {params : Arguments} {body : Expr} {scope : Scope} {pos : Pos} {E : Value → Shared → Prop} {Q : Value → Shared → Prop} {R : Addr → Addr → Value → Value → Hp → Prop} (I : Inv X pins σ H s) (TB : TabB X.base X.mg c P) (hcode : X.env.code = .ref c)
    (hm : (P, X.env.qual ++ "<lambda>") ∈ T) (hu : ∀ p ∈ T, p.1 = P → p.2 = X.env.qual ++ "<lambda>") (hdef : defaultsOf params X.env = ([], [])) (hfree : ∀ y ∈ scope.names, y.2 = .free → ∃ c, X.env.cells.lookup y.1 = some c)
    (h : tLamK T (X.env.qual ++ "<lambda>") params body scope (cloFrom X.env.cells scope.names []) R H)
    (hq : ∀ f c' pm ctv H1 s', Inv X pins σ H1 s' → R f c' pm ctv H1 → Q (.ref f) s') :
    wpAny (model X.prog X.w) X.A (eval (.Lambda params body scope pos) X.env) Q E s := by
  obtain ⟨known, go⟩ := h
  have clos := closure_ok (scope := scope) (env := X.env) hfree
  obtain ⟨ps, atP, tri, among⟩ := known _ hm
  have heapP := I.hok _ _ atP
  have code := TB.code.keeps I.bk
  have blt := TB.bm.keeps I.bk
  have glob := I.mod.glob.keeps I.bk
  apply PySem.W.kla_eval hdef
  rcases hc : codeAmong pos ps.toList with _ | cv
  · refine PySem.W.kla_makeFunction clos I.ok.glob glob hcode code heapP tri hc TB.gP blt ?_
    intro d ctv h tk but lo hi rec_ tab
    obtain ⟨d', oc, vs, t, same, at_, fields, name⟩ := rec_
    cases same
    have new : H d = none := I.hok.fresh lo
    have J := inv_table (t' := tk) I atP but tab lo ⟨oc, vs, t, at_, fields, name⟩
    exact hq h.objs.size d _ ctv _ _ (Rw.inv_fun (s := { s with heap := h, toks := tk }) (h := h) (tk := tk) J (fun _ _ e => e) (Nat.le_refl _) rfl) (go _ d _ ctv _ (Rw.more_ext atP new) (Rw.more_tabs known atP new tri among hu) J.fresh upd_same)
  · obtain ⟨d, rfl, at_⟩ := among _ _ hc
    refine PySem.W.kla_makeFunctionHit clos I.ok.glob glob hcode code heapP tri hc blt ?_
    intro ctv h tk grown far
    exact hq h.objs.size d _ ctv _ _ (Rw.inv_fun (h := h) (tk := tk) I grown far rfl) (go _ d _ ctv H (LamX.ExtN.refl H) known (I.hok.fresh far) at_)
/-- sorted(e, key=lambda a: body) -/
def tSortL (K : PySem.W.Frag) (T : List (Addr × Str)) (q : Str) (params : Arguments) (body : Expr) (scope : Scope) (clo : List (Str × Addr)) (j : Nat) (tb te : TE) : TE := fun σ H Q => te σ H fun v H1 => tLamK T q params body scope clo (fun f c' pm ctv H2 => ∃ (a : Addr) (xs : List V), v = .ref a ∧ SqL K H2 a xs ∧ keysQ (spL q params body scope clo pm c' ctv f j tb σ) xs H2 (KTail K xs Q)) H1
theorem pe_sortL {T : List (Addr × Str)} {cc Pt : Addr} {e : Expr} {te : TE} {params : Arguments} {body : Expr} {scope : Scope} {k j : Nat} {a : Str} {tb : TE} {p lpos pos kp : Pos} (TB : TabB X.base X.mg cc Pt) (hcode : X.env.code = .ref cc) (hmT : (Pt, X.env.qual ++ "<lambda>") ∈ T) (hu : ∀ p ∈ T, p.1 = Pt → p.2 = X.env.qual ++ "<lambda>")
    (hdef : defaultsOf params X.env = ([], [])) (L : LamSK X.env.scope scope a) (hN : X.N.Nodup) (hj : X.N[j]? = some a) (hr : Room (k + 3) X.A) (hm : X.mg "sorted" = none) (he : PE X e te) (hg : Gl X "sorted")
    (hbind : ∀ (q : Str) (cl : List (Str × Addr)) (pm cv ctv u : Value), bindArgs (PySem.W.kla_fn "<lambda>" q params body scope cl pm cv ctv) ⟨[u], []⟩ = pure [(a, u)])
    (hbody : ∀ (A : Around) (outer : List Env) (s : Shared) (H : Hp) (f c' : Addr), Room k (A.deeper (lamEnv X scope s.heap.objs.size f c')) → PE (lamCx X A outer s H L2.E0 scope f c') body tb)
    (hs : starEach [e] X.env = (false, eval e X.env) :: starEach [] X.env) (hs2 : backTo pos (starEach [e] X.env) = (false, eval e X.env) :: backTo pos (starEach [] X.env)) (hpl2 : (backTo pos (starEach [e] X.env)).any (·.1) = false)
    (hall : (backToKw pos (keywordEach [⟨some "key", .Lambda params body scope lpos, kp⟩] X.env)).all (·.1.isSome) = true) (hnone : (backToKw pos (keywordEach [⟨some "key", .Lambda params body scope lpos, kp⟩] X.env)).any (·.1.isNone) = false) (hks : (backToKw pos (keywordEach [⟨some "key", .Lambda params body scope lpos, kp⟩] X.env)).filterMap (·.1) = [Str.ofString "key"]) :
    PE X (.Call (.Name "sorted" p) [e] [⟨some "key", .Lambda params body scope lpos, kp⟩] pos) (tSortL X.K T (X.env.qual ++ "<lambda>") params body scope (cloFrom X.env.cells scope.names []) j tb te) := by
  refine ⟨fun pins s σ H Q I h => ?_⟩
  have ha : PA X [e] (tCons te tNil) := pa_cons he pa_nil hs
  have hlam : PE X (.Lambda params body scope lpos) (fun σ H Q => tLamK T (X.env.qual ++ "<lambda>") params body scope (cloFrom X.env.cells scope.names []) (fun f c' pm ctv H2 => Q (.ref f) H2) H) := ⟨fun pins s σ H Q I h => lam_makeK I TB hcode hmT hu hdef (L.has I.ok) h fun f c' pm ctv H1 s' I1 q => ⟨.ref f, H1, I1, rfl, q⟩⟩
  have hk : PK X [⟨some "key", .Lambda params body scope lpos, kp⟩] (tCons _ tNil) := pk_cons hlam pk_nil
  refine wpAny_Call_Name_kw (ld_blt (u := .builtin "sorted") I hg hm (by decide +kernel) ?_ (by decide) (by decide))
  refine PyProof.Rows.callWith_kw (thn (ha.run pos pins s σ H (fun vs H1 => match vs with
    | [v] => tLamK T (X.env.qual ++ "<lambda>") params body scope (cloFrom X.env.cells scope.names []) (fun f c' pm ctv H2 => ∃ (a : Addr) (xs : List V), v = .ref a ∧ SqL X.K H2 a xs ∧ keysQ (spL (X.env.qual ++ "<lambda>") params body scope (cloFrom X.env.cells scope.names []) pm c' ctv f j tb σ) xs H2 (KTail X.K xs Q)) H1
    | _ => False) I h) fun us s1 ⟨vs, H1, I1, r1, q1⟩ => ?_) hs2 hpl2 hall hnone
  match vs, q1, r1 with
  | [v], q1, r1 =>
  refine thn (hk.run pos pins s1 σ H1 (fun zs H2 => ∃ f c' pm ctv, zs = [V.ref f] ∧ ∃ (a : Addr) (xs : List V), v = .ref a ∧ SqL X.K H2 a xs ∧ keysQ (spL (X.env.qual ++ "<lambda>") params body scope (cloFrom X.env.cells scope.names []) pm c' ctv f j tb σ) xs H2 (KTail X.K xs Q)) I1 ⟨q1.1, fun f c' pm ctv H2 x1 t1 n1 k1 => ⟨f, c', pm, ctv, rfl, q1.2 f c' pm ctv H2 x1 t1 n1 k1⟩⟩) fun ws s2 ⟨zs, H2, I2, r2, f, c', pm, ctv, ez, aa, xs, ev, hsq, hq⟩ => ?_
  subst ez ev
  rw [hks]
  exact sortK_at (key_lam L hN hj hr (fun u => hbind _ _ pm (.ref c') ctv u) (fun A outer s H hr' => hbody A outer s H f c' hr')) (un66 (hr.mono (by omega) : Room 0 X.A)) I2 r1 r2 ⟨aa, xs, rfl, rfl, hsq, hq⟩
end
end Fx
/-! sorted(xs, key=lambda a: body) on data -/
namespace Fx
open PySem PySem.Spec PyProof.Rows L2
open LamX (Tabs TabS TabB ExtN CodeO codeO_ne lamCx lamEnv)
open PySem.W (AllAlike Sortable dataLe EachIs)
def lamF (j : Nat) (fb : M S) (ρ : En) : Fn := fun args => match args with
  | [.d d] => fb ((ρ.map dOnly).set j (some (.d d)))
  | _ => .stuck
def mSortL (j : Nat) (fb fe : M S) : M S := fun ρ => (dv fe ρ).then fun x ρ1 => match x with
  | .lst ds => match keysOf (lamF j fb ρ1) ds with
    | some ks => if keysOkB ks then .ok (.o none (.lst (sortBy ds ks))) ρ1 else .stuck
    | none => .stuck
  | _ => .stuck
section
variable {c : Cfg} {B : Base} {W : WX} {ts : En} {vs : List (Option V)} {ρ : En} {σ : L2.St} {H H1 : Hp} {te tb : TE} {fe fb : M S} {f c' : Addr} {G : Hp} {q : Str} {params : Arguments} {body : Expr} {scope : Scope} {clo : List (Str × Addr)} {pm ctv : Value} {j : Nat}
/-- the two objects of a lambda wait -/
abbrev lamTs (f c' : Addr) (o : Obj) (q : Str) : En := [some (.d (.xo f fun _ => Rw.LamO f o)), some (.d (.xo c' fun _ => CodeO c' q))]
abbrev lamVs (f c' : Addr) : List (Option V) := [some (.ref f), some (.ref c')]
theorem Rep.lam {o : Obj} (r : Rep c B ts vs ρ σ H) (x : ExtN H H1) (t1 : Tabs c.T H1) (nf : H1 f = none) (hc : H1 c' = some (CodeO c' q)) : Rep c B (lamTs f c' o q ++ ts) (lamVs f c' ++ vs) ρ σ (upd H1 f (Rw.LamO f o)) := by
  obtain ⟨G, o1, o2, kk, h1, h2⟩ := r
  have hcell : ∀ p ∈ o1 ++ o2, ∃ u, H p = some u ∧ isCell u := fun p hp => (List.mem_append.mp hp).elim (h1.cellAt p) (h2.cellAt p)
  have hH1 : ∀ p ∈ o1 ++ o2, H1 p = H p ∧ p ≠ f ∧ p ≠ c' := fun p hp => by
    obtain ⟨u, e1, e2⟩ := hcell p hp
    have e3 := x _ _ e1 (isCell_tbl e2)
    refine ⟨e3.trans e1.symm, fun z => ?_, fun z => ?_⟩
    · rw [z, nf] at e3; cases e3
    · rw [z, hc] at e3
      exact isCell_code e2 (Option.some.inj e3).symm
  have cf : c' ≠ f := fun z => by rw [z, nf] at hc; cases hc
  have gs : ∀ a o, G a = some o → H1 a = some o := fun a o e => x _ _ (kk.sub a o e) (isTbl_false (kk.notbl a o e))
  have sG : ∀ a u, G a = some u → upd (upd G c' (CodeO c' q)) f (Rw.LamO f o) a = some u := fun a u e => by
    have e1 := gs a u e
    have af : a ≠ f := fun z => by rw [z, nf] at e1; cases e1
    rw [upd_ne af]
    by_cases ac : a = c'
    · rw [ac, upd_same]
      rw [ac, hc] at e1
      exact e1
    · rw [upd_ne ac]
      exact e
  have hH2 : ∀ p ∈ o1 ++ o2, upd H1 f (Rw.LamO f o) p = H p := fun p hp => by
    rw [upd_ne (hH1 p hp).2.1]
    exact (hH1 p hp).1
  refine ⟨_, o1, o2, ⟨fun a u e => ?_, fun a u e => ?_, kk.nd, fun p hp => ⟨?_, ?_⟩, tabs_new t1 nf⟩, .d (.xo upd_same) (.d (.xo ((upd_ne cf).trans upd_same)) (h1.mono sG fun p hp => hH2 p (List.mem_append_left _ hp))), h2.mono sG fun p hp => hH2 p (List.mem_append_right _ hp)⟩
  · by_cases af : a = f
    · rw [af, upd_same] at e ⊢
      exact e
    · rw [upd_ne af] at e ⊢
      by_cases ac : a = c'
      · rw [ac, upd_same] at e
        rw [ac, hc]
        exact e
      · rw [upd_ne ac] at e
        exact gs a u e
  · by_cases af : a = f
    · rw [af, upd_same] at e
      rw [← Option.some.inj e]
      rfl
    · rw [upd_ne af] at e
      by_cases ac : a = c'
      · rw [ac, upd_same] at e
        rw [← Option.some.inj e]
        rfl
      · rw [upd_ne ac] at e
        exact kk.notbl a u e
  · rw [upd_ne (hH1 p hp).2.1, upd_ne (hH1 p hp).2.2]
    exact (kk.out p hp).1
  · rw [hH2 p hp]
    exact (kk.out p hp).2
theorem Rep.lamAt {o : Obj} {S1 : List D} {V1 : List V} (hl : V1.length = S1.length) (r : Rep c B (tmp S1 ++ (lamTs f c' o q ++ ts)) (tmv V1 ++ (lamVs f c' ++ vs)) ρ σ H) : H f = some (Rw.LamO f o) ∧ H c' = some (CodeO c' q) := by
  obtain ⟨G, o1, o2, k, h1, h2⟩ := r
  obtain ⟨a1, a2⟩ := h1.tmp hl
  cases a2 with
  | d x1 a2 =>
    cases a2 with
    | d x2 _ =>
      cases x1 with
      | xo e1 =>
        cases x2 with
        | xo e2 => exact ⟨k.sub _ _ e1, k.sub _ _ e2⟩
theorem Rep.lamOff {o : Obj} {S1 : En} {V1 : List (Option V)} (hl : V1.length = S1.length) : Rep c B (S1 ++ (lamTs f c' o q ++ ts)) (V1 ++ (lamVs f c' ++ vs)) ρ σ H → Rep c B (S1 ++ ts) (V1 ++ vs) ρ σ H := by
  rintro ⟨G, o1, o2, k, h1, h2⟩
  have key : ∀ {S1 : En} {V1 : List (Option V)} {own : Owns}, V1.length = S1.length → Sl c B G H (S1 ++ (lamTs f c' o q ++ ts)) (V1 ++ (lamVs f c' ++ vs)) own → Sl c B G H (S1 ++ ts) (V1 ++ vs) own := fun {S1} => by
    induction S1 with
    | nil =>
      intro V1 own hl h
      have : V1 = [] := List.eq_nil_of_length_eq_zero hl
      subst this
      cases h with
      | d _ h =>
        cases h with
        | d _ h => exact h
    | cons s S1 ih =>
      intro V1 own hl h
      cases V1 with
      | nil => simp at hl
      | cons v V1 =>
        have hl' : V1.length = S1.length := by simpa using hl
        cases h with
        | skip k => exact .skip (ih hl' k)
        | d a k => exact .d a (ih hl' k)
        | o a b k => exact .o a b (ih hl' k)
        | q a k => exact .q a (ih hl' k)
  exact ⟨G, o1, o2, k, key hl h1, h2⟩
theorem Rep.only (r : Rep c B ts vs ρ σ H) : Rep c ⟨fun _ => none⟩ (erE ts ++ erE ρ) (vs ++ σ) (ρ.map dOnly) σ H := by
  obtain ⟨G, o1, o2, k, h1, h2⟩ := r
  exact ⟨G, o1 ++ o2, [], by rw [List.append_nil]; exact k.anyB, h1.er.app h2.er, h2.only⟩
theorem keysL_den {ds : List D} {xs : List V} {W0' : WX} (hb : Den c W0' tb fb) (hl : xs.length = ds.length) : ∀ {rest : List D} {rv : List V} {ks kd : List D} {kv : List V} {H' : Hp} {QQ : List V → Hp → Prop} (i : Nat), ds.drop i = rest → xs.drop i = rv → kv.length = kd.length → Rep c B (tmp (ds ++ kd) ++ (lamTs f c' (lamOb q params body scope clo pm c' ctv) q ++ ts)) (tmv (xs ++ kv) ++ (lamVs f c' ++ vs)) ρ σ H' → keysOf (lamF j fb ρ) rest = some ks →
    (∀ kv' H2, kv'.length = ks.length → Rep c B (tmp (ds ++ (kd ++ ks)) ++ (lamTs f c' (lamOb q params body scope clo pm c' ctv) q ++ ts)) (tmv (xs ++ (kv ++ kv')) ++ (lamVs f c' ++ vs)) ρ σ H2 → QQ kv' H2) → keysQ (spL q params body scope clo pm c' ctv f j tb σ) rv H' QQ
  | [], rv, ks, kd, kv, H', QQ, i, e1, e2, hk, r, ek, qq => by
    cases ek
    have hi := congrArg List.length e1
    rw [List.length_drop] at hi
    have : rv = [] := by
      rw [← e2]
      exact List.drop_of_length_le (by rw [hl]; simp at hi; omega)
    subst this
    refine qq [] H' rfl ?_
    rw [List.append_nil, List.append_nil]
    exact r
  | d :: rest, rv, ks, kd, kv, H', QQ, i, e1, e2, hk, r, ek, qq => by
    have hi : i < ds.length := by
      have := congrArg List.length e1
      rw [List.length_drop, List.length_cons] at this
      omega
    have hix : i < xs.length := by omega
    rw [List.drop_eq_getElem_cons hi] at e1
    rw [List.drop_eq_getElem_cons hix] at e2
    subst e2
    have ed : ds[i] = d := (List.cons.inj e1).1
    have er : ds.drop (i + 1) = rest := (List.cons.inj e1).2
    unfold keysOf at ek
    cases hf : lamF j fb ρ [.d d] with
    | stuck => rw [hf] at ek; cases ek
    | err e ρ' => rw [hf] at ek; cases ek
    | ok s ρ' =>
      rw [hf] at ek
      dsimp only at ek
      cases ht : toD s with
      | none => rw [ht] at ek; cases ek
      | some k =>
        rw [ht] at ek
        dsimp only at ek
        obtain ⟨ks', ek', rfl⟩ := Option.map_eq_some_iff.mp ek
        have hall : (xs ++ kv).length = (ds ++ kd).length := by rw [List.length_append, List.length_append, hl, hk]
        obtain ⟨hf1, hc1⟩ := r.lamAt hall
        have rX : Rep c ⟨fun _ => none⟩ (some (.d d) :: (erE (tmp (ds ++ kd) ++ (lamTs f c' (lamOb q params body scope clo pm c' ctv) q ++ ts)) ++ erE ρ)) (some xs[i] :: ((tmv (xs ++ kv) ++ (lamVs f c' ++ vs)) ++ σ)) (ρ.map dOnly) σ H' := by
          have rw' : ∃ G o1 o2, OkB c B G H' (o1 ++ o2) ∧ Sl c B G H' (tmp (ds ++ kd) ++ (lamTs f c' (lamOb q params body scope clo pm c' ctv) q ++ ts)) (tmv (xs ++ kv) ++ (lamVs f c' ++ vs)) o1 ∧ Sl c B G H' ρ σ o2 ∧ Rp c G xs[i] d := by
            obtain ⟨G, o1, o2, k, h1, h2⟩ := id r
            obtain ⟨a1, a2⟩ := h1.tmp hall
            obtain ⟨w, ew, rw'⟩ := a1.get (i := i) (d := d) (by rw [List.getElem?_append_left hi, List.getElem?_eq_getElem hi, ed])
            rw [List.getElem?_append_left hix, List.getElem?_eq_getElem hix] at ew
            cases ew
            exact ⟨G, o1, o2, k, h1, h2, rw'⟩
          obtain ⟨G, o1, o2, k, h1, h2, rp⟩ := rw'
          exact ⟨G, o1 ++ o2, [], by rw [List.append_nil]; exact k.anyB, .d rp (h1.er.app h2.er), h2.only⟩
        have rS := rX.set (i := j)
        refine ⟨hf1, hc1, hb _ _ _ _ _ H' _ rS ?_⟩
        have hf' : fb ((ρ.map dOnly).set j (some (.d d))) = .ok s ρ' := hf
        rw [hf']
        intro v H1 r'
        have r2 := (Rep.leave (bare_of ht) r r').toD ht
        refine keysL_den hb hl (i + 1) er rfl (kd := kd ++ [k]) (kv := kv ++ [v]) (by rw [List.length_append, List.length_append, hk]; rfl) ?_ ek' fun kv' H2 hkv r3 => ?_
        · have : some (S.d k) :: (tmp (ds ++ kd) ++ (lamTs f c' (lamOb q params body scope clo pm c' ctv) q ++ ts)) = tmp (ds ++ (kd ++ [k])) ++ (lamTs f c' (lamOb q params body scope clo pm c' ctv) q ++ ts) := by simp [tmp]
          rw [← this]
          have : some v :: (tmv (xs ++ kv) ++ (lamVs f c' ++ vs)) = tmv (xs ++ (kv ++ [v])) ++ (lamVs f c' ++ vs) := by simp [tmv]
          rw [← this]
          exact r2
        · refine qq (v :: kv') H2 (by rw [List.length_cons, List.length_cons, hkv]) ?_
          rw [List.append_assoc, List.append_assoc] at r3
          exact r3
theorem den_sortL {W0' : WX} (h : Den c W te fe) (hb : Den c W0' tb fb) : Den c W (tSortL c.K c.T q params body scope clo j tb te) (mSortL j fb fe) := fun B ts vs ρ σ H Q r qq => by
  unfold mSortL at qq
  rw [post_then] at qq
  refine h.dv r (qq.imp1 fun x ρ1 qq v H1 r1 => ?_)
  cases x with
  | lst ds =>
    dsimp only at qq
    cases hk : keysOf (lamF j fb ρ1) ds with
    | none => rw [hk] at qq; exact qq.elim
    | some ks =>
      rw [hk] at qq
      dsimp only at qq
      by_cases hp : keysOkB ks = true
      case neg => rw [if_neg hp] at qq; exact qq.elim
      rw [if_pos hp] at qq
      unfold keysOkB at hp
      rw [Bool.and_eq_true, Bool.and_eq_true] at hp
      obtain ⟨⟨hp, hal⟩, htu⟩ := hp
      have hkl := keysOf_len hk
      have htab : Tabs c.T H1 := by
        obtain ⟨_, _, _, k, _⟩ := r1
        exact k.tabs
      refine ⟨htab, fun f c' pm ctv H2 xN tN nf hc => ?_⟩
      have rL := r1.lam (o := lamOb q params body scope clo pm c' ctv) xN tN nf hc
      obtain ⟨a, xs, rfl, hs, hl, r2⟩ : ∃ (a : Addr) (xs : List V), v = .ref a ∧ SqL c.K (upd H2 f (Rw.LamO f (lamOb q params body scope clo pm c' ctv))) a xs ∧ xs.length = ds.length ∧ Rep c B (tmp ds ++ (lamTs f c' (lamOb q params body scope clo pm c' ctv) q ++ ts)) (tmv xs ++ (lamVs f c' ++ vs)) ρ1 σ (upd H2 f (Rw.LamO f (lamOb q params body scope clo pm c' ctv))) := by
        obtain ⟨G, o1, o2, k, h1, h2⟩ := rL
        cases h1 with
        | d x1 h1 =>
          cases h1 with
          | d x2 h1 =>
            cases h1 with
            | d hr ht =>
              obtain ⟨a, xs, rfl, ha, ka⟩ := hr.lstE
              exact ⟨a, xs, rfl, SqL.of (k.sub _ _ ha), ka.length, G, o1, o2, k, slPush ka (.d x1 (.d x2 ht)), h2⟩
      refine ⟨a, xs, rfl, hs, ?_⟩
      refine keysL_den (ts := ts) (vs := vs) (ρ := ρ1) (σ := σ) (B := B) hb hl 0 rfl rfl (kd := []) (kv := []) rfl (by rw [List.append_nil, List.append_nil]; exact r2) hk fun kv H2 hkv r3 => ?_
      rw [List.nil_append, List.nil_append] at r3
      have hall : (xs ++ kv).length = (ds ++ ks).length := by rw [List.length_append, List.length_append, hl, hkv]
      have r3 := Rep.lamOff (S1 := tmp (ds ++ ks)) (V1 := tmv (xs ++ kv)) (by unfold tmp tmv; first | (simp only [List.length_map, List.length_reverse]; exact hall) | simpa using hall) r3
      obtain ⟨G, sub, ra⟩ := r3.read hall
      have rx : RpAll c G xs ds := by
        have := ra.take ds.length
        rw [List.take_left', List.take_left'] at this
        · exact this
        · rfl
        · exact hl
      have rk : RpAll c G kv ks := by
        have := ra.drop ds.length
        rw [List.drop_left', List.drop_left'] at this
        · exact this
        · rfl
        · exact hl
      have e1 : (xs.zip (ks.map toP)).map (fun b => b.1) = xs := by
        rw [List.map_fst_zip]
        rw [List.length_map]
        omega
      have e2 : (xs.zip (ks.map toP)).map (fun b => b.2) = toPs ks := by
        rw [List.map_snd_zip, toPs_map]
        rw [List.length_map]
        omega
      have hpa := List.all_eq_true.mp (plA_all.symm.trans hp)
      refine ⟨xs.zip (ks.map toP), e1, by rw [e2]; exact RpAll.dp sub hp rk, by rw [e2]; exact (alike_of hp hal).1, ?_, fun b hb => ?_, fun p hn => ?_⟩
      · rw [e2, toPs_map]
        rw [Bool.or_eq_true] at htu
        rcases htu with htu | htu
        · refine .inl fun d hd => ?_
          obtain ⟨x, hx, rfl⟩ := List.mem_map.mp hd
          have := List.all_eq_true.mp htu x hx
          cases x <;> first | cases this | skip
          rename_i es
          cases es with
          | nil => cases this
          | cons y ys => exact ⟨toP y, toPs ys, by simp [toP, toPs]⟩
        · refine .inr fun d hd => ?_
          obtain ⟨x, hx, rfl⟩ := List.mem_map.mp hd
          have h1 := List.all_eq_true.mp htu x hx
          have h2 := hpa x hx
          cases x <;> first | (cases h1; done) | (simp [pl] at h2; done) | (simp [toP]; done)
      · have := (List.of_mem_zip (show (b.1, b.2) ∈ _ from hb)).2
        obtain ⟨x, hx, ex⟩ := List.mem_map.mp this
        rw [← ex]
        exact Nat.le_trans (pl60_shaped (hpa x hx)).2 (by decide)
      · refine qq _ _ (r3.newO hall hn fun G' H' e' ra' => ?_)
        have rx' : RpAll c G' xs ds := by
          have := ra'.take ds.length
          rw [List.take_left', List.take_left'] at this
          · exact this
          · rfl
          · exact hl
        refine ⟨_, e', ?_⟩
        obtain ⟨m1, m2⟩ := zip3 (g := toP) (xs := xs) (ds := ds) (ks := ks) hl hkl.symm
        have s1 : (xs.zip (ks.map toP)).mergeSort leK = ((xs.zip (ds.zip ks)).mergeSort (dataLe false fun z : V × D × D => toP z.2.2)).map fun z => (z.1, toP z.2.2) := by
          rw [← m1]
          exact (List.map_mergeSort (r := dataLe false fun z : V × D × D => toP z.2.2) (s := leK) (f := fun z : V × D × D => (z.1, toP z.2.2)) fun a _ b _ => rfl).symm
        have s2 : sortBy ds ks = ((xs.zip (ds.zip ks)).mergeSort (dataLe false fun z : V × D × D => toP z.2.2)).map fun z => z.2.1 := by
          unfold sortBy
          rw [← dataSort_isB]
          have : (ds.zip ks).mergeSort (dataLe false fun b : D × D => toP b.2) = ((xs.zip (ds.zip ks)).mergeSort (dataLe false fun z : V × D × D => toP z.2.2)).map fun z => z.2 := by
            conv => lhs; rw [← m2]
            exact (List.map_mergeSort (r := dataLe false fun z : V × D × D => toP z.2.2) (s := dataLe false fun b : D × D => toP b.2) (f := fun z : V × D × D => z.2) fun a _ b _ => rfl).symm
          rw [this, List.map_map]
          rfl
        rw [s1, s2, List.map_map]
        have z3 := rp3 (ks := ks) rx'
        have key : ∀ l : List (V × D × D), (∀ z ∈ l, Rp c G' z.1 z.2.1) → RpAll c G' (l.map ((fun b => b.1) ∘ fun z : V × D × D => (z.1, toP z.2.2))) (l.map fun z => z.2.1) := fun l => by
          induction l with
          | nil => exact fun _ => .nil
          | cons z l ih => exact fun hz => .cons (hz z List.mem_cons_self) (ih fun y hy => hz y (List.mem_cons_of_mem _ hy))
        exact key _ fun z hz => z3 z (List.mem_mergeSort.mp hz)
  | _ => exact qq.elim
end
section
variable {X : Cx} {c : Cfg} {W : WX} {e : Expr} {te tb : TE} {fe fb : M S} {cc Pt : Addr} {params : Arguments} {body : Expr} {scope : Scope} {p lpos pos kp : Pos} {a : Str} {k kk : Nat}
theorem q_sortL (j : Nat) (TB : TabB X.base X.mg cc Pt) (hmT : (Pt, X.env.qual ++ "<lambda>") ∈ c.T) (hu : ∀ p ∈ c.T, p.1 = Pt → p.2 = X.env.qual ++ "<lambda>") (hr : Room (k + 3) X.A) (L : LamSK X.env.scope scope a) (hN : X.N.Nodup) (hm : X.mg "sorted" = none) (he : QE X c W e te fe)
    (hbody : ∀ (A : Around) (outer : List Env) (s : Shared) (H : Hp) (E : XK) (f c' : Addr), Room k (A.deeper (lamEnv X scope s.heap.objs.size f c')) → QE (lamCx X A outer s H E scope f c') c (fun cls d _ H => E cls d H) body tb fb)
    (hj : X.N[j]? = some a := by rfl) (hg : Gl X "sorted" := by rfl) (hK : X.K = c.K := by rfl) (hcode : X.env.code = .ref cc := by rfl) (hdef : defaultsOf params X.env = ([], []) := by rfl)
    (hbind : ∀ (q : Str) (cl : List (Str × Addr)) (pm cv ctv u : Value), bindArgs (PySem.W.kla_fn "<lambda>" q params body scope cl pm cv ctv) ⟨[u], []⟩ = pure [(a, u)] := by intros; rfl)
    (hs : starEach [e] X.env = (false, eval e X.env) :: starEach [] X.env := by rfl) (hs2 : backTo pos (starEach [e] X.env) = (false, eval e X.env) :: backTo pos (starEach [] X.env) := by rfl) (hpl2 : (backTo pos (starEach [e] X.env)).any (·.1) = false := by rfl)
    (hall : (backToKw pos (keywordEach [⟨some "key", .Lambda params body scope lpos, kp⟩] X.env)).all (·.1.isSome) = true := by rfl) (hnone : (backToKw pos (keywordEach [⟨some "key", .Lambda params body scope lpos, kp⟩] X.env)).any (·.1.isNone) = false := by rfl) (hks : (backToKw pos (keywordEach [⟨some "key", .Lambda params body scope lpos, kp⟩] X.env)).filterMap (·.1) = [Str.ofString "key"] := by rfl) :
    QE X c W (.Call (.Name "sorted" p) [e] [⟨some "key", .Lambda params body scope lpos, kp⟩] pos) (tSortL c.K c.T (X.env.qual ++ "<lambda>") params body scope (cloFrom X.env.cells scope.names []) j tb te) (mSortL j fb fe) :=
  ⟨hK ▸ pe_sortL TB hcode hmT hu hdef L hN hj hr hm he.1 hg hbind (fun A outer s H f c' hr' => (hbody A outer s H L2.E0 f c' hr').pe) hs hs2 hpl2 hall hnone hks, den_sortL he.2 (hbody X.A [] ({} : Shared) (fun _ => none) L2.E0 0 0 (((hr.mono (by omega : k + 1 ≤ k + 3))).deeper _)).dn⟩
end
end Fx
/-! the denotations of routeweb_k47_whole_paid_paths -/
namespace Fx.K47
open PySem PySem.Spec PyProof.Rows L2
open C8 (Cal Mak pe_c pe_mk)
open LamX (Tabs TabS TabB ExtN CodeO codeO_ne)
def topS (i : Nat) : Stmt := PySem.Challenge.pw_routeweb_k47_whole_paid_paths.main.body.getD i (.Pass ⟨0, 0, 0, 0⟩)
abbrev s_is_number : Stmt := topS 6
abbrev n_is_number : List Str := ["value", "low", "high"]
def b_is_number : M Fl := (mRet (mAndV (mCB gIsi (aCons (mVar 0) (aCons (mC (.ty "int")) aNil))) (mAndV (mNotV (mCB gIsi (aCons (mVar 0) (aCons (mC (.ty "bool")) aNil)))) (mChain gLe gLe (mVar 1) (mVar 0) (mVar 2)))))
def f_is_number : Fn := runF 3 3 b_is_number
abbrev s_is_tuple : Stmt := topS 7
abbrev n_is_tuple : List Str := ["value", "least", "most"]
def b_is_tuple : M Fl := (mRet (mAndV (mCB gIsi (aCons (mVar 0) (aCons (mC (.ty "tuple")) aNil))) (mChain gLe gLe (mVar 1) (mCB gLen (aCons (mVar 0) aNil)) (mVar 2))))
def f_is_tuple : Fn := runF 3 3 b_is_tuple
abbrev s_are_numbers : Stmt := topS 8
abbrev n_are_numbers : List Str := ["value", "low", "high", "item"]
def b_are_numbers : M Fl := (mRet (mAndV (mCB gIsi (aCons (mVar 0) (aCons (mC (.ty "tuple")) aNil))) (mCB gAll (aCons (mLc (iSeq (mVar 0)) (gmName 3) mYes (mCall f_is_number (aCons (mVar 3) (aCons (mVar 1) (aCons (mVar 2) aNil)))) [3]) aNil))))
def f_are_numbers : Fn := runF 3 4 b_are_numbers
abbrev s_are_unlike : Stmt := topS 9
abbrev n_are_unlike : List Str := ["values"]
def b_are_unlike : M Fl := (mRet (mOp gEq (mUn gSetL (mVar 0)) (mCB gLen (aCons (mVar 0) aNil))))
def f_are_unlike : Fn := runF 1 1 b_are_unlike
abbrev s_paths_to : Stmt := topS 11
abbrev n_paths_to : List Str := ["heads", "node", "goals", "paths", "waiting", "path", "head"]
def b_paths_to : M Fl := (mSeq (mAsgO 3 (mLst aNil))
    (mSeq (mAsgO 4 (mLst (aCons (mTup (aCons (mVar 1) aNil)) aNil)))
    (mSeq (mWhile (mTruthO 4) (mSeq (mAsg (mMeth0 4 gPop) (gmName 5))
    (mIfS (mTest (mOp gIn (mOp gIx (mVar 5) (mUn gNeg (mC (.int 1)))) (mVar 2))) (mDrop (mMeth1 3 gApp (mVar 5))) (mDrop (mMeth1 4 gExt (mLc (iRevS (aCons (mOp gDget (mVar 0) (mOp gIx (mVar 5) (mUn gNeg (mC (.int 1))))) aNil)) (gmName 6) (mTest (mOp gNotIn (mVar 6) (mVar 5))) (mTup (aStar (mVar 5) (aCons (mVar 6) aNil))) [6]))))) 1000)
    (mRetO 3))))
def f_paths_to : Fn := runF 3 7 b_paths_to
abbrev s_is_pair : Stmt := topS 16
abbrev n_is_pair : List Str := ["size", "value"]
def b_is_pair : M Fl := (mRet (mAndV (mCall f_are_numbers (aCons (mVar 1) (aCons (mC (.int 0)) (aCons (mOp gMinus (mVar 0) (mC (.int 1))) aNil)))) (mAndV (mOp gEq (mCB gLen (aCons (mVar 1) aNil)) (mC (.int 2))) (mOp gNe (mOp gIx (mVar 1) (mC (.int 0))) (mOp gIx (mVar 1) (mC (.int 1)))))))
def f_is_pair : Fn := runF 2 2 b_is_pair
abbrev s_check_trade : Stmt := topS 17
abbrev n_check_trade : List Str := ["trade"]
def b_check_trade : M Fl := (mIfS (mNot (mTest (mIsC "Trade" (mVar 0)))) mSt mNx)
def f_check_trade : Fn := runF 1 1 b_check_trade
abbrev s_is_provider : Stmt := topS 18
abbrev n_is_provider : List Str := ["trade", "one", "other"]
def b_is_provider : M Fl := (mRet (mOp gIn (mTup (aCons (mVar 1) (aCons (mVar 2) aNil))) (mFldE "Trade" 1 (mVar 0))))
def f_is_provider : Fn := runF 3 3 b_is_provider
abbrev s_rank_of_link : Stmt := topS 19
abbrev n_rank_of_link : List Str := ["trade", "one", "other"]
def b_rank_of_link : M Fl := (mSeq (mIfS (mTest (mCall f_is_provider (aCons (mVar 0) (aCons (mVar 1) (aCons (mVar 2) aNil))))) (mRet (mC (.int 0))) mNx)
    (mSeq (mIfS (mOr (mTest (mOp gIn (mTup (aCons (mVar 1) (aCons (mVar 2) aNil))) (mFldE "Trade" 2 (mVar 0)))) (mTest (mOp gIn (mTup (aCons (mVar 2) (aCons (mVar 1) aNil))) (mFldE "Trade" 2 (mVar 0))))) (mRet (mC (.int 1))) mNx)
    (mRet (mIf (mTest (mCall f_is_provider (aCons (mVar 0) (aCons (mVar 2) (aCons (mVar 1) aNil))))) (mC (.int 2)) (mC .non)))))
def f_rank_of_link : Fn := runF 3 3 b_rank_of_link
abbrev s_gains : Stmt := topS 21
abbrev n_gains : List Str := ["trade", "node", "others", "other"]
def b_gains : M Fl := (mRet (mCB gAny (aCons (mLc (iSeq (mVar 2)) (gmName 3) mYes (mCall f_is_provider (aCons (mVar 0) (aCons (mVar 1) (aCons (mVar 3) aNil)))) [3]) aNil)))
def f_gains : Fn := runF 3 4 b_gains
abbrev s_is_paid : Stmt := topS 20
abbrev n_is_paid : List Str := ["trade", "path", "one", "other", "at"]
def b_is_paid : M Fl := (mSeq (mDrop (mCall f_check_trade (aCons (mVar 0) aNil)))
    (mSeq (mIfS (mOr (mNot (mTest (mCall f_are_numbers (aCons (mVar 1) (aCons (mC (.int 0)) (aCons (mOp gMinus (mFldE "Trade" 0 (mVar 0)) (mC (.int 1))) aNil)))))) (mOr (mTest (mOp gEq (mCB gLen (aCons (mVar 1) aNil)) (mC (.int 0)))) (mNot (mTest (mCall f_are_unlike (aCons (mVar 1) aNil)))))) (mRet (mC (.bl false))) mNx)
    (mSeq (mIfS (mNot (mTest (mCB gAll (aCons (mLc (iZip' (aCons (mVar 1) (aCons (mSl (mVar 1) (oSome (mC (.int 1))) oNone) aNil))) (gmTup 2 (gmCons (gmName 2) (gmCons (gmName 3) gmNil))) mYes (mOp gNotN (mCall f_rank_of_link (aCons (mVar 0) (aCons (mVar 2) (aCons (mVar 3) aNil)))) (mC .non)) [2, 3]) aNil)))) (mRet (mC (.bl false))) mNx)
    (mRet (mCB gAll (aCons (mLc (iRange2 (aCons (mC (.int 1)) (aCons (mOp gMinus (mCB gLen (aCons (mVar 1) aNil)) (mC (.int 1))) aNil))) (gmName 4) mYes (mCall f_gains (aCons (mVar 0) (aCons (mOp gIx (mVar 1) (mVar 4)) (aCons (mTup (aCons (mOp gIx (mVar 1) (mOp gMinus (mVar 4) (mC (.int 1)))) (aCons (mOp gIx (mVar 1) (mOp gAdd (mVar 4) (mC (.int 1)))) aNil))) aNil)))) [4]) aNil))))))
def f_is_paid : Fn := runF 2 5 b_is_paid
abbrev s_paid_paths : Stmt := topS 22
abbrev n_paid_paths : List Str := ["trade", "node", "nodes", "heads", "other", "one", "paths", "path"]
def b_paid_paths : M Fl := (mSeq (mDrop (mCall f_check_trade (aCons (mVar 0) aNil)))
    (mSeq (mIfS (mNot (mTest (mCall f_is_number (aCons (mVar 1) (aCons (mC (.int 0)) (aCons (mOp gMinus (mFldE "Trade" 0 (mVar 0)) (mC (.int 1))) aNil)))))) mSt mNx)
    (mSeq (mAsg (mCB gRngV (aCons (mFldE "Trade" 0 (mVar 0)) aNil)) (gmName 2))
    (mSeq (mAsg (mDc (iRngD (mVar 2)) (gmName 5) mYes (mVar 5) (mLc (iRngD (mVar 2)) (gmName 4) (mTest (mOp gNotN (mCall f_rank_of_link (aCons (mVar 0) (aCons (mVar 5) (aCons (mVar 4) aNil)))) (mC .non))) (mVar 4) [4]) [5]) (gmName 3))
    (mSeq (mAsg (mLc (iSeq (mCall f_paths_to (aCons (mVar 3) (aCons (mVar 1) (aCons (mTup (aCons (mC (.int 0)) aNil)) aNil))))) (gmName 7) (mAnd (mTest (mOp gGt (mCB gLen (aCons (mVar 7) aNil)) (mC (.int 1)))) (mTest (mCall f_is_paid (aCons (mVar 0) (aCons (mVar 7) aNil))))) (mVar 7) [7]) (gmName 6))
    (mRet (mSortL 7 (mTup (aCons (mCall f_rank_of_link (aCons (mVar 0) (aCons (mOp gIx (mVar 7) (mC (.int 0))) (aCons (mOp gIx (mVar 7) (mC (.int 1))) aNil)))) (aCons (mCB gLen (aCons (mVar 7) aNil)) (aCons (mVar 7) aNil)))) (mVar 6))))))))
def f_paid_paths : Fn := runF 2 8 b_paid_paths
abbrev s_law_taken : Stmt := topS 24
abbrev n_law_taken : List Str := ["row", "many", "found", "cell"]
def b_law_taken : M Fl := (mSeq (mIfS (mTest (mOp gGt (mIxO 0 (mC (.int 3))) (mC (.int 0)))) (mSeq (mAsg (mOp gMod (mCB gInt1 (aCons (mIxO 0 (mC (.int 3))) aNil)) (mVar 1)) (gmName 2))
    (mSeq (mAsg (mOp gDiv (mIxO 0 (mC (.int 3))) (mVar 1)) (gmItem 0 (mC (.int 3))))
    (mRet (mVar 2)))) mNx)
    (mSeq (mAsg (mOp gAdd (mIxO 0 (mC (.int 1))) (mC (.int 1))) (gmItem 0 (mC (.int 1))))
    (mSeq (mIfS (mTest (mOp gGt (mIxO 0 (mC (.int 1))) (mCB gLen (aCons (mIxO 0 (mC (.int 0))) aNil)))) (mSeq (mAsg (mOp gMod (mCB gInt1 (aCons (mOp gAdd (mOp gMul (mIxO 0 (mC (.int 2))) (mC (.int 48271))) (mC (.int 11))) aNil)) (mC (.int 2147483647))) (gmItem 0 (mC (.int 2))))
    (mRet (mOp gMod (mCB gInt1 (aCons (mOp gDiv (mIxO 0 (mC (.int 2))) (mC (.int 7))) aNil)) (mVar 1)))) mNx)
    (mSeq (mAsg (mOp gIx (mIxO 0 (mC (.int 0))) (mOp gMinus (mIxO 0 (mC (.int 1))) (mC (.int 1)))) (gmName 3))
    (mSeq (mAsg (mOp gMod (mCB gInt1 (aCons (mOp gAdd (mOp gAdd (mOp gMul (mIxO 0 (mC (.int 2))) (mC (.int 48271))) (mVar 3)) (mC (.int 11))) aNil)) (mC (.int 2147483647))) (gmItem 0 (mC (.int 2))))
    (mSeq (mIfS (mTest (mOp gGe (mVar 3) (mOp gPow (mC (.int 10)) (mC (.int 18))))) (mAsg (mOp gDiv (mVar 3) (mVar 1)) (gmItem 0 (mC (.int 3)))) mNx)
    (mRet (mOp gMod (mCB gInt1 (aCons (mVar 3) aNil)) (mVar 1)))))))))
def f_law_taken : Fn := runF 2 4 b_law_taken
abbrev s_law_alike : Stmt := topS 25
abbrev n_law_alike : List Str := ["found", "due", "k"]
def b_law_alike (r : Fn) : M Fl := (mSeq (mIfS (mTest (mIsi2 "tuple" "list" (mVar 1))) (mSeq (mIfS (mOr (mNot (mTest (mIsi2 "tuple" "list" (mVar 0)))) (mTest (mOp gNe (mCB gIsi (aCons (mVar 0) (aCons (mC (.ty "list")) aNil))) (mCB gIsi (aCons (mVar 1) (aCons (mC (.ty "list")) aNil)))))) (mRet (mC (.bl false))) mNx)
    (mSeq (mIfS (mTest (mOp gNe (mCB gLen (aCons (mVar 0) aNil)) (mCB gLen (aCons (mVar 1) aNil)))) (mRet (mC (.bl false))) mNx)
    (mRet (mOp gEq (mLc (iRange1 (aCons (mCB gLen (aCons (mVar 1) aNil)) aNil)) (gmName 2) (mNot (mTest (mCall r (aCons (mOp gIx (mVar 0) (mVar 2)) (aCons (mOp gIx (mVar 1) (mVar 2)) aNil))))) (mVar 2) [2]) (mLst aNil))))) mNx)
    (mSeq (mIfS (mOr (mTest (mOp gIsN (mVar 1) (mC .non))) (mTest (mCB gIsi (aCons (mVar 1) (aCons (mC (.ty "str")) aNil))))) (mRet (mAndV (mOp gEq (mVar 0) (mVar 1)) (mOp gEq (mCB gIsi (aCons (mVar 0) (aCons (mC (.ty "str")) aNil))) (mCB gIsi (aCons (mVar 1) (aCons (mC (.ty "str")) aNil)))))) mNx)
    (mRet (mAndV (mCB gIsi (aCons (mVar 0) (aCons (mC (.ty "int")) aNil))) (mAndV (mOp gEq (mCB gIsi (aCons (mVar 0) (aCons (mC (.ty "bool")) aNil))) (mCB gIsi (aCons (mVar 1) (aCons (mC (.ty "bool")) aNil)))) (mOp gEq (mVar 0) (mVar 1)))))))
def f_law_alike : Nat → Fn
  | 0 => runF 2 3 mSt
  | n + 1 => runF 2 3 (b_law_alike (f_law_alike n))
abbrev s_law_all_paths : Stmt := topS 26
abbrev n_law_all_paths : List Str := ["node", "size", "found", "some", "turn", "longer", "path", "head"]
def b_law_all_paths : M Fl := (mSeq (mPar2 2 false 3 false (psCons (mLst aNil) (psCons (mLst (aCons (mTup (aCons (mVar 0) aNil)) aNil)) psNil)))
    (mSeq (mFor (iRange1 (aCons (mVar 1) aNil)) (gmName 4) (mSeq (mAsg (mLst aNil) (gmName 5))
    (mSeq (mFor (iSeq (mVar 3)) (gmName 6) (mAsg (mOp gAdd (mVar 5) (mLc (iRange1 (aCons (mVar 1) aNil)) (gmName 7) (mTest (mOp gNotIn (mVar 7) (mVar 6))) (mOp gAdd (mVar 6) (mTup (aCons (mVar 7) aNil))) [7])) (gmName 5)))
    (mSeq (mAsg (mOp gAdd (mVar 2) (mLc (iSeq (mVar 5)) (gmName 6) (mTest (mOp gEq (mOp gIx (mVar 6) (mUn gNeg (mC (.int 1)))) (mC (.int 0)))) (mVar 6) [6])) (gmName 2))
    (mAsg (mLc (iSeq (mVar 5)) (gmName 6) (mTest (mOp gNe (mOp gIx (mVar 6) (mUn gNeg (mC (.int 1)))) (mC (.int 0)))) (mVar 6) [6]) (gmName 3))))))
    (mRet (mCB gSortA (aCons (mVar 2) aNil)))))
def f_law_all_paths : Fn := runF 2 8 b_law_all_paths
abbrev s_law_trade : Stmt := topS 27
abbrev n_law_trade : List Str := ["row", "most", "size", "customers", "peers", "is_flat", "one", "other", "way", "pair", "left", "names", "turn"]
def b_law_trade : M Fl := (mSeq (mPar3 2 false 3 true 4 true (psCons (mOp gAdd (mC (.int 2)) (mCallO f_law_taken 0 0 (aOwn 0 (aCons (mOp gMinus (mVar 1) (mC (.int 1))) aNil)))) (psCons (mLst aNil) (psCons (mLst aNil) psNil))))
    (mSeq (mAsg (mOp gGt (mCallO f_law_taken 0 0 (aOwn 0 (aCons (mC (.int 3)) aNil))) (mC (.int 0))) (gmName 5))
    (mSeq (mFor (iRange1 (aCons (mVar 2) aNil)) (gmName 6) (mFor (iRange2 (aCons (mOp gAdd (mVar 6) (mC (.int 1))) (aCons (mVar 2) aNil))) (gmName 7) (mSeq (mAsg (mCallO f_law_taken 0 0 (aOwn 0 (aCons (mC (.int 5)) aNil))) (gmName 8))
    (mSeq (mAsg (mIf (mOr (mTruth (mVar 5)) (mTest (mOp gEq (mCallO f_law_taken 0 0 (aOwn 0 (aCons (mC (.int 2)) aNil))) (mC (.int 0))))) (mTup (aCons (mVar 6) (aCons (mVar 7) aNil))) (mTup (aCons (mVar 7) (aCons (mVar 6) aNil)))) (gmName 9))
    (mIfS (mTest (mOp gLt (mVar 8) (mC (.int 2)))) (mDrop (mMeth1 3 gApp (mVar 9))) (mIfS (mTest (mOp gEq (mVar 8) (mC (.int 2)))) (mDrop (mMeth1 4 gApp (mVar 9))) mNx))))))
    (mSeq (mPar2 10 true 11 true (psCons (mLstRg (mVar 2)) (psCons (mLst aNil) psNil)))
    (mSeq (mFor (iRange1 (aCons (mVar 2) aNil)) (gmName 12) (mDrop (mMeth1 11 gApp (mMeth1 10 gPopAt (mCallO f_law_taken 0 0 (aOwn 0 (aCons (mLenO 10) aNil)))))))
    (mSeq (mAsgO 3 (mCB gTuple (aCons (mLc (iSeq (mVar 3)) (gmTup 2 (gmCons (gmName 6) (gmCons (gmName 7) gmNil))) mYes (mTup (aCons (mIxO 11 (mVar 6)) (aCons (mIxO 11 (mVar 7)) aNil))) [6, 7]) aNil)))
    (mRet (mTup (aCons (mVar 2) (aCons (mVar 3) (aCons (mCB gTuple (aCons (mLc (iSeq (mVar 4)) (gmTup 2 (gmCons (gmName 6) (gmCons (gmName 7) gmNil))) mYes (mTup (aCons (mIxO 11 (mVar 6)) (aCons (mIxO 11 (mVar 7)) aNil))) [6, 7]) aNil)) aNil)))))))))))
def f_law_trade : Fn := runF 2 13 b_law_trade
abbrev s_law_kinds : Stmt := topS 28
abbrev n_law_kinds : List Str := ["told", "found", "one", "other"]
def b_law_kinds : M Fl := (mSeq (mAsgO 1 (mDnew))
    (mSeq (mFor (iSeq (mOp gIx (mVar 0) (mC (.int 1)))) (gmTup 2 (gmCons (gmName 2) (gmCons (gmName 3) gmNil))) (mAsg (mTup (aCons (mC (.str "customer")) (aCons (mC (.str "provider")) aNil))) (gmTup 2 (gmCons (gmItemD 1 (mTup (aCons (mVar 2) (aCons (mVar 3) aNil)))) (gmCons (gmItemD 1 (mTup (aCons (mVar 3) (aCons (mVar 2) aNil)))) gmNil)))))
    (mSeq (mFor (iSeq (mOp gIx (mVar 0) (mC (.int 2)))) (gmTup 2 (gmCons (gmName 2) (gmCons (gmName 3) gmNil))) (mAsg (mTup (aCons (mC (.str "peer")) (aCons (mC (.str "peer")) aNil))) (gmTup 2 (gmCons (gmItemD 1 (mTup (aCons (mVar 2) (aCons (mVar 3) aNil)))) (gmCons (gmItemD 1 (mTup (aCons (mVar 3) (aCons (mVar 2) aNil)))) gmNil)))))
    (mRetO 1))))
def f_law_kinds : Fn := runF 1 4 b_law_kinds
abbrev s_law_paid : Stmt := topS 29
abbrev n_law_paid : List Str := ["kinds", "path", "at"]
def b_law_paid : M Fl := (mSeq (mFor (iRange1 (aCons (mOp gMinus (mCB gLen (aCons (mVar 1) aNil)) (mC (.int 1))) aNil)) (gmName 2) (mIfS (mTest (mInN true (mSl (mVar 1) (oSome (mVar 2)) (oSome (mOp gAdd (mVar 2) (mC (.int 2))))) 0)) (mRet (mC (.bl false))) mNx))
    (mSeq (mFor (iRange2 (aCons (mC (.int 1)) (aCons (mOp gMinus (mCB gLen (aCons (mVar 1) aNil)) (mC (.int 1))) aNil))) (gmName 2) (mIfS (mTest (mOp gNotIn (mC (.str "customer")) (mLst (aCons (mOp gDget (mVar 0) (mTup (aCons (mOp gIx (mVar 1) (mVar 2)) (aCons (mOp gIx (mVar 1) (mOp gMinus (mVar 2) (mC (.int 1)))) aNil)))) (aCons (mOp gDget (mVar 0) (mTup (aCons (mOp gIx (mVar 1) (mVar 2)) (aCons (mOp gIx (mVar 1) (mOp gAdd (mVar 2) (mC (.int 1)))) aNil)))) aNil))))) (mRet (mC (.bl false))) mNx))
    (mRet (mC (.bl true)))))
def f_law_paid : Fn := runF 2 3 b_law_paid
abbrev s_Trade_init : Stmt := inClass (topS 15) 0
abbrev n_Trade_init : List Str := ["self", "size", "customers", "peers", "earlier", "index", "pair"]
def b_Trade_init : M Fl := (mSeq (mIfS (mNot (mTest (mCall f_is_number (aCons (mVar 1) (aCons (mC (.int 1)) (aCons (mC (.int 8)) aNil)))))) mSt mNx)
    (mSeq (mIfS (mOr (mNot (mTest (mCall f_is_tuple (aCons (mVar 2) (aCons (mC (.int 0)) (aCons (mC (.int 56)) aNil)))))) (mNot (mTest (mCall f_is_tuple (aCons (mVar 3) (aCons (mC (.int 0)) (aCons (mC (.int 56)) aNil))))))) mSt mNx)
    (mSeq (mAsgO 4 (mLst aNil))
    (mSeq (mFor (iEnu (aCons (mOp gAdd (mVar 2) (mVar 3)) aNil)) (gmTup 2 (gmCons (gmName 5) (gmCons (gmName 6) gmNil))) (mSeq (mIfS (mOr (mNot (mTest (mCall f_is_pair (aCons (mVar 1) (aCons (mVar 6) aNil))))) (mTest (mOpR gIn (mCB gSortI (aCons (mVar 6) aNil)) 4))) mSt mNx)
    (mDrop (mMeth1 4 gApp (mCB gSortI (aCons (mVar 6) aNil))))))
    (mSeq (mSetF "Trade" 0 0 (mVar 1))
    (mSeq (mSetF "Trade" 1 0 (mVar 2))
    (mSetF "Trade" 2 0 (mVar 3))))))))
def f_Trade_init : Fn := runF 4 7 b_Trade_init
abbrev s_law : Stmt := topS 30
abbrev n_law : List Str := ["script", "row", "turn", "told", "trade", "kinds", "node", "rows", "path", "line"]
def b_law : M Fl := (mSeq (mAsgO 1 (mLst (aCons (mVar 0) (aCons (mC (.int 0)) (aCons (mC (.int 3547)) (aCons (mC (.int 0)) aNil))))))
    (mSeq (mFor (iRange1 (aCons (mC (.int 2)) aNil)) (gmName 2) (mSeq (mAsg (mCallO f_law_trade 1 0 (aOwn 1 (aCons (mC (.int 6)) aNil))) (gmName 3))
    (mSeq (mPar2 4 false 5 false (psCons (mMake "Trade" 3 f_Trade_init (aCons (mOp gIx (mVar 3) (mC (.int 0))) (aCons (mOp gIx (mVar 3) (mC (.int 1))) (aCons (mOp gIx (mVar 3) (mC (.int 2))) aNil)))) (psCons (mCall f_law_kinds (aCons (mVar 3) aNil)) psNil)))
    (mSeq (mIfS (mTest (mOp gNe (mCall f_paid_paths (aCons (mVar 4) (aCons (mC (.int 0)) aNil))) (mLst aNil))) (mRet (mC (.bl false))) mNx)
    (mFor (iRange2 (aCons (mC (.int 1)) (aCons (mOp gIx (mVar 3) (mC (.int 0))) aNil))) (gmName 6) (mSeq (mAsgO 7 (mLst aNil))
    (mSeq (mFor (iSeq (mCall f_law_all_paths (aCons (mVar 6) (aCons (mOp gIx (mVar 3) (mC (.int 0))) aNil)))) (gmName 8) (mIfS (mTruth (mCall f_law_paid (aCons (mVar 5) (aCons (mVar 8) aNil)))) (mDrop (mMeth1 7 gApp (mTup (aCons (mIdxL (mLst (aCons (mC (.str "customer")) (aCons (mC (.str "peer")) (aCons (mC (.str "provider")) aNil)))) (mOp gDget (mVar 5) (mSl (mVar 8) oNone (oSome (mC (.int 2)))))) (aCons (mCB gLen (aCons (mVar 8) aNil)) (aCons (mVar 8) aNil)))))) mNx))
    (mIfS (mNot (mTest (mCall (f_law_alike 6) (aCons (mCall f_paid_paths (aCons (mVar 4) (aCons (mVar 6) aNil))) (aCons (mLc (iSeq (mCB gSortD (aCons (mVar 7) aNil))) (gmName 9) mYes (mOp gIx (mVar 9) (mC (.int 2))) [9]) aNil))))) (mRet (mC (.bl false))) mNx))))))))
    (mRet (mC (.bl true)))))
def f_law : Fn := runF 1 10 b_law
end Fx.K47
/-! the defs of routeweb_k47_whole_paid_paths keep their denotations -/
namespace Fx.K47
open PySem PySem.Spec PyProof.Rows L2
open C8 (Cal Mak pe_c pe_mk)
open LamX (Tabs TabS TabB ExtN CodeO codeO_ne)
theorem sc_is_number : FnScope n_is_number ["value", "low", "high"] (defScope s_is_number) := ⟨rfl, rfl, rfl, by decide +kernel, rfl, by decide +kernel, by decide +kernel⟩
theorem sc_is_tuple : FnScope n_is_tuple ["value", "least", "most"] (defScope s_is_tuple) := ⟨rfl, rfl, rfl, by decide +kernel, rfl, by decide +kernel, by decide +kernel⟩
theorem sc_are_numbers : FnScope n_are_numbers ["value", "low", "high"] (defScope s_are_numbers) := ⟨rfl, rfl, rfl, by decide +kernel, rfl, by decide +kernel, by decide +kernel⟩
theorem sc_are_unlike : FnScope n_are_unlike ["values"] (defScope s_are_unlike) := ⟨rfl, rfl, rfl, by decide +kernel, rfl, by decide +kernel, by decide +kernel⟩
theorem sc_paths_to : FnScope n_paths_to ["heads", "node", "goals"] (defScope s_paths_to) := ⟨rfl, rfl, rfl, by decide +kernel, rfl, by decide +kernel, by decide +kernel⟩
theorem sc_is_pair : FnScope n_is_pair ["size", "value"] (defScope s_is_pair) := ⟨rfl, rfl, rfl, by decide +kernel, rfl, by decide +kernel, by decide +kernel⟩
theorem sc_check_trade : FnScope n_check_trade ["trade"] (defScope s_check_trade) := ⟨rfl, rfl, rfl, by decide +kernel, rfl, by decide +kernel, by decide +kernel⟩
theorem sc_is_provider : FnScope n_is_provider ["trade", "one", "other"] (defScope s_is_provider) := ⟨rfl, rfl, rfl, by decide +kernel, rfl, by decide +kernel, by decide +kernel⟩
theorem sc_rank_of_link : FnScope n_rank_of_link ["trade", "one", "other"] (defScope s_rank_of_link) := ⟨rfl, rfl, rfl, by decide +kernel, rfl, by decide +kernel, by decide +kernel⟩
theorem sc_gains : FnScope n_gains ["trade", "node", "others"] (defScope s_gains) := ⟨rfl, rfl, rfl, by decide +kernel, rfl, by decide +kernel, by decide +kernel⟩
theorem sc_is_paid : FnScope n_is_paid ["trade", "path"] (defScope s_is_paid) := ⟨rfl, rfl, rfl, by decide +kernel, rfl, by decide +kernel, by decide +kernel⟩
theorem sc_paid_paths : FnScope n_paid_paths ["trade", "node"] (defScope s_paid_paths) := ⟨rfl, rfl, rfl, by decide +kernel, rfl, by decide +kernel, by decide +kernel⟩
theorem sc_law_taken : FnScope n_law_taken ["row", "many"] (defScope s_law_taken) := ⟨rfl, rfl, rfl, by decide +kernel, rfl, by decide +kernel, by decide +kernel⟩
theorem sc_law_alike : FnScope n_law_alike ["found", "due"] (defScope s_law_alike) := ⟨rfl, rfl, rfl, by decide +kernel, rfl, by decide +kernel, by decide +kernel⟩
theorem sc_law_all_paths : FnScope n_law_all_paths ["node", "size"] (defScope s_law_all_paths) := ⟨rfl, rfl, rfl, by decide +kernel, rfl, by decide +kernel, by decide +kernel⟩
theorem sc_law_trade : FnScope n_law_trade ["row", "most"] (defScope s_law_trade) := ⟨rfl, rfl, rfl, by decide +kernel, rfl, by decide +kernel, by decide +kernel⟩
theorem sc_law_kinds : FnScope n_law_kinds ["told"] (defScope s_law_kinds) := ⟨rfl, rfl, rfl, by decide +kernel, rfl, by decide +kernel, by decide +kernel⟩
theorem sc_law_paid : FnScope n_law_paid ["kinds", "path"] (defScope s_law_paid) := ⟨rfl, rfl, rfl, by decide +kernel, rfl, by decide +kernel, by decide +kernel⟩
theorem sc_Trade_init : FnScope n_Trade_init ["self", "size", "customers", "peers"] (defScope s_Trade_init) := ⟨rfl, rfl, rfl, by decide +kernel, rfl, by decide +kernel, by decide +kernel⟩
theorem sc_law : FnScope n_law ["script"] (defScope s_law) := ⟨rfl, rfl, rfl, by decide +kernel, rfl, by decide +kernel, by decide +kernel⟩
/-- what the text tells -/
structure Tx (P : Program) (w : World) (c : Cfg) (mg : Str → Option Value) (base : Heap) : Prop where
  b_all : mg "all" = none
  b_any : mg "any" = none
  b_bool : mg "bool" = none
  b_enumerate : mg "enumerate" = none
  b_int : mg "int" = none
  b_isinstance : mg "isinstance" = none
  b_len : mg "len" = none
  b_list : mg "list" = none
  b_range : mg "range" = none
  b_reversed : mg "reversed" = none
  b_set : mg "set" = none
  b_sorted : mg "sorted" = none
  b_str : mg "str" = none
  b_tuple : mg "tuple" = none
  b_zip : mg "zip" = none
  w_ : w = c.w
  c_MOST_NODES : ∃ t, mg "MOST_NODES" = some (Value.int 8 t)
  c_MOST_PAIRS : ∃ t, mg "MOST_PAIRS" = some (Value.int 56 t)
  f_Trade_size : FldOk c "Trade" "size" 0
  f_Trade_customers : FldOk c "Trade" "customers" 1
  f_Trade_peers : FldOk c "Trade" "peers" 2
  l_Trade : (c.flds "Trade").length ≤ 100
  n_Trade : (c.flds "Trade").length = 3
  i_Trade : ClsOk c "Trade"
  g_Trade : mg "Trade" = some (.ref (c.cls "Trade"))
section
variable {P : Program} {w : World} {c : Cfg} {mg : Str → Option Value} {base : Heap}
theorem ok_is_number {f : Addr} {fd : FuncData} (T : Tx P w c mg base) (F : Fun c.K "is_number" "is_number" s_is_number f fd)  : FnOk P w c.K mg base L2.CX0 1 f fd ["value", "low", "high"] (spF c f_is_number) := by
  exact fn_den (k := 0) (N := n_is_number) (ps := ["value", "low", "high"]) (body := b_is_number) F sc_is_number fun cdv A outer s H E hr => QSs.out (by exact (ss_one (s_ret (q_and (q_blt b_isi T.b_isinstance (a_cons (qv 0) (a_cons (qty T.b_int) a_nil))) (q_and (q_not (q_blt b_isi T.b_isinstance (a_cons (qv 0) (a_cons (qty T.b_bool) a_nil)))) (q_one (q_chain (r_le) (r_le) (qv 1) (qv 0) (qv 2))))))))
theorem ok_is_tuple {f : Addr} {fd : FuncData} (T : Tx P w c mg base) (F : Fun c.K "is_tuple" "is_tuple" s_is_tuple f fd)  : FnOk P w c.K mg base L2.CX0 1 f fd ["value", "least", "most"] (spF c f_is_tuple) := by
  exact fn_den (k := 0) (N := n_is_tuple) (ps := ["value", "least", "most"]) (body := b_is_tuple) F sc_is_tuple fun cdv A outer s H E hr => QSs.out (by exact (ss_one (s_ret (q_and (q_blt b_isi T.b_isinstance (a_cons (qv 0) (a_cons (qty T.b_tuple) a_nil))) (q_one (q_chain (r_le) (r_le) (qv 1) (q_blt b_len T.b_len (a_cons (qv 0) a_nil)) (qv 2)))))))
theorem ok_are_numbers {f : Addr} {fd : FuncData} (T : Tx P w c mg base) (F : Fun c.K "are_numbers" "are_numbers" s_are_numbers f fd) (C_is_number : Cal P w c.K mg base 1 "is_number" (spF c f_is_number) []) : FnOk P w c.K mg base L2.CX0 2 f fd ["value", "low", "high"] (spF c f_are_numbers) := by
  exact fn_den (k := 1) (N := n_are_numbers) (ps := ["value", "low", "high"]) (body := b_are_numbers) F sc_are_numbers fun cdv A outer s H E hr => QSs.out (by exact (ss_one (s_ret (q_and (q_blt b_isi T.b_isinstance (a_cons (qv 0) (a_cons (qty T.b_tuple) a_nil))) (q_one (q_blt b_all T.b_all (a_cons (q_lc (own := [("item", 3)]) sc_are_numbers.nd (i_seq (qv 0)) (blkOk_by (own := [("item", 3)]) (N := n_are_numbers) (sc := defScope s_are_numbers) (by decide +kernel)) (fun _ _ _ _ _ => (by exact (g_name 3 sc_are_numbers.nd))) (fun _ _ _ _ _ => (by exact ts_nil)) (fun _ _ _ _ _ => (by exact (q_call C_is_number hr (by omega) (a_cons (qv 3) (a_cons (qv 1) (a_cons (qv 2) a_nil))))))) a_nil)))))))
theorem ok_are_unlike {f : Addr} {fd : FuncData} (T : Tx P w c mg base) (F : Fun c.K "are_unlike" "are_unlike" s_are_unlike f fd)  : FnOk P w c.K mg base L2.CX0 1 f fd ["values"] (spF c f_are_unlike) := by
  exact fn_den (k := 0) (N := n_are_unlike) (ps := ["values"]) (body := b_are_unlike) F sc_are_unlike fun cdv A outer s H E hr => QSs.out (by exact (ss_one (s_ret (q_cmp (r_eq hr) (q_setL T.b_len T.b_set (qv 0)) (q_blt b_len T.b_len (a_cons (qv 0) a_nil))))))
theorem ok_paths_to {f : Addr} {fd : FuncData} (T : Tx P w c mg base) (F : Fun c.K "paths_to" "paths_to" s_paths_to f fd)  : FnOk P w c.K mg base L2.CX0 1 f fd ["heads", "node", "goals"] (spF c f_paths_to) := by
  exact fn_den (k := 0) (N := n_paths_to) (ps := ["heads", "node", "goals"]) (body := b_paths_to) F sc_paths_to fun cdv A outer s H E hr => QSs.out (by exact (ss_cons (s_setO 3 sc_paths_to.nd (q_lst a_nil))
      (ss_cons (s_setO 4 sc_paths_to.nd (q_lst (a_cons (q_tup (a_cons (qv 1) a_nil)) a_nil)))
      (ss_cons (s_while 1000 PassesOwn.never (t_truO 4) (ss_cons (s_set 5 sc_paths_to.nd (q_pop 4))
      (ss_one (s_if (t_cmp (r_in hr) (q_ix (qv 5) (q_neg (qint))) (qv 2) (by with_unfolding_all rfl)) (ss_one (s_expr (q_append 3 (qv 5)))) (ss_one (s_expr (q_extend 4 (q_lc (own := [("head", 6)]) sc_paths_to.nd (i_rev T.b_reversed (a_cons (q_dget hr T.w_ (qv 0) (q_ix (qv 5) (q_neg (qint)))) a_nil)) (blkOk_by (own := [("head", 6)]) (N := n_paths_to) (sc := defScope s_paths_to) (by decide +kernel)) (fun _ _ _ _ _ => (by exact (g_name 6 sc_paths_to.nd))) (fun _ _ _ _ _ => (by exact (ts_one (t_cmp (r_nin hr) (qv 6) (qv 5) (by with_unfolding_all rfl))))) (fun _ _ _ _ _ => (by exact (q_tup (a_star (qv 5) (a_cons (qv 6) a_nil)))))))))))))
      (ss_one (s_retO 3))))))
theorem ok_is_pair {f : Addr} {fd : FuncData} (T : Tx P w c mg base) (F : Fun c.K "_is_pair" "_is_pair" s_is_pair f fd) (C_are_numbers : Cal P w c.K mg base 2 "are_numbers" (spF c f_are_numbers) []) : FnOk P w c.K mg base L2.CX0 3 f fd ["size", "value"] (spF c f_is_pair) := by
  exact fn_den (k := 2) (N := n_is_pair) (ps := ["size", "value"]) (body := b_is_pair) F sc_is_pair fun cdv A outer s H E hr => QSs.out (by exact (ss_one (s_ret (q_and (q_call C_are_numbers hr (by omega) (a_cons (qv 1) (a_cons (qint) (a_cons (q_sub (qv 0) (qint)) a_nil)))) (q_and (q_cmp (r_eq hr) (q_blt b_len T.b_len (a_cons (qv 1) a_nil)) (qint)) (q_one (q_cmp (r_ne hr) (q_ix (qv 1) (qint)) (q_ix (qv 1) (qint)))))))))
theorem ok_check_trade {f : Addr} {fd : FuncData} (T : Tx P w c mg base) (F : Fun c.K "check_trade" "check_trade" s_check_trade f fd)  : FnOk P w c.K mg base L2.CX0 1 f fd ["trade"] (spF c f_check_trade) := by
  exact fn_den (k := 0) (N := n_check_trade) (ps := ["trade"]) (body := b_check_trade) F sc_check_trade fun cdv A outer s H E hr => QSs.out (by exact (ss_one (s_if (t_not (t_val (q_isC "Trade" T.i_Trade T.g_Trade T.b_isinstance (qv 0)))) ss_never ss_nil)))
theorem ok_is_provider {f : Addr} {fd : FuncData} (T : Tx P w c mg base) (F : Fun c.K "_is_provider" "_is_provider" s_is_provider f fd)  : FnOk P w c.K mg base L2.CX0 1 f fd ["trade", "one", "other"] (spF c f_is_provider) := by
  exact fn_den (k := 0) (N := n_is_provider) (ps := ["trade", "one", "other"]) (body := b_is_provider) F sc_is_provider fun cdv A outer s H E hr => QSs.out (by exact (ss_one (s_ret (q_cmp (r_in hr) (q_tup (a_cons (qv 1) (a_cons (qv 2) a_nil))) (q_fld "Trade" 1 T.f_Trade_customers (qv 0)) (by with_unfolding_all rfl)))))
theorem ok_rank_of_link {f : Addr} {fd : FuncData} (T : Tx P w c mg base) (F : Fun c.K "_rank_of_link" "_rank_of_link" s_rank_of_link f fd) (C_is_provider : Cal P w c.K mg base 1 "_is_provider" (spF c f_is_provider) []) : FnOk P w c.K mg base L2.CX0 2 f fd ["trade", "one", "other"] (spF c f_rank_of_link) := by
  exact fn_den (k := 1) (N := n_rank_of_link) (ps := ["trade", "one", "other"]) (body := b_rank_of_link) F sc_rank_of_link fun cdv A outer s H E hr => QSs.out (by exact (ss_cons (s_if (t_val (q_call C_is_provider hr (by omega) (a_cons (qv 0) (a_cons (qv 1) (a_cons (qv 2) a_nil))))) (ss_one (s_ret (qint))) ss_nil)
      (ss_cons (s_if (QW.t (w_or (t_cmp (r_in hr) (q_tup (a_cons (qv 1) (a_cons (qv 2) a_nil))) (q_fld "Trade" 2 T.f_Trade_peers (qv 0)) (by with_unfolding_all rfl)) (w_or1 (t_cmp (r_in hr) (q_tup (a_cons (qv 2) (a_cons (qv 1) a_nil))) (q_fld "Trade" 2 T.f_Trade_peers (qv 0)) (by with_unfolding_all rfl))))) (ss_one (s_ret (qint))) ss_nil)
      (ss_one (s_ret (q_if (t_val (q_call C_is_provider hr (by omega) (a_cons (qv 0) (a_cons (qv 2) (a_cons (qv 1) a_nil))))) (qint) (qnon)))))))
theorem ok_gains {f : Addr} {fd : FuncData} (T : Tx P w c mg base) (F : Fun c.K "_gains" "_gains" s_gains f fd) (C_is_provider : Cal P w c.K mg base 1 "_is_provider" (spF c f_is_provider) []) : FnOk P w c.K mg base L2.CX0 2 f fd ["trade", "node", "others"] (spF c f_gains) := by
  exact fn_den (k := 1) (N := n_gains) (ps := ["trade", "node", "others"]) (body := b_gains) F sc_gains fun cdv A outer s H E hr => QSs.out (by exact (ss_one (s_ret (q_blt b_any T.b_any (a_cons (q_lc (own := [("other", 3)]) sc_gains.nd (i_seq (qv 2)) (blkOk_by (own := [("other", 3)]) (N := n_gains) (sc := defScope s_gains) (by decide +kernel)) (fun _ _ _ _ _ => (by exact (g_name 3 sc_gains.nd))) (fun _ _ _ _ _ => (by exact ts_nil)) (fun _ _ _ _ _ => (by exact (q_call C_is_provider hr (by omega) (a_cons (qv 0) (a_cons (qv 1) (a_cons (qv 3) a_nil))))))) a_nil)))))
theorem ok_is_paid {f : Addr} {fd : FuncData} (T : Tx P w c mg base) (F : Fun c.K "is_paid" "is_paid" s_is_paid f fd) (C_are_numbers : Cal P w c.K mg base 2 "are_numbers" (spF c f_are_numbers) []) (C_are_unlike : Cal P w c.K mg base 1 "are_unlike" (spF c f_are_unlike) []) (C_check_trade : Cal P w c.K mg base 1 "check_trade" (spF c f_check_trade) []) (C_rank_of_link : Cal P w c.K mg base 2 "_rank_of_link" (spF c f_rank_of_link) []) (C_gains : Cal P w c.K mg base 2 "_gains" (spF c f_gains) []) : FnOk P w c.K mg base L2.CX0 3 f fd ["trade", "path"] (spF c f_is_paid) := by
  exact fn_den (k := 2) (N := n_is_paid) (ps := ["trade", "path"]) (body := b_is_paid) F sc_is_paid fun cdv A outer s H E hr => QSs.out (by exact (ss_cons (s_expr (q_call C_check_trade hr (by omega) (a_cons (qv 0) a_nil)))
      (ss_cons (s_if (QW.t (w_or (t_not (t_val (q_call C_are_numbers hr (by omega) (a_cons (qv 1) (a_cons (qint) (a_cons (q_sub (q_fld "Trade" 0 T.f_Trade_size (qv 0)) (qint)) a_nil)))))) (w_or (t_cmp (r_eq hr) (q_blt b_len T.b_len (a_cons (qv 1) a_nil)) (qint)) (w_or1 (t_not (t_val (q_call C_are_unlike hr (by omega) (a_cons (qv 1) a_nil)))))))) (ss_one (s_ret (qbl))) ss_nil)
      (ss_cons (s_if (t_not (t_val (q_blt b_all T.b_all (a_cons (q_lc (own := [("one", 2), ("other", 3)]) sc_is_paid.nd (i_zip T.b_zip (a_cons (qv 1) (a_cons (q_sl (qv 1) (o_some (qint)) o_none) a_nil))) (blkOk_by (own := [("one", 2), ("other", 3)]) (N := n_is_paid) (sc := defScope s_is_paid) (by decide +kernel)) (fun _ _ _ _ _ => (by exact (g_tup 2 (gs_cons (g_name 2 sc_is_paid.nd) (gs_cons (g_name 3 sc_is_paid.nd) gs_nil))))) (fun _ _ _ _ _ => (by exact ts_nil)) (fun _ _ _ _ _ => (by exact (q_cmp (r_nis) (q_call C_rank_of_link hr (by omega) (a_cons (qv 0) (a_cons (qv 2) (a_cons (qv 3) a_nil)))) (qnon))))) a_nil)))) (ss_one (s_ret (qbl))) ss_nil)
      (ss_one (s_ret (q_blt b_all T.b_all (a_cons (q_lc (own := [("at", 4)]) sc_is_paid.nd (i_range2 T.b_range (a_cons (qint) (a_cons (q_sub (q_blt b_len T.b_len (a_cons (qv 1) a_nil)) (qint)) a_nil))) (blkOk_by (own := [("at", 4)]) (N := n_is_paid) (sc := defScope s_is_paid) (by decide +kernel)) (fun _ _ _ _ _ => (by exact (g_name 4 sc_is_paid.nd))) (fun _ _ _ _ _ => (by exact ts_nil)) (fun _ _ _ _ _ => (by exact (q_call C_gains hr (by omega) (a_cons (qv 0) (a_cons (q_ix (qv 1) (qv 4)) (a_cons (q_tup (a_cons (q_ix (qv 1) (q_sub (qv 4) (qint))) (a_cons (q_ix (qv 1) (q_add (qv 4) (qint))) a_nil))) a_nil))))))) a_nil))))))))
theorem ok_paid_paths {f : Addr} {fd : FuncData} (T : Tx P w c mg base) {cc tb : Addr} (F : FunC c.K "paid_paths" "paid_paths" s_paid_paths f fd cc) (TB : TabB base mg cc tb) (hmT : (tb, (Str.ofString "paid_paths" ++ ".<locals>.") ++ "<lambda>") ∈ c.T) (huT : ∀ p ∈ c.T, p.1 = tb → p.2 = (Str.ofString "paid_paths" ++ ".<locals>.") ++ "<lambda>") (C_is_number : Cal P w c.K mg base 1 "is_number" (spF c f_is_number) []) (C_paths_to : Cal P w c.K mg base 1 "paths_to" (spF c f_paths_to) []) (C_check_trade : Cal P w c.K mg base 1 "check_trade" (spF c f_check_trade) []) (C_rank_of_link : Cal P w c.K mg base 2 "_rank_of_link" (spF c f_rank_of_link) []) (C_is_paid : Cal P w c.K mg base 3 "is_paid" (spF c f_is_paid) []) : FnOk P w c.K mg base L2.CX0 6 f fd ["trade", "node"] (spF c f_paid_paths) := by
  exact fnC_den (k := 5) (N := n_paid_paths) (ps := ["trade", "node"]) (body := b_paid_paths) F sc_paid_paths fun A outer s H E hr => QSs.out (by exact (ss_cons (s_expr (q_call C_check_trade hr (by omega) (a_cons (qv 0) a_nil)))
      (ss_cons (s_if (t_not (t_val (q_call C_is_number hr (by omega) (a_cons (qv 1) (a_cons (qint) (a_cons (q_sub (q_fld "Trade" 0 T.f_Trade_size (qv 0)) (qint)) a_nil)))))) ss_never ss_nil)
      (ss_cons (s_set 2 sc_paid_paths.nd (q_blt b_rngV T.b_range (a_cons (q_fld "Trade" 0 T.f_Trade_size (qv 0)) a_nil)))
      (ss_cons (s_setDc 3 hr T.w_ (own := [("one", 5)]) sc_paid_paths.nd (i_rngV (qv 2)) (blkOk_by (own := [("one", 5)]) (N := n_paid_paths) (sc := defScope s_paid_paths) (by decide +kernel)) (fun _ _ _ _ _ => (by exact (g_name 5 sc_paid_paths.nd))) (fun _ _ _ _ _ => (by exact ts_nil)) (fun _ _ _ _ _ => (by exact (qv 5))) (fun _ _ _ _ _ => (by exact (q_lc (own := [("other", 4)]) sc_paid_paths.nd (i_rngV (qv 2)) (blkOk_by (own := [("other", 4)]) (N := n_paid_paths) (by first | kernel_rfl | rfl | with_unfolding_all rfl)) (fun _ _ _ _ _ => (by exact (g_name 4 sc_paid_paths.nd))) (fun _ _ _ _ _ => (by exact (ts_one (t_cmp (r_nis) (q_call C_rank_of_link hr (by omega) (a_cons (qv 0) (a_cons (qv 5) (a_cons (qv 4) a_nil)))) (qnon))))) (fun _ _ _ _ _ => (by exact (qv 4)))))) (hsw := swD rfl rfl rfl (by decide +kernel)))
      (ss_cons (s_setLc (own := [("path", 7)]) 6 sc_paid_paths.nd (i_seq (q_call C_paths_to hr (by omega) (a_cons (qv 3) (a_cons (qv 1) (a_cons (q_tup (a_cons (qint) a_nil)) a_nil))))) (blkOk_by (own := [("path", 7)]) (N := n_paid_paths) (sc := defScope s_paid_paths) (by decide +kernel)) (fun _ _ _ _ _ => (by exact (g_name 7 sc_paid_paths.nd))) (fun _ _ _ _ _ => (by exact (ts_one (QW.t (w_and (t_cmp (r_gt) (q_blt b_len T.b_len (a_cons (qv 7) a_nil)) (qint)) (w_and1 (t_val (q_call C_is_paid hr (by omega) (a_cons (qv 0) (a_cons (qv 7) a_nil)))))))))) (fun _ _ _ _ _ => (by exact (qv 7))) (hw := sw_true rfl rfl rfl (by decide +kernel)))
      (ss_one (s_ret (q_sortL 7 TB hmT huT hr (lamSK_by (a := "path") (by kernel_rfl)) sc_paid_paths.nd T.b_sorted (qv 6) (fun A outer s H E f c' hr => (by exact (q_tup (a_cons (q_call C_rank_of_link hr (by omega) (a_cons (qv 0) (a_cons (q_ix (qv 7) (qint)) (a_cons (q_ix (qv 7) (qint)) a_nil)))) (a_cons (q_blt b_len T.b_len (a_cons (qv 7) a_nil)) (a_cons (qv 7) a_nil)))))))))))))))
theorem ok_law_taken {f : Addr} {fd : FuncData} (T : Tx P w c mg base) (F : Fun c.K "_law_taken" "_law_taken" s_law_taken f fd)  : FnOk P w c.K mg base L2.CX0 1 f fd ["row", "many"] (spF c f_law_taken) := by
  exact fn_den (k := 0) (N := n_law_taken) (ps := ["row", "many"]) (body := b_law_taken) F sc_law_taken fun cdv A outer s H E hr => QSs.out (by exact (ss_cons (s_if (t_cmp (r_gt) (q_ixO 0 (qint)) (qint)) (ss_cons (s_set 2 sc_law_taken.nd (q_mod (q_blt b_int T.b_int (a_cons (q_ixO 0 (qint)) a_nil)) (qv 1)))
      (ss_cons (s_asg (q_fdiv (q_ixO 0 (qint)) (qv 1)) (g_item 0 (qint)))
      (ss_one (s_ret (qv 2))))) ss_nil)
      (ss_cons (s_asg (q_add (q_ixO 0 (qint)) (qint)) (g_item 0 (qint)))
      (ss_cons (s_if (t_cmp (r_gt) (q_ixO 0 (qint)) (q_blt b_len T.b_len (a_cons (q_ixO 0 (qint)) a_nil))) (ss_cons (s_asg (q_mod (q_blt b_int T.b_int (a_cons (q_add (q_mul (q_ixO 0 (qint)) (qint)) (qint)) a_nil)) (qint)) (g_item 0 (qint)))
      (ss_one (s_ret (q_mod (q_blt b_int T.b_int (a_cons (q_fdiv (q_ixO 0 (qint)) (qint)) a_nil)) (qv 1))))) ss_nil)
      (ss_cons (s_set 3 sc_law_taken.nd (q_ix (q_ixO 0 (qint)) (q_sub (q_ixO 0 (qint)) (qint))))
      (ss_cons (s_asg (q_mod (q_blt b_int T.b_int (a_cons (q_add (q_add (q_mul (q_ixO 0 (qint)) (qint)) (qv 3)) (qint)) a_nil)) (qint)) (g_item 0 (qint)))
      (ss_cons (s_if (t_cmp (r_ge) (qv 3) (q_pow (qint) (qint))) (ss_one (s_asg (q_fdiv (qv 3) (qv 1)) (g_item 0 (qint)))) ss_nil)
      (ss_one (s_ret (q_mod (q_blt b_int T.b_int (a_cons (qv 3) a_nil)) (qv 1)))))))))))
theorem ok_law_alike {f : Addr} {fd : FuncData} (T : Tx P w c mg base) (F : Fun c.K "_law_alike" "_law_alike" s_law_alike f fd) (hm : mg "_law_alike" = some (.ref f)) (bd : Binds c.K fd ["found", "due"] [])  : ∀ n, FnOk P w c.K mg base L2.CX0 (n + 1) f fd ["found", "due"] (spF c (f_law_alike n))
  | 0 => fn_den (k := 0) (N := n_law_alike) (ps := ["found", "due"]) (body := mSt) F sc_law_alike fun cdv A outer s H E hr => ⟨_, pss_never, ds_never⟩
  | n + 1 => by
    have C_law_alike : Cal P w c.K mg base (n + 1) "_law_alike" (spF c (f_law_alike n)) [] := ⟨f, fd, _, [], ok_law_alike T F hm bd  n, hm, F.kp, bd, .nil⟩
    exact fn_den (k := n + 1) (N := n_law_alike) (ps := ["found", "due"]) (body := b_law_alike (f_law_alike n)) F sc_law_alike fun cdv A outer s H E hr => QSs.out (by exact (ss_cons (s_if (t_val (q_isi2 "tuple" "list" T.b_tuple T.b_list T.b_isinstance (qv 1))) (ss_cons (s_if (QW.t (w_or (t_not (t_val (q_isi2 "tuple" "list" T.b_tuple T.b_list T.b_isinstance (qv 0)))) (w_or1 (t_cmp (r_ne hr) (q_blt b_isi T.b_isinstance (a_cons (qv 0) (a_cons (qty T.b_list) a_nil))) (q_blt b_isi T.b_isinstance (a_cons (qv 1) (a_cons (qty T.b_list) a_nil))))))) (ss_one (s_ret (qbl))) ss_nil)
      (ss_cons (s_if (t_cmp (r_ne hr) (q_blt b_len T.b_len (a_cons (qv 0) a_nil)) (q_blt b_len T.b_len (a_cons (qv 1) a_nil))) (ss_one (s_ret (qbl))) ss_nil)
      (ss_one (s_ret (q_cmp (r_eq hr) (q_lc (own := [("k", 2)]) sc_law_alike.nd (i_range1 T.b_range (a_cons (q_blt b_len T.b_len (a_cons (qv 1) a_nil)) a_nil)) (blkOk_by (own := [("k", 2)]) (N := n_law_alike) (sc := defScope s_law_alike) (by decide +kernel)) (fun _ _ _ _ _ => (by exact (g_name 2 sc_law_alike.nd))) (fun _ _ _ _ _ => (by exact (ts_one (t_not (t_val (q_call C_law_alike hr (by omega) (a_cons (q_ix (qv 0) (qv 2)) (a_cons (q_ix (qv 1) (qv 2)) a_nil)))))))) (fun _ _ _ _ _ => (by exact (qv 2)))) (q_lst a_nil)))))) ss_nil)
      (ss_cons (s_if (QW.t (w_or (t_cmp (r_is) (qv 1) (qnon)) (w_or1 (t_val (q_blt b_isi T.b_isinstance (a_cons (qv 1) (a_cons (qty T.b_str) a_nil))))))) (ss_one (s_ret (q_and (q_cmp (r_eq hr) (qv 0) (qv 1)) (q_one (q_cmp (r_eq hr) (q_blt b_isi T.b_isinstance (a_cons (qv 0) (a_cons (qty T.b_str) a_nil))) (q_blt b_isi T.b_isinstance (a_cons (qv 1) (a_cons (qty T.b_str) a_nil)))))))) ss_nil)
      (ss_one (s_ret (q_and (q_blt b_isi T.b_isinstance (a_cons (qv 0) (a_cons (qty T.b_int) a_nil))) (q_and (q_cmp (r_eq hr) (q_blt b_isi T.b_isinstance (a_cons (qv 0) (a_cons (qty T.b_bool) a_nil))) (q_blt b_isi T.b_isinstance (a_cons (qv 1) (a_cons (qty T.b_bool) a_nil)))) (q_one (q_cmp (r_eq hr) (qv 0) (qv 1))))))))))
theorem ok_law_all_paths {f : Addr} {fd : FuncData} (T : Tx P w c mg base) (F : Fun c.K "_law_all_paths" "_law_all_paths" s_law_all_paths f fd)  : FnOk P w c.K mg base L2.CX0 1 f fd ["node", "size"] (spF c f_law_all_paths) := by
  exact fn_den (k := 0) (N := n_law_all_paths) (ps := ["node", "size"]) (body := b_law_all_paths) F sc_law_all_paths fun cdv A outer s H E hr => QSs.out (by exact (ss_cons (s_par2 2 false 3 false sc_law_all_paths.nd (ps_cons (q_lst a_nil) (ps_cons (q_lst (a_cons (q_tup (a_cons (qv 0) a_nil)) a_nil)) ps_nil)))
      (ss_cons (s_for PassesOwn.never (i_range1 T.b_range (a_cons (qv 1) a_nil)) (g_name 4 sc_law_all_paths.nd) (ss_cons (s_set 5 sc_law_all_paths.nd (q_lst a_nil))
      (ss_cons (s_for PassesOwn.never (i_seq (qv 3)) (g_name 6 sc_law_all_paths.nd) (ss_one (s_set 5 sc_law_all_paths.nd (q_add (qv 5) (q_lc (own := [("head", 7)]) sc_law_all_paths.nd (i_range1 T.b_range (a_cons (qv 1) a_nil)) (blkOk_by (own := [("head", 7)]) (N := n_law_all_paths) (sc := defScope s_law_all_paths) (by decide +kernel)) (fun _ _ _ _ _ => (by exact (g_name 7 sc_law_all_paths.nd))) (fun _ _ _ _ _ => (by exact (ts_one (t_cmp (r_nin hr) (qv 7) (qv 6) (by with_unfolding_all rfl))))) (fun _ _ _ _ _ => (by exact (q_add (qv 6) (q_tup (a_cons (qv 7) a_nil))))))))))
      (ss_cons (s_set 2 sc_law_all_paths.nd (q_add (qv 2) (q_lc (own := [("path", 6)]) sc_law_all_paths.nd (i_seq (qv 5)) (blkOk_by (own := [("path", 6)]) (N := n_law_all_paths) (sc := defScope s_law_all_paths) (by decide +kernel)) (fun _ _ _ _ _ => (by exact (g_name 6 sc_law_all_paths.nd))) (fun _ _ _ _ _ => (by exact (ts_one (t_cmp (r_eq hr) (q_ix (qv 6) (q_neg (qint))) (qint))))) (fun _ _ _ _ _ => (by exact (qv 6))))))
      (ss_one (s_setLc (own := [("path", 6)]) 3 sc_law_all_paths.nd (i_seq (qv 5)) (blkOk_by (own := [("path", 6)]) (N := n_law_all_paths) (sc := defScope s_law_all_paths) (by decide +kernel)) (fun _ _ _ _ _ => (by exact (g_name 6 sc_law_all_paths.nd))) (fun _ _ _ _ _ => (by exact (ts_one (t_cmp (r_ne hr) (q_ix (qv 6) (q_neg (qint))) (qint))))) (fun _ _ _ _ _ => (by exact (qv 6))) (hw := sw_true rfl rfl rfl (by decide +kernel))))))))
      (ss_one (s_ret (q_blt b_sortA T.b_sorted (a_cons (qv 2) a_nil)))))))
theorem ok_law_trade {f : Addr} {fd : FuncData} (T : Tx P w c mg base) (F : Fun c.K "_law_trade" "_law_trade" s_law_trade f fd) (C_law_taken : Cal P w c.K mg base 1 "_law_taken" (spF c f_law_taken) []) : FnOk P w c.K mg base L2.CX0 2 f fd ["row", "most"] (spF c f_law_trade) := by
  exact fn_den (k := 1) (N := n_law_trade) (ps := ["row", "most"]) (body := b_law_trade) F sc_law_trade fun cdv A outer s H E hr => QSs.out (by exact (ss_cons (s_par3 2 false 3 true 4 true sc_law_trade.nd (ps_cons (q_add (qint) (q_callO C_law_taken hr (by omega) (c_own 0 (a_cons (q_sub (qv 1) (qint)) a_nil)))) (ps_cons (q_lst a_nil) (ps_cons (q_lst a_nil) ps_nil))))
      (ss_cons (s_set 5 sc_law_trade.nd (q_cmp (r_gt) (q_callO C_law_taken hr (by omega) (c_own 0 (a_cons (qint) a_nil))) (qint)))
      (ss_cons (s_for PassesOwn.never (i_range1 T.b_range (a_cons (qv 2) a_nil)) (g_name 6 sc_law_trade.nd) (ss_one (s_for PassesOwn.never (i_range2 T.b_range (a_cons (q_add (qv 6) (qint)) (a_cons (qv 2) a_nil))) (g_name 7 sc_law_trade.nd) (ss_cons (s_set 8 sc_law_trade.nd (q_callO C_law_taken hr (by omega) (c_own 0 (a_cons (qint) a_nil))))
      (ss_cons (s_set 9 sc_law_trade.nd (q_if (QW.t (w_or (t_tru (qv 5)) (w_or1 (t_cmp (r_eq hr) (q_callO C_law_taken hr (by omega) (c_own 0 (a_cons (qint) a_nil))) (qint))))) (q_tup (a_cons (qv 6) (a_cons (qv 7) a_nil))) (q_tup (a_cons (qv 7) (a_cons (qv 6) a_nil)))))
      (ss_one (s_if (t_cmp (r_lt) (qv 8) (qint)) (ss_one (s_expr (q_append 3 (qv 9)))) (ss_one (s_if (t_cmp (r_eq hr) (qv 8) (qint)) (ss_one (s_expr (q_append 4 (qv 9)))) ss_nil)))))))))
      (ss_cons (s_parT2 10 true 11 true sc_law_trade.nd (ps_cons (q_lstRg T.b_list T.b_range (qv 2)) (ps_cons (q_lst a_nil) ps_nil)))
      (ss_cons (s_for PassesOwn.never (i_range1 T.b_range (a_cons (qv 2) a_nil)) (g_name 12 sc_law_trade.nd) (ss_one (s_expr (q_append 11 (q_popAt 10 (q_callO C_law_taken hr (by omega) (c_own 0 (a_cons (q_lenO 10 T.b_len) a_nil))))))))
      (ss_cons (s_setO 3 sc_law_trade.nd (q_blt b_tuple T.b_tuple (a_cons (q_lc (own := [("one", 6), ("other", 7)]) sc_law_trade.nd (i_seq (qv 3)) (blkOk_by (own := [("one", 6), ("other", 7)]) (N := n_law_trade) (sc := defScope s_law_trade) (by decide +kernel)) (fun _ _ _ _ _ => (by exact (g_tup 2 (gs_cons (g_name 6 sc_law_trade.nd) (gs_cons (g_name 7 sc_law_trade.nd) gs_nil))))) (fun _ _ _ _ _ => (by exact ts_nil)) (fun _ _ _ _ _ => (by exact (q_tup (a_cons (q_ixO 11 (qv 6)) (a_cons (q_ixO 11 (qv 7)) a_nil)))))) a_nil)))
      (ss_one (s_ret (q_tup (a_cons (qv 2) (a_cons (qv 3) (a_cons (q_blt b_tuple T.b_tuple (a_cons (q_lc (own := [("one", 6), ("other", 7)]) sc_law_trade.nd (i_seq (qv 4)) (blkOk_by (own := [("one", 6), ("other", 7)]) (N := n_law_trade) (sc := defScope s_law_trade) (by decide +kernel)) (fun _ _ _ _ _ => (by exact (g_tup 2 (gs_cons (g_name 6 sc_law_trade.nd) (gs_cons (g_name 7 sc_law_trade.nd) gs_nil))))) (fun _ _ _ _ _ => (by exact ts_nil)) (fun _ _ _ _ _ => (by exact (q_tup (a_cons (q_ixO 11 (qv 6)) (a_cons (q_ixO 11 (qv 7)) a_nil)))))) a_nil)) a_nil)))))))))))))
theorem ok_law_kinds {f : Addr} {fd : FuncData} (T : Tx P w c mg base) (F : Fun c.K "_law_kinds" "_law_kinds" s_law_kinds f fd)  : FnOk P w c.K mg base L2.CX0 1 f fd ["told"] (spF c f_law_kinds) := by
  exact fn_den (k := 0) (N := n_law_kinds) (ps := ["told"]) (body := b_law_kinds) F sc_law_kinds fun cdv A outer s H E hr => QSs.out (by exact (ss_cons (s_setO 1 sc_law_kinds.nd (q_dnew T.w_))
      (ss_cons (s_for PassesOwn.never (i_seq (q_ix (qv 0) (qint))) (g_tup 2 (gs_cons (g_name 2 sc_law_kinds.nd) (gs_cons (g_name 3 sc_law_kinds.nd) gs_nil))) (ss_one (s_asg (q_tup (a_cons (qstr) (a_cons (qstr) a_nil))) (g_tup 2 (gs_cons (g_itemD 1 hr T.w_ (q_tup (a_cons (qv 2) (a_cons (qv 3) a_nil)))) (gs_cons (g_itemD 1 hr T.w_ (q_tup (a_cons (qv 3) (a_cons (qv 2) a_nil)))) gs_nil))))))
      (ss_cons (s_for PassesOwn.never (i_seq (q_ix (qv 0) (qint))) (g_tup 2 (gs_cons (g_name 2 sc_law_kinds.nd) (gs_cons (g_name 3 sc_law_kinds.nd) gs_nil))) (ss_one (s_asg (q_tup (a_cons (qstr) (a_cons (qstr) a_nil))) (g_tup 2 (gs_cons (g_itemD 1 hr T.w_ (q_tup (a_cons (qv 2) (a_cons (qv 3) a_nil)))) (gs_cons (g_itemD 1 hr T.w_ (q_tup (a_cons (qv 3) (a_cons (qv 2) a_nil)))) gs_nil))))))
      (ss_one (s_retO 1))))))
theorem ok_law_paid {f : Addr} {fd : FuncData} (T : Tx P w c mg base) (F : Fun c.K "_law_paid" "_law_paid" s_law_paid f fd)  : FnOk P w c.K mg base L2.CX0 1 f fd ["kinds", "path"] (spF c f_law_paid) := by
  exact fn_den (k := 0) (N := n_law_paid) (ps := ["kinds", "path"]) (body := b_law_paid) F sc_law_paid fun cdv A outer s H E hr => QSs.out (by exact (ss_cons (s_for PassesOwn.never (i_range1 T.b_range (a_cons (q_sub (q_blt b_len T.b_len (a_cons (qv 1) a_nil)) (qint)) a_nil)) (g_name 2 sc_law_paid.nd) (ss_one (s_if (t_ninN 0 hr T.w_ (q_sl (qv 1) (o_some (qv 2)) (o_some (q_add (qv 2) (qint))))) (ss_one (s_ret (qbl))) ss_nil)))
      (ss_cons (s_for PassesOwn.never (i_range2 T.b_range (a_cons (qint) (a_cons (q_sub (q_blt b_len T.b_len (a_cons (qv 1) a_nil)) (qint)) a_nil))) (g_name 2 sc_law_paid.nd) (ss_one (s_if (t_cmp (r_nin hr) (qstr) (q_lst (a_cons (q_dget hr T.w_ (qv 0) (q_tup (a_cons (q_ix (qv 1) (qv 2)) (a_cons (q_ix (qv 1) (q_sub (qv 2) (qint))) a_nil)))) (a_cons (q_dget hr T.w_ (qv 0) (q_tup (a_cons (q_ix (qv 1) (qv 2)) (a_cons (q_ix (qv 1) (q_add (qv 2) (qint))) a_nil)))) a_nil))) (by with_unfolding_all rfl)) (ss_one (s_ret (qbl))) ss_nil)))
      (ss_one (s_ret (qbl))))))
theorem ok_Trade_init {f : Addr} {fd : FuncData} (T : Tx P w c mg base) (F : Fun c.K "__init__" "Trade.__init__" s_Trade_init f fd) (C_is_number : Cal P w c.K mg base 1 "is_number" (spF c f_is_number) []) (C_is_tuple : Cal P w c.K mg base 1 "is_tuple" (spF c f_is_tuple) []) (C_is_pair : Cal P w c.K mg base 3 "_is_pair" (spF c f_is_pair) []) : FnOk P w c.K mg base L2.CX0 4 f fd ["self", "size", "customers", "peers"] (spF c f_Trade_init) := by
  exact fn_den (k := 3) (N := n_Trade_init) (ps := ["self", "size", "customers", "peers"]) (body := b_Trade_init) F sc_Trade_init fun cdv A outer s H E hr => QSs.out (by exact (ss_cons (s_if (t_not (t_val (q_call C_is_number hr (by omega) (a_cons (qv 1) (a_cons (qint) (a_cons (qk T.c_MOST_NODES) a_nil)))))) ss_never ss_nil)
      (ss_cons (s_if (QW.t (w_or (t_not (t_val (q_call C_is_tuple hr (by omega) (a_cons (qv 2) (a_cons (qint) (a_cons (qk T.c_MOST_PAIRS) a_nil)))))) (w_or1 (t_not (t_val (q_call C_is_tuple hr (by omega) (a_cons (qv 3) (a_cons (qint) (a_cons (qk T.c_MOST_PAIRS) a_nil))))))))) ss_never ss_nil)
      (ss_cons (s_setO 4 sc_Trade_init.nd (q_lst a_nil))
      (ss_cons (s_for PassesOwn.never (i_enum T.b_enumerate (a_cons (q_add (qv 2) (qv 3)) a_nil)) (g_tup 2 (gs_cons (g_name 5 sc_Trade_init.nd) (gs_cons (g_name 6 sc_Trade_init.nd) gs_nil))) (ss_cons (s_if (QW.t (w_or (t_not (t_val (q_call C_is_pair hr (by omega) (a_cons (qv 1) (a_cons (qv 6) a_nil))))) (w_or1 (t_cmpR (f_in hr) (q_blt b_sortI T.b_sorted (a_cons (qv 6) a_nil)) 4)))) ss_never ss_nil)
      (ss_one (s_expr (q_append 4 (q_blt b_sortI T.b_sorted (a_cons (qv 6) a_nil)))))))
      (ss_cons (s_fld "Trade" 0 0 T.f_Trade_size T.l_Trade (qv 1))
      (ss_cons (s_fld "Trade" 1 0 T.f_Trade_customers T.l_Trade (qv 2))
      (ss_one (s_fld "Trade" 2 0 T.f_Trade_peers T.l_Trade (qv 3))))))))))
theorem ok_law {f : Addr} {fd : FuncData} (T : Tx P w c mg base) (F : Fun c.K "law" "law" s_law f fd) (C_paid_paths : Cal P w c.K mg base 6 "paid_paths" (spF c f_paid_paths) []) (C_law_alike : Cal P w c.K mg base 7 "_law_alike" (spF c (f_law_alike 6)) []) (C_law_all_paths : Cal P w c.K mg base 1 "_law_all_paths" (spF c f_law_all_paths) []) (C_law_trade : Cal P w c.K mg base 2 "_law_trade" (spF c f_law_trade) []) (C_law_kinds : Cal P w c.K mg base 1 "_law_kinds" (spF c f_law_kinds) []) (C_law_paid : Cal P w c.K mg base 1 "_law_paid" (spF c f_law_paid) []) (M_Trade : Mak P w c.K mg base 4 "Trade" (c.cls "Trade") (spF c f_Trade_init) []) : FnOk P w c.K mg base L2.CX0 8 f fd ["script"] (spF c f_law) := by
  exact fn_den (k := 7) (N := n_law) (ps := ["script"]) (body := b_law) F sc_law fun cdv A outer s H E hr => QSs.out (by exact (ss_cons (s_setO 1 sc_law.nd (q_lst (a_cons (qv 0) (a_cons (qint) (a_cons (qint) (a_cons (qint) a_nil))))))
      (ss_cons (s_for PassesOwn.never (i_range1 T.b_range (a_cons (qint) a_nil)) (g_name 2 sc_law.nd) (ss_cons (s_set 3 sc_law.nd (q_callO C_law_trade hr (by omega) (c_own 1 (a_cons (qint) a_nil))))
      (ss_cons (s_par2 4 false 5 false sc_law.nd (ps_cons (q_make "Trade" M_Trade T.n_Trade hr (by omega) (a_cons (q_ix (qv 3) (qint)) (a_cons (q_ix (qv 3) (qint)) (a_cons (q_ix (qv 3) (qint)) a_nil)))) (ps_cons (q_call C_law_kinds hr (by omega) (a_cons (qv 3) a_nil)) ps_nil)))
      (ss_cons (s_if (t_cmp (r_ne hr) (q_call C_paid_paths hr (by omega) (a_cons (qv 4) (a_cons (qint) a_nil))) (q_lst a_nil)) (ss_one (s_ret (qbl))) ss_nil)
      (ss_one (s_for PassesOwn.never (i_range2 T.b_range (a_cons (qint) (a_cons (q_ix (qv 3) (qint)) a_nil))) (g_name 6 sc_law.nd) (ss_cons (s_setO 7 sc_law.nd (q_lst a_nil))
      (ss_cons (s_for PassesOwn.never (i_seq (q_call C_law_all_paths hr (by omega) (a_cons (qv 6) (a_cons (q_ix (qv 3) (qint)) a_nil)))) (g_name 8 sc_law.nd) (ss_one (s_if (t_tru (q_call C_law_paid hr (by omega) (a_cons (qv 5) (a_cons (qv 8) a_nil)))) (ss_one (s_expr (q_append 7 (q_tup (a_cons (q_idxL (un66 hr) (q_lst (a_cons (qstr) (a_cons (qstr) (a_cons (qstr) a_nil)))) (q_dget hr T.w_ (qv 5) (q_sl (qv 8) o_none (o_some (qint))))) (a_cons (q_blt b_len T.b_len (a_cons (qv 8) a_nil)) (a_cons (qv 8) a_nil))))))) ss_nil)))
      (ss_one (s_if (t_not (t_val (q_call C_law_alike hr (by omega) (a_cons (q_call C_paid_paths hr (by omega) (a_cons (qv 4) (a_cons (qv 6) a_nil))) (a_cons (q_lc (own := [("line", 9)]) sc_law.nd (i_seq (q_blt (b_sortD hr) T.b_sorted (a_cons (qv 7) a_nil))) (blkOk_by (own := [("line", 9)]) (N := n_law) (sc := defScope s_law) (by decide +kernel)) (fun _ _ _ _ _ => (by exact (g_name 9 sc_law.nd))) (fun _ _ _ _ _ => (by exact ts_nil)) (fun _ _ _ _ _ => (by exact (q_ix (qv 9) (qint))))) a_nil))))) (ss_one (s_ret (qbl))) ss_nil))))))))))
      (ss_one (s_ret (qbl))))))
end
end Fx.K47
/-! running denotations: what a run that goes well gives -/
namespace Fx
open PySem
namespace R
/-- the run goes well and gives what P tells -/
def OKr {α : Type} (m : Out α) (P : α → En → Prop) : Prop := Post P (fun _ _ => False) m
/-- a call goes well -/
def OKFr (o : Out S) (K : S → Prop) : Prop := OKr o fun s _ => K s
section
variable {α β : Type} {P Q : α → En → Prop}
theorem ok_ok {a : α} {ρ : En} : OKr (.ok a ρ) P ↔ P a ρ := Iff.rfl
theorem ok_stuck : OKr (.stuck : Out α) P ↔ False := Iff.rfl
theorem ok_then {m : Out α} {f : α → En → Out β} {P : β → En → Prop} : OKr (m.then f) P ↔ OKr m fun a ρ => OKr (f a ρ) P := post_then
theorem ok_ite {c : Prop} [Decidable c] {a b : Out α} : OKr (if c then a else b) P ↔ (c → OKr a P) ∧ (¬c → OKr b P) := by
  split
  · rename_i h
    exact ⟨fun k => ⟨fun _ => k, fun n => absurd h n⟩, fun k => k.1 h⟩
  · rename_i h
    exact ⟨fun k => ⟨fun n => absurd n h, fun _ => k⟩, fun k => k.2 h⟩
theorem OKr.imp {m : Out α} (h : OKr m P) (k : ∀ a ρ, P a ρ → Q a ρ) : OKr m Q := Post.imp h k fun _ _ h => h
theorem OKr.at {m : Out α} (h : OKr m P) : ∃ a ρ, m = .ok a ρ ∧ P a ρ := by
  cases m with
  | ok a ρ => exact ⟨a, ρ, rfl, h⟩
  | err e ρ => exact h.elim
  | stuck => exact h.elim
theorem ok_calm {m : Out α} : OKr m.calm P ↔ OKr m P := by
  cases m <;> exact Iff.rfl
theorem OKFr.imp {o : Out S} {K K' : S → Prop} (h : OKFr o K) (k : ∀ s, K s → K' s) : OKFr o K' := OKr.imp h fun s _ => k s
end
section
variable {ρ : En} {P : S → En → Prop} {PB : Bool → En → Prop} {PA : List D → En → Prop} {PF : Fl → En → Prop} {PU : Unit → En → Prop} {fa fb fe : M S} {fA : M (List D)} {ft fu : M Bool} {F G : M Fl}
/-- a value that stays -/
theorem ok_dv {f : M S} {K : D → En → Prop} : OKr (dv f ρ) K ↔ OKr (f ρ) fun s ρ' => ∃ x, toD s = some x ∧ K x ρ' := by
  unfold dv
  rw [ok_then]
  refine ⟨fun h => h.imp fun s ρ' k => ?_, fun h => h.imp fun s ρ' k => ?_⟩
  · cases e : toD s with
    | none => rw [e] at k; exact k.elim
    | some x => rw [e] at k; exact ⟨x, rfl, k⟩
  · obtain ⟨x, e, k⟩ := k
    rw [e]
    exact k
theorem ex_toD {x : D} {K : D → Prop} : (∃ y, toD (.d x) = some y ∧ K y) ↔ K x := ⟨fun ⟨y, e, k⟩ => by cases e; exact k, fun k => ⟨x, rfl, k⟩⟩
theorem ex_toL {ds : List D} {K : D → Prop} : (∃ y, toD (.o none (.lst ds)) = some y ∧ K y) ↔ K (.lst ds) := ⟨fun ⟨y, e, k⟩ => by cases e; exact k, fun k => ⟨_, rfl, k⟩⟩
theorem ok_c {x : D} : OKr (mC x ρ) P ↔ P (.d x) ρ := Iff.rfl
theorem ok_var {i : Nat} : OKr (mVar i ρ) P ↔ OKr (mVar i ρ) P := Iff.rfl
theorem ok_varD {i : Nat} {x : D} (e : ρ[i]? = some (some (.d x))) : OKr (mVar i ρ) P ↔ P (.d x) ρ := by
  unfold mVar
  rw [e]
  exact Iff.rfl
theorem ok_op {g : D → D → Option S} : OKr (mOp g fa fb ρ) P ↔ OKr (dv fa ρ) fun x ρ1 => OKr (dv fb ρ1) fun y ρ2 => ∃ s, g x y = some s ∧ P s ρ2 := by
  unfold mOp
  rw [ok_then]
  simp only [ok_then]
  constructor
  · exact fun h => h.imp fun x ρ1 h => h.imp fun y ρ2 h => (by
      cases e : g x y with
      | none => rw [e] at h; exact h.elim
      | some s => rw [e] at h; exact ⟨s, rfl, h⟩)
  · exact fun h => h.imp fun x ρ1 h => h.imp fun y ρ2 h => (by
      obtain ⟨s, e, k⟩ := h
      rw [e]
      exact k)
theorem ok_un {g : D → Option S} : OKr (mUn g fa ρ) P ↔ OKr (dv fa ρ) fun x ρ1 => ∃ s, g x = some s ∧ P s ρ1 := by
  unfold mUn
  rw [ok_then]
  constructor
  · exact fun h => h.imp fun x ρ1 h => (by
      cases e : g x with
      | none => rw [e] at h; exact h.elim
      | some s => rw [e] at h; exact ⟨s, rfl, h⟩)
  · exact fun h => h.imp fun x ρ1 h => (by
      obtain ⟨s, e, k⟩ := h
      rw [e]
      exact k)
theorem ok_nil : OKr (aNil ρ) PA ↔ PA [] ρ := Iff.rfl
theorem ok_cons {fr : M (List D)} : OKr (aCons fa fr ρ) PA ↔ OKr (dv fa ρ) fun x ρ1 => OKr (fr ρ1) fun ds ρ2 => PA (x :: ds) ρ2 := by
  unfold aCons
  simp only [ok_then, ok_ok]
theorem ok_cb {g : List D → Option S} : OKr (mCB g fA ρ) P ↔ OKr (fA ρ) fun ds ρ1 => ∃ s, g ds = some s ∧ P s ρ1 := by
  unfold mCB
  rw [ok_then]
  constructor
  · exact fun h => h.imp fun x ρ1 h => (by
      cases e : g x with
      | none => rw [e] at h; exact h.elim
      | some s => rw [e] at h; exact ⟨s, rfl, h⟩)
  · exact fun h => h.imp fun x ρ1 h => (by
      obtain ⟨s, e, k⟩ := h
      rw [e]
      exact k)
theorem ok_test : OKr (mTest fa ρ) PB ↔ OKr (dv fa ρ) fun x ρ1 => ∃ b, x = .bl b ∧ PB b ρ1 := by
  unfold mTest
  rw [ok_then]
  refine ⟨fun h => h.imp fun x ρ1 h => ?_, fun h => h.imp fun x ρ1 h => ?_⟩
  · cases x <;> first | exact h.elim | exact ⟨_, rfl, h⟩
  · obtain ⟨b, rfl, h⟩ := h
    exact h
theorem ex_bl {b : Bool} {K : Bool → Prop} : (∃ c, D.bl b = D.bl c ∧ K c) ↔ K b := ⟨fun ⟨c, e, k⟩ => by cases e; exact k, fun k => ⟨b, rfl, k⟩⟩
theorem ok_not : OKr (mNot ft ρ) PB ↔ OKr (ft ρ) fun b ρ1 => PB (!b) ρ1 := by
  unfold mNot
  simp only [ok_then, ok_ok]
theorem ok_and : OKr (mAnd ft fu ρ) PB ↔ OKr (ft ρ) fun b ρ1 => (b = true → OKr (fu ρ1) PB) ∧ (¬b = true → PB false ρ1) := by
  unfold mAnd
  simp only [ok_then, ok_ok, ok_ite]
theorem ok_or : OKr (mOr ft fu ρ) PB ↔ OKr (ft ρ) fun b ρ1 => (b = true → PB true ρ1) ∧ (¬b = true → OKr (fu ρ1) PB) := by
  unfold mOr
  simp only [ok_then, ok_ok, ok_ite]
theorem ok_andV : OKr (mAndV fa fb ρ) P ↔ OKr (mTest fa ρ) fun b ρ1 => (b = true → OKr (fb ρ1) P) ∧ (¬b = true → P (.d (.bl false)) ρ1) := by
  unfold mAndV
  simp only [ok_then, ok_ok, ok_ite]
theorem ok_orV : OKr (mOrV fa fb ρ) P ↔ OKr (mTest fa ρ) fun b ρ1 => (b = true → P (.d (.bl true)) ρ1) ∧ (¬b = true → OKr (fb ρ1) P) := by
  unfold mOrV
  simp only [ok_then, ok_ok, ok_ite]
theorem ok_notV : OKr (mNotV fa ρ) P ↔ OKr (mTest fa ρ) fun b ρ1 => P (.d (.bl (!b))) ρ1 := by
  unfold mNotV
  simp only [ok_then, ok_ok]
theorem ok_if : OKr (mIf ft fa fb ρ) P ↔ OKr (ft ρ) fun b ρ1 => (b = true → OKr (fa ρ1) P) ∧ (¬b = true → OKr (fb ρ1) P) := by
  unfold mIf
  simp only [ok_then, ok_ite]
theorem ok_yes : OKr (mYes ρ) PB ↔ PB true ρ := Iff.rfl
/-! statements -/
theorem ok_seq : OKr (mSeq F G ρ) PF ↔ OKr (F ρ) fun f ρ1 => (f = .nx → OKr (G ρ1) PF) ∧ (f ≠ .nx → PF f ρ1) := by
  unfold mSeq
  rw [ok_then]
  refine ⟨fun h => h.imp fun f ρ1 h => ?_, fun h => h.imp fun f ρ1 h => ?_⟩
  · cases f with
    | nx => exact ⟨fun _ => h, fun n => absurd rfl n⟩
    | rt s => exact ⟨fun e => (by cases e), fun _ => h⟩
    | bk => exact ⟨fun e => (by cases e), fun _ => h⟩
    | ct => exact ⟨fun e => (by cases e), fun _ => h⟩
  · cases f with
    | nx => exact h.1 rfl
    | rt s => exact h.2 (fun e => by cases e)
    | bk => exact h.2 (fun e => by cases e)
    | ct => exact h.2 (fun e => by cases e)
theorem fl_nx {A : Prop} {B : Prop} : ((Fl.nx = Fl.nx → A) ∧ (Fl.nx ≠ Fl.nx → B)) ↔ A := ⟨fun h => h.1 rfl, fun h => ⟨fun _ => h, fun n => absurd rfl n⟩⟩
theorem fl_rt {s : S} {A : Prop} {B : Prop} : ((Fl.rt s = Fl.nx → A) ∧ (Fl.rt s ≠ Fl.nx → B)) ↔ B := ⟨fun h => h.2 (fun e => by cases e), fun h => ⟨fun e => (by cases e), fun _ => h⟩⟩
theorem fl_bk {A : Prop} {B : Prop} : ((Fl.bk = Fl.nx → A) ∧ (Fl.bk ≠ Fl.nx → B)) ↔ B := ⟨fun h => h.2 (fun e => by cases e), fun h => ⟨fun e => (by cases e), fun _ => h⟩⟩
theorem fl_ct {A : Prop} {B : Prop} : ((Fl.ct = Fl.nx → A) ∧ (Fl.ct ≠ Fl.nx → B)) ↔ B := ⟨fun h => h.2 (fun e => by cases e), fun h => ⟨fun e => (by cases e), fun _ => h⟩⟩
theorem ok_nx : OKr (mNx ρ) PF ↔ PF .nx ρ := Iff.rfl
theorem ok_bk : OKr (mBk ρ) PF ↔ PF .bk ρ := Iff.rfl
theorem ok_ct : OKr (mCt ρ) PF ↔ PF .ct ρ := Iff.rfl
theorem ok_st : OKr (mSt ρ) PF ↔ False := Iff.rfl
theorem ok_ret : OKr (mRet fa ρ) PF ↔ OKr (fa ρ) fun s ρ1 => PF (.rt s) ρ1 := by
  unfold mRet
  simp only [ok_then, ok_ok]
theorem ok_retN : OKr (mRetN ρ) PF ↔ PF (.rt (.d .non)) ρ := Iff.rfl
theorem ok_ifS : OKr (mIfS ft F G ρ) PF ↔ OKr (ft ρ) fun b ρ1 => (b = true → OKr (F ρ1) PF) ∧ (¬b = true → OKr (G ρ1) PF) := by
  unfold mIfS
  simp only [ok_then, ok_ite]
theorem ok_drop : OKr (mDrop fa ρ) PF ↔ OKr (fa ρ) fun _ ρ1 => PF .nx ρ1 := by
  unfold mDrop
  simp only [ok_then, ok_ok]
theorem ok_asg {g : D → M Unit} : OKr (mAsg fa g ρ) PF ↔ OKr (dv fa ρ) fun x ρ1 => OKr (g x ρ1) fun _ ρ2 => PF .nx ρ2 := by
  unfold mAsg
  simp only [ok_then, ok_ok]
theorem ok_gname {i : Nat} {x : D} : OKr (gmName i x ρ) PU ↔ PU () (ρ.set i (some (.d x))) := Iff.rfl
theorem ok_call {f : Fn} : OKr (mCall f fA ρ) P ↔ OKr (fA ρ) fun ds ρ1 => OKFr (f (ds.map .d)) fun s => bare s = true ∧ P s ρ1 := by
  unfold mCall
  rw [ok_then]
  refine ⟨fun h => h.imp fun ds ρ1 h => ?_, fun h => h.imp fun ds ρ1 h => ?_⟩
  · cases e : f (ds.map .d) with
    | stuck => rw [e] at h; exact h.elim
    | err _ _ => rw [e] at h; exact h.elim
    | ok s ρ' =>
      rw [e] at h
      dsimp only at h
      rw [ok_ite] at h
      by_cases hb : bare s = true
      · exact ⟨hb, h.1 hb⟩
      · exact (h.2 hb).elim
  · obtain ⟨s, ρ', e, hb, k⟩ := h.at
    rw [e]
    dsimp only
    rw [if_pos hb]
    exact k
theorem okF_runF {np nN : Nat} {body : M Fl} {args : List S} {K : S → Prop} : OKFr (runF np nN body args) K ↔ args.length = np ∧ OKr (body (args.map some ++ List.replicate (nN - np) none)) fun f _ => (∃ s, f = .rt s ∧ K s) ∨ (f = .nx ∧ K (.d .non)) := by
  unfold OKFr runF
  by_cases ha : args.length = np
  · rw [if_pos ha]
    cases e : body (args.map some ++ List.replicate (nN - np) none) with
    | stuck => exact ⟨fun h => h.elim, fun h => h.2.elim⟩
    | err _ _ => exact ⟨fun h => h.elim, fun h => h.2.elim⟩
    | ok f ρ' =>
      cases f with
      | rt s => exact ⟨fun h => ⟨ha, .inl ⟨s, rfl, h⟩⟩, fun h => by
          rcases h.2 with ⟨t, e, k⟩ | ⟨e, k⟩
          · cases e; exact k
          · cases e⟩
      | nx => exact ⟨fun h => ⟨ha, .inr ⟨rfl, h⟩⟩, fun h => by
          rcases h.2 with ⟨t, e, k⟩ | ⟨e, k⟩
          · cases e
          · exact k⟩
      | bk => exact ⟨fun h => h.elim, fun h => by
          rcases h.2 with ⟨t, e, k⟩ | ⟨e, k⟩ <;> cases e⟩
      | ct => exact ⟨fun h => h.elim, fun h => by
          rcases h.2 with ⟨t, e, k⟩ | ⟨e, k⟩ <;> cases e⟩
  · rw [if_neg ha]
    exact ⟨fun h => h.elim, fun h => absurd h.1 ha⟩
theorem ok_runF {np nN : Nat} {body : M Fl} {args : List S} {K : S → En → Prop} (ha : args.length = np) (h : OKr (body (args.map some ++ List.replicate (nN - np) none)) fun f ρ => (∃ s, f = .rt s ∧ K s ρ) ∨ (f = .nx ∧ K (.d .non) ρ)) : OKr (runF np nN body args) K := by
  unfold runF
  rw [if_pos ha]
  obtain ⟨f, ρ', e, h⟩ := h.at
  rw [e]
  rcases h with ⟨t, rfl, k⟩ | ⟨rfl, k⟩
  · exact k
  · exact k
theorem rt_or {s : S} {K : S → Prop} : ((∃ t, Fl.rt s = .rt t ∧ K t) ∨ (Fl.rt s = .nx ∧ K (.d .non))) ↔ K s := by
  constructor
  · rintro (⟨t, e, k⟩ | ⟨e, _⟩)
    · cases e; exact k
    · cases e
  · exact fun h => .inl ⟨s, rfl, h⟩
theorem nx_or {K : S → Prop} : ((∃ t, Fl.nx = .rt t ∧ K t) ∨ (Fl.nx = .nx ∧ K (.d .non))) ↔ K (.d .non) := by
  constructor
  · rintro (⟨t, e, k⟩ | ⟨_, k⟩)
    · cases e
    · exact k
  · exact fun h => .inr ⟨rfl, h⟩
theorem okF_runL {np nN : Nat} {fe : M S} {args : List S} {K : S → Prop} : OKFr (runL np nN fe args) K ↔ args.length = np ∧ OKr (fe (args.map some ++ List.replicate (nN - np) none)) fun s _ => K s := by
  unfold OKFr runL
  by_cases ha : args.length = np
  · rw [if_pos ha]
    exact ⟨fun h => ⟨ha, h⟩, fun h => h.2⟩
  · rw [if_neg ha]
    exact ⟨fun h => h.elim, fun h => absurd h.1 ha⟩
/-! loops by what they keep -/
theorem ok_loop {gm : D → M Unit} {F : M Fl} {I : Nat → En → Prop} {PF : Fl → En → Prop} : ∀ {items : List D} {k : Nat} {ρ : En}, I k ρ →
    (∀ i x ρ, items[i]? = some x → I (k + i) ρ → OKr (gm x ρ) fun _ ρ1 => OKr (F ρ1) fun f ρ2 => (f = .nx ∨ f = .ct → I (k + i + 1) ρ2) ∧ (f = .bk → PF .nx ρ2) ∧ ∀ s, f = .rt s → PF (.rt s) ρ2) →
    (∀ ρ, I (k + items.length) ρ → PF .nx ρ) → OKr (mLoop gm F items ρ) PF
  | [], k, ρ, h, _, e => e ρ h
  | x :: xs, k, ρ, h, st, e => by
    show OKr ((gm x ρ).then fun _ ρ1 => (F ρ1).then fun f ρ2 => _) PF
    rw [ok_then]
    refine (st 0 x ρ rfl h).imp fun _ ρ1 h1 => ?_
    rw [ok_then]
    refine h1.imp fun f ρ2 ⟨a, b, d⟩ => ?_
    have st' : ∀ i y ρ, xs[i]? = some y → I (k + 1 + i) ρ → OKr (gm y ρ) fun _ ρ1 => OKr (F ρ1) fun f ρ2 => (f = .nx ∨ f = .ct → I (k + 1 + i + 1) ρ2) ∧ (f = .bk → PF .nx ρ2) ∧ ∀ s, f = .rt s → PF (.rt s) ρ2 := fun i y ρ hy hi => by
      have := st (i + 1) y ρ (by simpa using hy) (by rw [show k + (i + 1) = k + 1 + i by omega]; exact hi)
      rw [show k + (i + 1) + 1 = k + 1 + i + 1 by omega] at this
      exact this
    have e' : ∀ ρ, I (k + 1 + xs.length) ρ → PF .nx ρ := fun ρ h => e ρ (by rw [List.length_cons, show k + (xs.length + 1) = k + 1 + xs.length by omega]; exact h)
    cases f with
    | nx => exact ok_loop (k := k + 1) (a (.inl rfl)) st' e'
    | ct => exact ok_loop (k := k + 1) (a (.inr rfl)) st' e'
    | bk => exact b rfl
    | rt s => exact d s rfl
theorem ok_for {fI : M (List D)} {gm : D → M Unit} {F : M Fl} {PF : Fl → En → Prop} : OKr (mFor fI gm F ρ) PF ↔ OKr (fI ρ) fun items ρ1 => OKr (mLoop gm F items ρ1) PF := by
  unfold mFor
  rw [ok_then]
theorem ok_comp {gm : D → M Unit} {ft : M Bool} {fe : M S} {own : List Nat} {I : Nat → List D → En → Prop} {PL : List D → En → Prop} : ∀ {items : List D} {k : Nat} {acc : List D} {ρ : En}, I k acc ρ →
    (∀ i x acc ρ, items[i]? = some x → I (k + i) acc ρ → OKr (gm x ρ) fun _ ρ1 => OKr (ft ρ1) fun b ρ2 => (b = true → OKr (dv fe ρ2) fun y ρ3 => small (acc.length + 1) = true ∧ I (k + i + 1) (acc ++ [y]) (wipeE ρ3 own)) ∧ (¬b = true → I (k + i + 1) acc (wipeE ρ2 own))) →
    (∀ acc ρ, I (k + items.length) acc ρ → PL acc ρ) → OKr (mComp gm ft fe own items acc ρ) PL
  | [], k, acc, ρ, h, _, e => e acc ρ h
  | x :: xs, k, acc, ρ, h, st, e => by
    show OKr ((gm x ρ).calm.then fun _ ρ1 => (ft ρ1).calm.then fun b ρ2 => _) PL
    rw [ok_then, ok_calm]
    refine (st 0 x acc ρ rfl h).imp fun _ ρ1 h1 => ?_
    rw [ok_then, ok_calm]
    have st' : ∀ i y acc ρ, xs[i]? = some y → I (k + 1 + i) acc ρ → OKr (gm y ρ) fun _ ρ1 => OKr (ft ρ1) fun b ρ2 => (b = true → OKr (dv fe ρ2) fun y ρ3 => small (acc.length + 1) = true ∧ I (k + 1 + i + 1) (acc ++ [y]) (wipeE ρ3 own)) ∧ (¬b = true → I (k + 1 + i + 1) acc (wipeE ρ2 own)) := fun i y acc ρ hy hi => by
      have := st (i + 1) y acc ρ (by simpa using hy) (by rw [show k + (i + 1) = k + 1 + i by omega]; exact hi)
      rw [show k + (i + 1) + 1 = k + 1 + i + 1 by omega] at this
      exact this
    have e' : ∀ acc ρ, I (k + 1 + xs.length) acc ρ → PL acc ρ := fun acc ρ h => e acc ρ (by rw [List.length_cons, show k + (xs.length + 1) = k + 1 + xs.length by omega]; exact h)
    refine h1.imp fun b ρ2 ⟨a, d⟩ => ?_
    by_cases hb : b = true
    · rw [if_pos hb, ok_then, ok_calm]
      refine (a hb).imp fun y ρ3 ⟨hz, h⟩ => ?_
      rw [if_pos hz]
      exact ok_comp (k := k + 1) h st' e'
    · rw [if_neg hb]
      exact ok_comp (k := k + 1) (d hb) st' e'
theorem ok_lc {fI : M (List D)} {gm : D → M Unit} {ft : M Bool} {fe : M S} {own : List Nat} : OKr (mLc fI gm ft fe own ρ) P ↔ OKr (fI ρ) fun items ρ1 => OKr (mComp gm ft fe own items [] (wipeE ρ1 own)) fun ds ρ2 => P (.o none (.lst ds)) ρ2 := by
  unfold mLc
  simp only [ok_then, ok_ok]
theorem ok_tup : OKr (mTup fA ρ) P ↔ OKr (fA ρ) fun ds ρ1 => small ds.length = true ∧ P (.d (.tup ds)) ρ1 := by
  unfold mTup
  rw [ok_then]
  refine ⟨fun h => h.imp fun ds ρ1 h => ?_, fun h => h.imp fun ds ρ1 h => ?_⟩
  · by_cases hz : small ds.length = true
    · rw [if_pos hz] at h
      exact ⟨hz, h⟩
    · rw [if_neg hz] at h
      exact h.elim
  · rw [if_pos h.1]
    exact h.2
end
end R
/-- the run goes well and gives what P tells -/
@[irreducible] def OK {α : Type} (m : Out α) (P : α → En → Prop) : Prop := R.OKr m P
@[irreducible] def OKF (o : Out S) (K : S → Prop) : Prop := R.OKFr o K
theorem ok_eq : @OK = @R.OKr := by
  funext α m P
  unfold OK
  rfl
theorem okF_eq : @OKF = @R.OKFr := by
  funext o K
  unfold OKF
  rfl
theorem ok_of {α : Type} {m : Out α} {P : α → En → Prop} (h : R.OKr m P) : OK m P := by
  rw [ok_eq]
  exact h
theorem ok_out {α : Type} {m : Out α} {P : α → En → Prop} (h : OK m P) : R.OKr m P := by
  rw [ok_eq] at h
  exact h
theorem okF {o : Out S} {K : S → Prop} : OKF o K ↔ OK o fun s _ => K s := by
  rw [ok_eq, okF_eq]
  exact Iff.rfl
section
variable {α β : Type} {P Q : α → En → Prop}
theorem ok_ok {a : α} {ρ : En} : OK (.ok a ρ) P ↔ P a ρ := by
  first | exact R.ok_ok | skip
  all_goals (try simp only [okF_eq, ok_eq] at *)
  all_goals first | exact R.ok_ok | exact R.ok_ok (by assumption) | exact R.ok_ok (by assumption) (by assumption) | exact R.ok_ok (by assumption) (by assumption) (by assumption) | apply R.ok_ok <;> assumption
theorem ok_stuck : OK (.stuck : Out α) P ↔ False := by
  first | exact R.ok_stuck | skip
  all_goals (try simp only [okF_eq, ok_eq] at *)
  all_goals first | exact R.ok_stuck | exact R.ok_stuck (by assumption) | exact R.ok_stuck (by assumption) (by assumption) | exact R.ok_stuck (by assumption) (by assumption) (by assumption) | apply R.ok_stuck <;> assumption
theorem ok_then {m : Out α} {f : α → En → Out β} {P : β → En → Prop} : OK (m.then f) P ↔ OK m fun a ρ => OK (f a ρ) P := by
  first | exact R.ok_then | skip
  all_goals (try simp only [okF_eq, ok_eq] at *)
  all_goals first | exact R.ok_then | exact R.ok_then (by assumption) | exact R.ok_then (by assumption) (by assumption) | exact R.ok_then (by assumption) (by assumption) (by assumption) | apply R.ok_then <;> assumption
theorem ok_ite {c : Prop} [Decidable c] {a b : Out α} : OK (if c then a else b) P ↔ (c → OK a P) ∧ (¬c → OK b P) := by
  first | exact R.ok_ite | skip
  all_goals (try simp only [okF_eq, ok_eq] at *)
  all_goals first | exact R.ok_ite | exact R.ok_ite (by assumption) | exact R.ok_ite (by assumption) (by assumption) | exact R.ok_ite (by assumption) (by assumption) (by assumption) | apply R.ok_ite <;> assumption
theorem OK.imp {m : Out α} (h : OK m P) (k : ∀ a ρ, P a ρ → Q a ρ) : OK m Q := by
  first | exact R.OKr.imp | skip
  all_goals (try simp only [okF_eq, ok_eq] at *)
  all_goals first | exact R.OKr.imp | exact R.OKr.imp (by assumption) | exact R.OKr.imp (by assumption) (by assumption) | exact R.OKr.imp (by assumption) (by assumption) (by assumption) | apply R.OKr.imp <;> assumption
theorem OK.at {m : Out α} (h : OK m P) : ∃ a ρ, m = .ok a ρ ∧ P a ρ := by
  first | exact R.OKr.at | skip
  all_goals (try simp only [okF_eq, ok_eq] at *)
  all_goals first | exact R.OKr.at | exact R.OKr.at (by assumption) | exact R.OKr.at (by assumption) (by assumption) | exact R.OKr.at (by assumption) (by assumption) (by assumption) | apply R.OKr.at <;> assumption
theorem ok_calm {m : Out α} : OK m.calm P ↔ OK m P := by
  first | exact R.ok_calm | skip
  all_goals (try simp only [okF_eq, ok_eq] at *)
  all_goals first | exact R.ok_calm | exact R.ok_calm (by assumption) | exact R.ok_calm (by assumption) (by assumption) | exact R.ok_calm (by assumption) (by assumption) (by assumption) | apply R.ok_calm <;> assumption
theorem OKF.imp {o : Out S} {K K' : S → Prop} (h : OKF o K) (k : ∀ s, K s → K' s) : OKF o K' := by
  first | exact R.OKFr.imp | skip
  all_goals (try simp only [okF_eq, ok_eq] at *)
  all_goals first | exact R.OKFr.imp | exact R.OKFr.imp (by assumption) | exact R.OKFr.imp (by assumption) (by assumption) | exact R.OKFr.imp (by assumption) (by assumption) (by assumption) | apply R.OKFr.imp <;> assumption
end
section
variable {ρ : En} {P : S → En → Prop} {PB : Bool → En → Prop} {PA : List D → En → Prop} {PF : Fl → En → Prop} {PU : Unit → En → Prop} {fa fb fe : M S} {fA : M (List D)} {ft fu : M Bool} {F G : M Fl}
theorem ok_dv {f : M S} {K : D → En → Prop} : OK (dv f ρ) K ↔ OK (f ρ) fun s ρ' => ∃ x, toD s = some x ∧ K x ρ' := by
  first | exact R.ok_dv | skip
  all_goals (try simp only [okF_eq, ok_eq] at *)
  all_goals first | exact R.ok_dv | exact R.ok_dv (by assumption) | exact R.ok_dv (by assumption) (by assumption) | exact R.ok_dv (by assumption) (by assumption) (by assumption) | apply R.ok_dv <;> assumption
theorem ex_toD {x : D} {K : D → Prop} : (∃ y, toD (.d x) = some y ∧ K y) ↔ K x := by
  first | exact R.ex_toD | skip
  all_goals (try simp only [okF_eq, ok_eq] at *)
  all_goals first | exact R.ex_toD | exact R.ex_toD (by assumption) | exact R.ex_toD (by assumption) (by assumption) | exact R.ex_toD (by assumption) (by assumption) (by assumption) | apply R.ex_toD <;> assumption
theorem ex_toL {ds : List D} {K : D → Prop} : (∃ y, toD (.o none (.lst ds)) = some y ∧ K y) ↔ K (.lst ds) := by
  first | exact R.ex_toL | skip
  all_goals (try simp only [okF_eq, ok_eq] at *)
  all_goals first | exact R.ex_toL | exact R.ex_toL (by assumption) | exact R.ex_toL (by assumption) (by assumption) | exact R.ex_toL (by assumption) (by assumption) (by assumption) | apply R.ex_toL <;> assumption
theorem ok_c {x : D} : OK (mC x ρ) P ↔ P (.d x) ρ := by
  first | exact R.ok_c | skip
  all_goals (try simp only [okF_eq, ok_eq] at *)
  all_goals first | exact R.ok_c | exact R.ok_c (by assumption) | exact R.ok_c (by assumption) (by assumption) | exact R.ok_c (by assumption) (by assumption) (by assumption) | apply R.ok_c <;> assumption
theorem ok_var {i : Nat} : OK (mVar i ρ) P ↔ OK (mVar i ρ) P := by
  first | exact R.ok_var | skip
  all_goals (try simp only [okF_eq, ok_eq] at *)
  all_goals first | exact R.ok_var | exact R.ok_var (by assumption) | exact R.ok_var (by assumption) (by assumption) | exact R.ok_var (by assumption) (by assumption) (by assumption) | apply R.ok_var <;> assumption
theorem ok_varD {i : Nat} {x : D} (e : ρ[i]? = some (some (.d x))) : OK (mVar i ρ) P ↔ P (.d x) ρ := by
  first | exact R.ok_varD | skip
  all_goals (try simp only [okF_eq, ok_eq] at *)
  all_goals first | exact R.ok_varD | exact R.ok_varD (by assumption) | exact R.ok_varD (by assumption) (by assumption) | exact R.ok_varD (by assumption) (by assumption) (by assumption) | apply R.ok_varD <;> assumption
theorem ok_op {g : D → D → Option S} : OK (mOp g fa fb ρ) P ↔ OK (dv fa ρ) fun x ρ1 => OK (dv fb ρ1) fun y ρ2 => ∃ s, g x y = some s ∧ P s ρ2 := by
  first | exact R.ok_op | skip
  all_goals (try simp only [okF_eq, ok_eq] at *)
  all_goals first | exact R.ok_op | exact R.ok_op (by assumption) | exact R.ok_op (by assumption) (by assumption) | exact R.ok_op (by assumption) (by assumption) (by assumption) | apply R.ok_op <;> assumption
theorem ok_un {g : D → Option S} : OK (mUn g fa ρ) P ↔ OK (dv fa ρ) fun x ρ1 => ∃ s, g x = some s ∧ P s ρ1 := by
  first | exact R.ok_un | skip
  all_goals (try simp only [okF_eq, ok_eq] at *)
  all_goals first | exact R.ok_un | exact R.ok_un (by assumption) | exact R.ok_un (by assumption) (by assumption) | exact R.ok_un (by assumption) (by assumption) (by assumption) | apply R.ok_un <;> assumption
theorem ok_nil : OK (aNil ρ) PA ↔ PA [] ρ := by
  first | exact R.ok_nil | skip
  all_goals (try simp only [okF_eq, ok_eq] at *)
  all_goals first | exact R.ok_nil | exact R.ok_nil (by assumption) | exact R.ok_nil (by assumption) (by assumption) | exact R.ok_nil (by assumption) (by assumption) (by assumption) | apply R.ok_nil <;> assumption
theorem ok_cons {fr : M (List D)} : OK (aCons fa fr ρ) PA ↔ OK (dv fa ρ) fun x ρ1 => OK (fr ρ1) fun ds ρ2 => PA (x :: ds) ρ2 := by
  first | exact R.ok_cons | skip
  all_goals (try simp only [okF_eq, ok_eq] at *)
  all_goals first | exact R.ok_cons | exact R.ok_cons (by assumption) | exact R.ok_cons (by assumption) (by assumption) | exact R.ok_cons (by assumption) (by assumption) (by assumption) | apply R.ok_cons <;> assumption
theorem ok_cb {g : List D → Option S} : OK (mCB g fA ρ) P ↔ OK (fA ρ) fun ds ρ1 => ∃ s, g ds = some s ∧ P s ρ1 := by
  first | exact R.ok_cb | skip
  all_goals (try simp only [okF_eq, ok_eq] at *)
  all_goals first | exact R.ok_cb | exact R.ok_cb (by assumption) | exact R.ok_cb (by assumption) (by assumption) | exact R.ok_cb (by assumption) (by assumption) (by assumption) | apply R.ok_cb <;> assumption
theorem ok_test : OK (mTest fa ρ) PB ↔ OK (dv fa ρ) fun x ρ1 => ∃ b, x = .bl b ∧ PB b ρ1 := by
  first | exact R.ok_test | skip
  all_goals (try simp only [okF_eq, ok_eq] at *)
  all_goals first | exact R.ok_test | exact R.ok_test (by assumption) | exact R.ok_test (by assumption) (by assumption) | exact R.ok_test (by assumption) (by assumption) (by assumption) | apply R.ok_test <;> assumption
theorem ex_bl {b : Bool} {K : Bool → Prop} : (∃ c, D.bl b = D.bl c ∧ K c) ↔ K b := by
  first | exact R.ex_bl | skip
  all_goals (try simp only [okF_eq, ok_eq] at *)
  all_goals first | exact R.ex_bl | exact R.ex_bl (by assumption) | exact R.ex_bl (by assumption) (by assumption) | exact R.ex_bl (by assumption) (by assumption) (by assumption) | apply R.ex_bl <;> assumption
theorem ok_not : OK (mNot ft ρ) PB ↔ OK (ft ρ) fun b ρ1 => PB (!b) ρ1 := by
  first | exact R.ok_not | skip
  all_goals (try simp only [okF_eq, ok_eq] at *)
  all_goals first | exact R.ok_not | exact R.ok_not (by assumption) | exact R.ok_not (by assumption) (by assumption) | exact R.ok_not (by assumption) (by assumption) (by assumption) | apply R.ok_not <;> assumption
theorem ok_and : OK (mAnd ft fu ρ) PB ↔ OK (ft ρ) fun b ρ1 => (b = true → OK (fu ρ1) PB) ∧ (¬b = true → PB false ρ1) := by
  first | exact R.ok_and | skip
  all_goals (try simp only [okF_eq, ok_eq] at *)
  all_goals first | exact R.ok_and | exact R.ok_and (by assumption) | exact R.ok_and (by assumption) (by assumption) | exact R.ok_and (by assumption) (by assumption) (by assumption) | apply R.ok_and <;> assumption
theorem ok_or : OK (mOr ft fu ρ) PB ↔ OK (ft ρ) fun b ρ1 => (b = true → PB true ρ1) ∧ (¬b = true → OK (fu ρ1) PB) := by
  first | exact R.ok_or | skip
  all_goals (try simp only [okF_eq, ok_eq] at *)
  all_goals first | exact R.ok_or | exact R.ok_or (by assumption) | exact R.ok_or (by assumption) (by assumption) | exact R.ok_or (by assumption) (by assumption) (by assumption) | apply R.ok_or <;> assumption
theorem ok_andV : OK (mAndV fa fb ρ) P ↔ OK (mTest fa ρ) fun b ρ1 => (b = true → OK (fb ρ1) P) ∧ (¬b = true → P (.d (.bl false)) ρ1) := by
  first | exact R.ok_andV | skip
  all_goals (try simp only [okF_eq, ok_eq] at *)
  all_goals first | exact R.ok_andV | exact R.ok_andV (by assumption) | exact R.ok_andV (by assumption) (by assumption) | exact R.ok_andV (by assumption) (by assumption) (by assumption) | apply R.ok_andV <;> assumption
theorem ok_orV : OK (mOrV fa fb ρ) P ↔ OK (mTest fa ρ) fun b ρ1 => (b = true → P (.d (.bl true)) ρ1) ∧ (¬b = true → OK (fb ρ1) P) := by
  first | exact R.ok_orV | skip
  all_goals (try simp only [okF_eq, ok_eq] at *)
  all_goals first | exact R.ok_orV | exact R.ok_orV (by assumption) | exact R.ok_orV (by assumption) (by assumption) | exact R.ok_orV (by assumption) (by assumption) (by assumption) | apply R.ok_orV <;> assumption
theorem ok_notV : OK (mNotV fa ρ) P ↔ OK (mTest fa ρ) fun b ρ1 => P (.d (.bl (!b))) ρ1 := by
  first | exact R.ok_notV | skip
  all_goals (try simp only [okF_eq, ok_eq] at *)
  all_goals first | exact R.ok_notV | exact R.ok_notV (by assumption) | exact R.ok_notV (by assumption) (by assumption) | exact R.ok_notV (by assumption) (by assumption) (by assumption) | apply R.ok_notV <;> assumption
theorem ok_if : OK (mIf ft fa fb ρ) P ↔ OK (ft ρ) fun b ρ1 => (b = true → OK (fa ρ1) P) ∧ (¬b = true → OK (fb ρ1) P) := by
  first | exact R.ok_if | skip
  all_goals (try simp only [okF_eq, ok_eq] at *)
  all_goals first | exact R.ok_if | exact R.ok_if (by assumption) | exact R.ok_if (by assumption) (by assumption) | exact R.ok_if (by assumption) (by assumption) (by assumption) | apply R.ok_if <;> assumption
theorem ok_yes : OK (mYes ρ) PB ↔ PB true ρ := by
  first | exact R.ok_yes | skip
  all_goals (try simp only [okF_eq, ok_eq] at *)
  all_goals first | exact R.ok_yes | exact R.ok_yes (by assumption) | exact R.ok_yes (by assumption) (by assumption) | exact R.ok_yes (by assumption) (by assumption) (by assumption) | apply R.ok_yes <;> assumption
/-! statements -/
theorem ok_seq : OK (mSeq F G ρ) PF ↔ OK (F ρ) fun f ρ1 => (f = .nx → OK (G ρ1) PF) ∧ (f ≠ .nx → PF f ρ1) := by
  first | exact R.ok_seq | skip
  all_goals (try simp only [okF_eq, ok_eq] at *)
  all_goals first | exact R.ok_seq | exact R.ok_seq (by assumption) | exact R.ok_seq (by assumption) (by assumption) | exact R.ok_seq (by assumption) (by assumption) (by assumption) | apply R.ok_seq <;> assumption
theorem fl_nx {A : Prop} {B : Prop} : ((Fl.nx = Fl.nx → A) ∧ (Fl.nx ≠ Fl.nx → B)) ↔ A := by
  first | exact R.fl_nx | skip
  all_goals (try simp only [okF_eq, ok_eq] at *)
  all_goals first | exact R.fl_nx | exact R.fl_nx (by assumption) | exact R.fl_nx (by assumption) (by assumption) | exact R.fl_nx (by assumption) (by assumption) (by assumption) | apply R.fl_nx <;> assumption
theorem fl_rt {s : S} {A : Prop} {B : Prop} : ((Fl.rt s = Fl.nx → A) ∧ (Fl.rt s ≠ Fl.nx → B)) ↔ B := by
  first | exact R.fl_rt | skip
  all_goals (try simp only [okF_eq, ok_eq] at *)
  all_goals first | exact R.fl_rt | exact R.fl_rt (by assumption) | exact R.fl_rt (by assumption) (by assumption) | exact R.fl_rt (by assumption) (by assumption) (by assumption) | apply R.fl_rt <;> assumption
theorem fl_bk {A : Prop} {B : Prop} : ((Fl.bk = Fl.nx → A) ∧ (Fl.bk ≠ Fl.nx → B)) ↔ B := by
  first | exact R.fl_bk | skip
  all_goals (try simp only [okF_eq, ok_eq] at *)
  all_goals first | exact R.fl_bk | exact R.fl_bk (by assumption) | exact R.fl_bk (by assumption) (by assumption) | exact R.fl_bk (by assumption) (by assumption) (by assumption) | apply R.fl_bk <;> assumption
theorem fl_ct {A : Prop} {B : Prop} : ((Fl.ct = Fl.nx → A) ∧ (Fl.ct ≠ Fl.nx → B)) ↔ B := by
  first | exact R.fl_ct | skip
  all_goals (try simp only [okF_eq, ok_eq] at *)
  all_goals first | exact R.fl_ct | exact R.fl_ct (by assumption) | exact R.fl_ct (by assumption) (by assumption) | exact R.fl_ct (by assumption) (by assumption) (by assumption) | apply R.fl_ct <;> assumption
theorem ok_nx : OK (mNx ρ) PF ↔ PF .nx ρ := by
  first | exact R.ok_nx | skip
  all_goals (try simp only [okF_eq, ok_eq] at *)
  all_goals first | exact R.ok_nx | exact R.ok_nx (by assumption) | exact R.ok_nx (by assumption) (by assumption) | exact R.ok_nx (by assumption) (by assumption) (by assumption) | apply R.ok_nx <;> assumption
theorem ok_bk : OK (mBk ρ) PF ↔ PF .bk ρ := by
  first | exact R.ok_bk | skip
  all_goals (try simp only [okF_eq, ok_eq] at *)
  all_goals first | exact R.ok_bk | exact R.ok_bk (by assumption) | exact R.ok_bk (by assumption) (by assumption) | exact R.ok_bk (by assumption) (by assumption) (by assumption) | apply R.ok_bk <;> assumption
theorem ok_ct : OK (mCt ρ) PF ↔ PF .ct ρ := by
  first | exact R.ok_ct | skip
  all_goals (try simp only [okF_eq, ok_eq] at *)
  all_goals first | exact R.ok_ct | exact R.ok_ct (by assumption) | exact R.ok_ct (by assumption) (by assumption) | exact R.ok_ct (by assumption) (by assumption) (by assumption) | apply R.ok_ct <;> assumption
theorem ok_st : OK (mSt ρ) PF ↔ False := by
  first | exact R.ok_st | skip
  all_goals (try simp only [okF_eq, ok_eq] at *)
  all_goals first | exact R.ok_st | exact R.ok_st (by assumption) | exact R.ok_st (by assumption) (by assumption) | exact R.ok_st (by assumption) (by assumption) (by assumption) | apply R.ok_st <;> assumption
theorem ok_ret : OK (mRet fa ρ) PF ↔ OK (fa ρ) fun s ρ1 => PF (.rt s) ρ1 := by
  first | exact R.ok_ret | skip
  all_goals (try simp only [okF_eq, ok_eq] at *)
  all_goals first | exact R.ok_ret | exact R.ok_ret (by assumption) | exact R.ok_ret (by assumption) (by assumption) | exact R.ok_ret (by assumption) (by assumption) (by assumption) | apply R.ok_ret <;> assumption
theorem ok_retN : OK (mRetN ρ) PF ↔ PF (.rt (.d .non)) ρ := by
  first | exact R.ok_retN | skip
  all_goals (try simp only [okF_eq, ok_eq] at *)
  all_goals first | exact R.ok_retN | exact R.ok_retN (by assumption) | exact R.ok_retN (by assumption) (by assumption) | exact R.ok_retN (by assumption) (by assumption) (by assumption) | apply R.ok_retN <;> assumption
theorem ok_ifS : OK (mIfS ft F G ρ) PF ↔ OK (ft ρ) fun b ρ1 => (b = true → OK (F ρ1) PF) ∧ (¬b = true → OK (G ρ1) PF) := by
  first | exact R.ok_ifS | skip
  all_goals (try simp only [okF_eq, ok_eq] at *)
  all_goals first | exact R.ok_ifS | exact R.ok_ifS (by assumption) | exact R.ok_ifS (by assumption) (by assumption) | exact R.ok_ifS (by assumption) (by assumption) (by assumption) | apply R.ok_ifS <;> assumption
theorem ok_drop : OK (mDrop fa ρ) PF ↔ OK (fa ρ) fun _ ρ1 => PF .nx ρ1 := by
  first | exact R.ok_drop | skip
  all_goals (try simp only [okF_eq, ok_eq] at *)
  all_goals first | exact R.ok_drop | exact R.ok_drop (by assumption) | exact R.ok_drop (by assumption) (by assumption) | exact R.ok_drop (by assumption) (by assumption) (by assumption) | apply R.ok_drop <;> assumption
theorem ok_asg {g : D → M Unit} : OK (mAsg fa g ρ) PF ↔ OK (dv fa ρ) fun x ρ1 => OK (g x ρ1) fun _ ρ2 => PF .nx ρ2 := by
  first | exact R.ok_asg | skip
  all_goals (try simp only [okF_eq, ok_eq] at *)
  all_goals first | exact R.ok_asg | exact R.ok_asg (by assumption) | exact R.ok_asg (by assumption) (by assumption) | exact R.ok_asg (by assumption) (by assumption) (by assumption) | apply R.ok_asg <;> assumption
theorem ok_gname {i : Nat} {x : D} : OK (gmName i x ρ) PU ↔ PU () (ρ.set i (some (.d x))) := by
  first | exact R.ok_gname | skip
  all_goals (try simp only [okF_eq, ok_eq] at *)
  all_goals first | exact R.ok_gname | exact R.ok_gname (by assumption) | exact R.ok_gname (by assumption) (by assumption) | exact R.ok_gname (by assumption) (by assumption) (by assumption) | apply R.ok_gname <;> assumption
theorem ok_call {f : Fn} : OK (mCall f fA ρ) P ↔ OK (fA ρ) fun ds ρ1 => OKF (f (ds.map .d)) fun s => bare s = true ∧ P s ρ1 := by
  first | exact R.ok_call | skip
  all_goals (try simp only [okF_eq, ok_eq] at *)
  all_goals first | exact R.ok_call | exact R.ok_call (by assumption) | exact R.ok_call (by assumption) (by assumption) | exact R.ok_call (by assumption) (by assumption) (by assumption) | apply R.ok_call <;> assumption
theorem okF_runF {np nN : Nat} {body : M Fl} {args : List S} {K : S → Prop} : OKF (runF np nN body args) K ↔ args.length = np ∧ OK (body (args.map some ++ List.replicate (nN - np) none)) fun f _ => (∃ s, f = .rt s ∧ K s) ∨ (f = .nx ∧ K (.d .non)) := by
  first | exact R.okF_runF | skip
  all_goals (try simp only [okF_eq, ok_eq] at *)
  all_goals first | exact R.okF_runF | exact R.okF_runF (by assumption) | exact R.okF_runF (by assumption) (by assumption) | exact R.okF_runF (by assumption) (by assumption) (by assumption) | apply R.okF_runF <;> assumption
theorem ok_runF {np nN : Nat} {body : M Fl} {args : List S} {K : S → En → Prop} (ha : args.length = np) (h : OK (body (args.map some ++ List.replicate (nN - np) none)) fun f ρ => (∃ s, f = .rt s ∧ K s ρ) ∨ (f = .nx ∧ K (.d .non) ρ)) : OK (runF np nN body args) K := by
  first | exact R.ok_runF | skip
  all_goals (try simp only [okF_eq, ok_eq] at *)
  all_goals first | exact R.ok_runF | exact R.ok_runF (by assumption) | exact R.ok_runF (by assumption) (by assumption) | exact R.ok_runF (by assumption) (by assumption) (by assumption) | apply R.ok_runF <;> assumption
theorem rt_or {s : S} {K : S → Prop} : ((∃ t, Fl.rt s = .rt t ∧ K t) ∨ (Fl.rt s = .nx ∧ K (.d .non))) ↔ K s := by
  first | exact R.rt_or | skip
  all_goals (try simp only [okF_eq, ok_eq] at *)
  all_goals first | exact R.rt_or | exact R.rt_or (by assumption) | exact R.rt_or (by assumption) (by assumption) | exact R.rt_or (by assumption) (by assumption) (by assumption) | apply R.rt_or <;> assumption
theorem nx_or {K : S → Prop} : ((∃ t, Fl.nx = .rt t ∧ K t) ∨ (Fl.nx = .nx ∧ K (.d .non))) ↔ K (.d .non) := by
  first | exact R.nx_or | skip
  all_goals (try simp only [okF_eq, ok_eq] at *)
  all_goals first | exact R.nx_or | exact R.nx_or (by assumption) | exact R.nx_or (by assumption) (by assumption) | exact R.nx_or (by assumption) (by assumption) (by assumption) | apply R.nx_or <;> assumption
theorem okF_runL {np nN : Nat} {fe : M S} {args : List S} {K : S → Prop} : OKF (runL np nN fe args) K ↔ args.length = np ∧ OK (fe (args.map some ++ List.replicate (nN - np) none)) fun s _ => K s := by
  first | exact R.okF_runL | skip
  all_goals (try simp only [okF_eq, ok_eq] at *)
  all_goals first | exact R.okF_runL | exact R.okF_runL (by assumption) | exact R.okF_runL (by assumption) (by assumption) | exact R.okF_runL (by assumption) (by assumption) (by assumption) | apply R.okF_runL <;> assumption
/-! loops by what they keep -/
theorem ok_loop {gm : D → M Unit} {F : M Fl} {I : Nat → En → Prop} {PF : Fl → En → Prop} : ∀ {items : List D} {k : Nat} {ρ : En}, I k ρ →
    (∀ i x ρ, items[i]? = some x → I (k + i) ρ → OK (gm x ρ) fun _ ρ1 => OK (F ρ1) fun f ρ2 => (f = .nx ∨ f = .ct → I (k + i + 1) ρ2) ∧ (f = .bk → PF .nx ρ2) ∧ ∀ s, f = .rt s → PF (.rt s) ρ2) →
    (∀ ρ, I (k + items.length) ρ → PF .nx ρ) → OK (mLoop gm F items ρ) PF := by
  first | exact R.ok_loop | skip
  all_goals (try simp only [okF_eq, ok_eq] at *)
  all_goals first | exact R.ok_loop | exact R.ok_loop (by assumption) | exact R.ok_loop (by assumption) (by assumption) | exact R.ok_loop (by assumption) (by assumption) (by assumption) | apply R.ok_loop <;> assumption
theorem ok_for {fI : M (List D)} {gm : D → M Unit} {F : M Fl} {PF : Fl → En → Prop} : OK (mFor fI gm F ρ) PF ↔ OK (fI ρ) fun items ρ1 => OK (mLoop gm F items ρ1) PF := by
  first | exact R.ok_for | skip
  all_goals (try simp only [okF_eq, ok_eq] at *)
  all_goals first | exact R.ok_for | exact R.ok_for (by assumption) | exact R.ok_for (by assumption) (by assumption) | exact R.ok_for (by assumption) (by assumption) (by assumption) | apply R.ok_for <;> assumption
theorem ok_comp {gm : D → M Unit} {ft : M Bool} {fe : M S} {own : List Nat} {I : Nat → List D → En → Prop} {PL : List D → En → Prop} : ∀ {items : List D} {k : Nat} {acc : List D} {ρ : En}, I k acc ρ →
    (∀ i x acc ρ, items[i]? = some x → I (k + i) acc ρ → OK (gm x ρ) fun _ ρ1 => OK (ft ρ1) fun b ρ2 => (b = true → OK (dv fe ρ2) fun y ρ3 => small (acc.length + 1) = true ∧ I (k + i + 1) (acc ++ [y]) (wipeE ρ3 own)) ∧ (¬b = true → I (k + i + 1) acc (wipeE ρ2 own))) →
    (∀ acc ρ, I (k + items.length) acc ρ → PL acc ρ) → OK (mComp gm ft fe own items acc ρ) PL := by
  first | exact R.ok_comp | skip
  all_goals (try simp only [okF_eq, ok_eq] at *)
  all_goals first | exact R.ok_comp | exact R.ok_comp (by assumption) | exact R.ok_comp (by assumption) (by assumption) | exact R.ok_comp (by assumption) (by assumption) (by assumption) | apply R.ok_comp <;> assumption
theorem ok_lc {fI : M (List D)} {gm : D → M Unit} {ft : M Bool} {fe : M S} {own : List Nat} : OK (mLc fI gm ft fe own ρ) P ↔ OK (fI ρ) fun items ρ1 => OK (mComp gm ft fe own items [] (wipeE ρ1 own)) fun ds ρ2 => P (.o none (.lst ds)) ρ2 := by
  first | exact R.ok_lc | skip
  all_goals (try simp only [okF_eq, ok_eq] at *)
  all_goals first | exact R.ok_lc | exact R.ok_lc (by assumption) | exact R.ok_lc (by assumption) (by assumption) | exact R.ok_lc (by assumption) (by assumption) (by assumption) | apply R.ok_lc <;> assumption
theorem ok_tup : OK (mTup fA ρ) P ↔ OK (fA ρ) fun ds ρ1 => small ds.length = true ∧ P (.d (.tup ds)) ρ1 := by
  first | exact R.ok_tup | skip
  all_goals (try simp only [okF_eq, ok_eq] at *)
  all_goals first | exact R.ok_tup | exact R.ok_tup (by assumption) | exact R.ok_tup (by assumption) (by assumption) | exact R.ok_tup (by assumption) (by assumption) (by assumption) | apply R.ok_tup <;> assumption
end
end Fx
/-! the checks and the draws, on data -/
namespace Fx
open PySem
namespace R
theorem ok_chain {g g' : D → D → Option S} {fa fb fc : M S} {ρ : En} {P : S → En → Prop} : OKr (mChain g g' fa fb fc ρ) P ↔ OKr (dv fa ρ) fun x ρ1 => OKr (dv fb ρ1) fun y ρ2 => ∃ b, g x y = some (.d (.bl b)) ∧ (b = true → OKr (dv fc ρ2) fun z ρ3 => ∃ s, g' y z = some s ∧ P s ρ3) ∧ (¬b = true → P (.d (.bl false)) ρ2) := by
  unfold mChain
  simp only [ok_then]
  constructor
  · exact fun h => h.imp fun x ρ1 h => h.imp fun y ρ2 h => by
      split at h
      · rename_i e
        refine ⟨true, e, fun _ => ?_, fun n => absurd rfl n⟩
        rw [ok_then] at h
        refine h.imp fun z ρ3 h => ?_
        cases e : g' y z with
        | none => rw [e] at h; exact h.elim
        | some s => rw [e] at h; exact ⟨s, rfl, h⟩
      · rename_i e
        exact ⟨false, e, fun n => (by cases n), fun _ => h⟩
      · exact h.elim
  · exact fun h => h.imp fun x ρ1 h => h.imp fun y ρ2 h => by
      obtain ⟨b, e, h1, h2⟩ := h
      rw [e]
      cases b with
      | true =>
        dsimp only
        rw [ok_then]
        refine (h1 rfl).imp fun z ρ3 h => ?_
        obtain ⟨s, e, k⟩ := h
        rw [e]
        exact k
      | false => exact h2 (by decide)
end R
theorem ok_chain {g g' : D → D → Option S} {fa fb fc : M S} {ρ : En} {P : S → En → Prop} : OK (mChain g g' fa fb fc ρ) P ↔ OK (dv fa ρ) fun x ρ1 => OK (dv fb ρ1) fun y ρ2 => ∃ b, g x y = some (.d (.bl b)) ∧ (b = true → OK (dv fc ρ2) fun z ρ3 => ∃ s, g' y z = some s ∧ P s ρ3) ∧ (¬b = true → P (.d (.bl false)) ρ2) := by
  simp only [ok_eq]
  exact R.ok_chain
theorem ex_some {α : Type} {a : α} {K : α → Prop} : (∃ s, some a = some s ∧ K s) ↔ K a := ⟨fun ⟨s, e, k⟩ => by cases e; exact k, fun k => ⟨a, rfl, k⟩⟩
theorem ex_bl1 {b : Bool} {K : Bool → Prop} : (∃ c, some (S.d (.bl b)) = some (S.d (.bl c)) ∧ K c) ↔ K b := ⟨fun ⟨s, e, k⟩ => by cases e; exact k, fun k => ⟨b, rfl, k⟩⟩
section
variable {k : Nat} {fe : M S} {items : List D} {ρ0 : En} {f : D → D} {PL : List D → En → Prop}
/-- a comprehension whose element is told of its item alone -/
theorem ok_map (hw : ρ0.set k none = ρ0) (st : ∀ x ∈ items, OK (dv fe (ρ0.set k (some (.d x)))) fun y ρ3 => y = f x ∧ ρ3.set k none = ρ0) (hs : items.length ≤ 16777216) (q : PL (items.map f) ρ0) : OK (mComp (gmName k) mYes fe [k] items [] ρ0) PL := by
  refine ok_comp (I := fun i acc ρ => acc = (items.take i).map f ∧ ρ = ρ0) (k := 0) ⟨rfl, rfl⟩ ?_ ?_
  · rintro i x acc ρ hx ⟨rfl, rfl⟩
    have hi : i < items.length := (List.getElem?_eq_some_iff.mp hx).1
    rw [ok_gname, ok_yes]
    refine ⟨fun _ => ?_, fun n => absurd rfl n⟩
    refine (st x (List.mem_of_getElem? hx)).imp fun y ρ3 ⟨e1, e2⟩ => ⟨?_, ?_, ?_⟩
    · rw [List.length_map, List.length_take, Nat.zero_add, Nat.min_eq_left (Nat.le_of_lt hi)]
      exact decide_eq_true (by omega)
    · rw [e1, Nat.zero_add, List.take_add_one, hx, List.map_append]
      rfl
    · exact e2
  · rintro acc ρ ⟨rfl, rfl⟩
    rw [Nat.zero_add, List.take_length]
    exact q
end
theorem blsD_map {α : Type} {g : α → Bool} : ∀ xs : List α, blsD (xs.map fun x => D.bl (g x)) = some (xs.map g)
  | [] => rfl
  | x :: xs => by
    show (blsD (xs.map fun x => D.bl (g x))).map (g x :: ·) = _
    rw [blsD_map xs]
    rfl
section
variable {x0 x1 x2 x3 : D}
theorem at1 : L2.atI [x0, x1, x2, x3] 1 = some x1 := rfl
theorem at2 : L2.atI [x0, x1, x2, x3] 2 = some x2 := rfl
theorem at3 : L2.atI [x0, x1, x2, x3] 3 = some x3 := rfl
end
/-- a law's row of draws -/
def rowD (ns : List Int) (a b c : Int) : D := .lst [.scr ns, .int a, .int b, .int c]
def RowOk (a b c : Int) : Prop := 0 ≤ a ∧ 0 ≤ b ∧ b < 2147483647 ∧ 0 ≤ c
section
variable {K : S → Prop} {i j : Int}
theorem e_add : (∃ s, gAdd (.int i) (.int j) = some s ∧ K s) ↔ K (.d (.int (i + j))) := ex_some
theorem e_sub : (∃ s, gMinus (.int i) (.int j) = some s ∧ K s) ↔ K (.d (.int (i - j))) := ex_some
theorem e_mul (h : i64 j = true) : (∃ s, gMul (.int i) (.int j) = some s ∧ K s) ↔ K (.d (.int (i * j))) := by
  have e : gMul (.int i) (.int j) = ok1 (.int (i * j)) := by
    show (if (i64 i || i64 j) = true then ok1 (.int (i * j)) else none) = _
    rw [if_pos (by rw [h, Bool.or_true])]
  rw [e]
  exact ex_some
theorem e_mod (h : 0 < j) : (∃ s, gMod (.int i) (.int j) = some s ∧ K s) ↔ K (.d (.int (i % j))) := by
  unfold gMod gIIc
  dsimp only
  rw [if_pos (decide_eq_true h)]
  exact ex_some
theorem e_div (h : 0 < j) (h2 : j < 1073741824) : (∃ s, gDiv (.int i) (.int j) = some s ∧ K s) ↔ K (.d (.int (i / j))) := by
  have e : gDiv (.int i) (.int j) = ok1 (.int (i / j)) := by
    show (if (decide (0 < j) && decide (j < 1073741824)) = true then ok1 (.int (i / j)) else none) = _
    rw [if_pos (by simp [h, h2])]
  rw [e]
  exact ex_some
theorem e_pow : (∃ s, gPow (.int 10) (.int 18) = some s ∧ K s) ↔ K (.d (.int 1000000000000000000)) := ex_some
theorem e_int : (∃ s, gInt1 [.int i] = some s ∧ K s) ↔ K (.d (.int i)) := ex_some
theorem e_lenS {ns : List Int} : (∃ s, gLen [.scr ns] = some s ∧ K s) ↔ K (.d (.int ns.length)) := ex_some
theorem e_lenT {ds : List D} : (∃ s, gLen [.tup ds] = some s ∧ K s) ↔ K (.d (.int ds.length)) := ex_some
theorem e_lenL {ds : List D} : (∃ s, gLen [.lst ds] = some s ∧ K s) ↔ K (.d (.int ds.length)) := ex_some
theorem at_nat {α : Type} {xs : List α} {i : Int} (h0 : 0 ≤ i) (h1 : i < xs.length) : ∃ x, L2.atI xs i = some x ∧ xs[i.toNat]? = some x := by
  have hj : i.toNat < xs.length := by omega
  refine ⟨xs[i.toNat], ?_, List.getElem?_eq_getElem hj⟩
  have := L2.atI_nat (xs := xs) (List.getElem?_eq_getElem hj)
  rwa [Int.toNat_of_nonneg h0] at this
theorem e_ixS {ns : List Int} (h0 : 0 ≤ i) (h1 : i < ns.length) : (∃ s, gIx (.scr ns) (.int i) = some s ∧ K s) ↔ K (.d (.int ((ns[i.toNat]?).getD 0))) := by
  obtain ⟨x, e1, e2⟩ := at_nat h0 h1
  show (∃ s, (L2.atI ns i).bind (fun n => ok1 (.int n)) = some s ∧ K s) ↔ _
  rw [e1, e2]
  exact ex_some
theorem e_ixT {ds : List D} (h0 : 0 ≤ i) (h1 : i < ds.length) : (∃ s, gIx (.tup ds) (.int i) = some s ∧ K s) ↔ K (.d ((ds[i.toNat]?).getD .non)) := by
  obtain ⟨x, e1, e2⟩ := at_nat h0 h1
  show (∃ s, (L2.atI ds i).bind ok1 = some s ∧ K s) ↔ _
  rw [e1, e2]
  exact ex_some
theorem e_ixL {ds : List D} (h0 : 0 ≤ i) (h1 : i < ds.length) : (∃ s, gIx (.lst ds) (.int i) = some s ∧ K s) ↔ K (.d ((ds[i.toNat]?).getD .non)) := by
  obtain ⟨x, e1, e2⟩ := at_nat h0 h1
  show (∃ s, (L2.atI ds i).bind ok1 = some s ∧ K s) ↔ _
  rw [e1, e2]
  exact ex_some
theorem e_lt : (∃ s, gLt (.int i) (.int j) = some s ∧ K s) ↔ K (.d (.bl (decide (i < j)))) := ex_some
theorem e_le : (∃ s, gLe (.int i) (.int j) = some s ∧ K s) ↔ K (.d (.bl (decide (i ≤ j)))) := ex_some
theorem e_gt : (∃ s, gGt (.int i) (.int j) = some s ∧ K s) ↔ K (.d (.bl (decide (j < i)))) := ex_some
theorem e_ge : (∃ s, gGe (.int i) (.int j) = some s ∧ K s) ↔ K (.d (.bl (decide (j ≤ i)))) := ex_some
theorem e_leC {K : Bool → Prop} : (∃ b, gLe (.int i) (.int j) = some (S.d (.bl b)) ∧ K b) ↔ K (decide (i ≤ j)) := ex_bl1
theorem e_ltC {K : Bool → Prop} : (∃ b, gLt (.int i) (.int j) = some (S.d (.bl b)) ∧ K b) ↔ K (decide (i < j)) := ex_bl1
theorem e_isN {x : D} : (∃ s, gIsN x .non = some s ∧ K s) ↔ K (.d (.bl (isN x))) := ex_some
theorem e_notN {x : D} : (∃ s, gNotN x .non = some s ∧ K s) ↔ K (.d (.bl (!isN x))) := ex_some
end
section
variable {ns : List Int} {a b c : Int} {o : Option Nat} {P : S → En → Prop} {ρ : En}
theorem ok_row1 : OK (mIxO 0 (mC (.int 1)) (some (.o o (rowD ns a b c)) :: ρ)) P ↔ P (.d (.int a)) (some (.o o (rowD ns a b c)) :: ρ) := by
  rw [ok_eq]
  exact Iff.rfl
theorem ok_row2 : OK (mIxO 0 (mC (.int 2)) (some (.o o (rowD ns a b c)) :: ρ)) P ↔ P (.d (.int b)) (some (.o o (rowD ns a b c)) :: ρ) := by
  rw [ok_eq]
  exact Iff.rfl
theorem ok_row3 : OK (mIxO 0 (mC (.int 3)) (some (.o o (rowD ns a b c)) :: ρ)) P ↔ P (.d (.int c)) (some (.o o (rowD ns a b c)) :: ρ) := by
  rw [ok_eq]
  exact Iff.rfl
theorem ok_row0 : OK (mIxO 0 (mC (.int 0)) (some (.o o (rowD ns a b c)) :: ρ)) P ↔ P (.d (.scr ns)) (some (.o o (rowD ns a b c)) :: ρ) := by
  rw [ok_eq]
  exact Iff.rfl
variable {PU : Unit → En → Prop} {x : Int}
theorem ok_put1 : OK (gmItem 0 (mC (.int 1)) (.int x) (some (.o o (rowD ns a b c)) :: ρ)) PU ↔ PU () (some (.o o (rowD ns x b c)) :: ρ) := by
  rw [ok_eq]
  exact Iff.rfl
theorem ok_put2 : OK (gmItem 0 (mC (.int 2)) (.int x) (some (.o o (rowD ns a b c)) :: ρ)) PU ↔ PU () (some (.o o (rowD ns a x c)) :: ρ) := by
  rw [ok_eq]
  exact Iff.rfl
theorem ok_put3 : OK (gmItem 0 (mC (.int 3)) (.int x) (some (.o o (rowD ns a b c)) :: ρ)) PU ↔ PU () (some (.o o (rowD ns a b x)) :: ρ) := by
  rw [ok_eq]
  exact Iff.rfl
end
local macro_rules | `(tactic| walk_at "wp") => `(tactic| simp only [okF_runF, okF_runL, ok_seq, ok_ret, ok_retN, ok_andV, ok_orV, ok_notV, ok_cb, ok_cons, ok_nil, ok_test, ok_dv, ok_op, ok_un, ok_c, ok_if, ok_ifS, ok_and, ok_or, ok_not, ok_asg, ok_gname, ok_drop, ok_call, ok_chain, ok_nx, ok_bk, ok_ct, ok_st, ok_yes, ok_for, ok_lc, ok_tup, ok_ok, ok_stuck, ex_toD, ex_toL, ex_bl, ex_some, ex_bl1, fl_nx, fl_rt, fl_bk, fl_ct, rt_or, nx_or, mVar, ok1, gIsi, isTy, Option.bind, bare, e_add, e_sub, e_int, e_lenS, e_lenT, e_lenL, e_lt, e_le, e_gt, e_ge, e_leC, e_ltC, e_isN, e_notN, e_pow,
  List.map_cons, List.map_nil, List.length_cons, List.length_nil, List.replicate_succ, List.replicate_zero, List.cons_append, List.nil_append, List.append_nil, List.getElem?_cons_zero, List.getElem?_cons_succ, List.set_cons_zero, List.set_cons_succ, Nat.reduceAdd, Nat.reduceSub, true_and, and_true, Bool.not_true, Bool.not_false, true_implies, forall_const, not_true_eq_false, false_implies, Bool.false_eq_true, not_false_eq_true, implies_true, eq_self, ne_eq, reduceCtorEq, Fl.rt.injEq, S.d.injEq, D.int.injEq, false_and, exists_false, or_false, false_or, exists_eq_left'])
local macro_rules | `(tactic| walk_at "wt") => `(tactic| simp (config := { contextual := false }) only [ok_row0, ok_row1, ok_row2, ok_row3, ok_put1, ok_put2, ok_put3, e_mod, e_div, e_mul, e_ixS, decide_true, decide_false, *, okF_runF, okF_runL, ok_seq, ok_ret, ok_retN, ok_andV, ok_orV, ok_notV, ok_cb, ok_cons, ok_nil, ok_test, ok_dv, ok_op, ok_un, ok_c, ok_if, ok_ifS, ok_and, ok_or, ok_not, ok_asg, ok_gname, ok_drop, ok_call, ok_chain, ok_nx, ok_bk, ok_ct, ok_st, ok_yes, ok_for, ok_lc, ok_tup, ok_ok, ok_stuck, ex_toD, ex_toL, ex_bl, ex_some, ex_bl1, fl_nx, fl_rt, fl_bk, fl_ct, rt_or, nx_or, mVar, ok1, gIsi, isTy, Option.bind, bare, e_add, e_sub, e_int, e_lenS, e_lenT, e_lenL, e_lt, e_le, e_gt, e_ge, e_leC, e_ltC, e_isN, e_notN, e_pow,
  List.map_cons, List.map_nil, List.length_cons, List.length_nil, List.replicate_succ, List.replicate_zero, List.cons_append, List.nil_append, List.append_nil, List.getElem?_cons_zero, List.getElem?_cons_succ, List.set_cons_zero, List.set_cons_succ, Nat.reduceAdd, Nat.reduceSub, true_and, and_true, Bool.not_true, Bool.not_false, true_implies, forall_const, not_true_eq_false, false_implies, Bool.false_eq_true, not_false_eq_true, implies_true, eq_self, ne_eq, reduceCtorEq, Fl.rt.injEq, S.d.injEq, D.int.injEq, false_and, exists_false, or_false, false_or, exists_eq_left'])
namespace Lib
def b_is_number : M Fl := (mRet (mAndV (mCB gIsi (aCons (mVar 0) (aCons (mC (.ty "int")) aNil))) (mAndV (mNotV (mCB gIsi (aCons (mVar 0) (aCons (mC (.ty "bool")) aNil)))) (mChain gLe gLe (mVar 1) (mVar 0) (mVar 2)))))
def f_is_number : Fn := runF 3 3 b_is_number
def oD : Option Int → D
  | none => .non
  | some i => .int i
def numB (lo hi : Int) : Option Int → Bool
  | none => false
  | some i => decide (lo ≤ i) && decide (i ≤ hi)
theorem num {o : Option Int} {lo hi : Int} {K : S → Prop} : OKF (f_is_number [.d (oD o), .d (.int lo), .d (.int hi)]) K ↔ K (.d (.bl (numB lo hi o))) := by
  cases o with
  | none =>
    unfold f_is_number b_is_number oD numB
    walk_at "wp"
  | some i =>
    unfold f_is_number b_is_number oD numB
    walk_at "wp"
    by_cases h : lo ≤ i <;> simp [h]
def b_is_tuple : M Fl := (mRet (mAndV (mCB gIsi (aCons (mVar 0) (aCons (mC (.ty "tuple")) aNil))) (mChain gLe gLe (mVar 1) (mCB gLen (aCons (mVar 0) aNil)) (mVar 2))))
def f_is_tuple : Fn := runF 3 3 b_is_tuple
theorem tup {ds : List D} {lo hi : Int} {K : S → Prop} : OKF (f_is_tuple [.d (.tup ds), .d (.int lo), .d (.int hi)]) K ↔ K (.d (.bl (decide (lo ≤ ds.length) && decide ((ds.length : Int) ≤ hi)))) := by
  unfold f_is_tuple b_is_tuple
  walk_at "wp"
  by_cases h : lo ≤ ds.length <;> simp [h]
def b_are_numbers : M Fl := (mRet (mAndV (mCB gIsi (aCons (mVar 0) (aCons (mC (.ty "tuple")) aNil))) (mCB gAll (aCons (mLc (iSeq (mVar 0)) (gmName 3) mYes (mCall f_is_number (aCons (mVar 3) (aCons (mVar 1) (aCons (mVar 2) aNil)))) [3]) aNil))))
def f_are_numbers : Fn := runF 3 4 b_are_numbers
theorem nums {os : List (Option Int)} {lo hi : Int} {K : S → Prop} (hl : os.length ≤ 16777216) (h : K (.d (.bl (os.all (numB lo hi))))) : OKF (f_are_numbers [.d (.tup (os.map oD)), .d (.int lo), .d (.int hi)]) K := by
  unfold f_are_numbers b_are_numbers
  walk_at "wp"
  simp only [iSeq, ok_then, ok_dv, ok_var]
  walk_at "wp"
  simp only [itemsD, ok_ok, wipeE]
  walk_at "wp"
  refine ok_map (f := fun x => .bl (match x with | .int i => decide (lo ≤ i) && decide (i ≤ hi) | _ => false)) rfl ?_ (by rw [List.length_map]; exact hl) ?_
  · intro x hx
    obtain ⟨o, _, rfl⟩ := List.mem_map.mp hx
    walk_at "wp"
    rw [num]
    walk_at "wp"
    cases o <;> rfl
  · refine ⟨_, ?_, h⟩
    show (blsD _).bind _ = _
    have e : List.map (fun x => D.bl (match x with | D.int i => decide (lo ≤ i) && decide (i ≤ hi) | x => false)) (List.map oD os) = os.map fun o => D.bl (numB lo hi o) := by
      rw [List.map_map]
      refine List.map_congr_left fun o _ => ?_
      cases o <;> rfl
    rw [e, blsD_map, Option.bind_some, List.all_map]
    rfl
def b_law_taken : M Fl := (mSeq (mIfS (mTest (mOp gGt (mIxO 0 (mC (.int 3))) (mC (.int 0)))) (mSeq (mAsg (mOp gMod (mCB gInt1 (aCons (mIxO 0 (mC (.int 3))) aNil)) (mVar 1)) (gmName 2))
    (mSeq (mAsg (mOp gDiv (mIxO 0 (mC (.int 3))) (mVar 1)) (gmItem 0 (mC (.int 3))))
    (mRet (mVar 2)))) mNx)
    (mSeq (mAsg (mOp gAdd (mIxO 0 (mC (.int 1))) (mC (.int 1))) (gmItem 0 (mC (.int 1))))
    (mSeq (mIfS (mTest (mOp gGt (mIxO 0 (mC (.int 1))) (mCB gLen (aCons (mIxO 0 (mC (.int 0))) aNil)))) (mSeq (mAsg (mOp gMod (mCB gInt1 (aCons (mOp gAdd (mOp gMul (mIxO 0 (mC (.int 2))) (mC (.int 48271))) (mC (.int 11))) aNil)) (mC (.int 2147483647))) (gmItem 0 (mC (.int 2))))
    (mRet (mOp gMod (mCB gInt1 (aCons (mOp gDiv (mIxO 0 (mC (.int 2))) (mC (.int 7))) aNil)) (mVar 1)))) mNx)
    (mSeq (mAsg (mOp gIx (mIxO 0 (mC (.int 0))) (mOp gMinus (mIxO 0 (mC (.int 1))) (mC (.int 1)))) (gmName 3))
    (mSeq (mAsg (mOp gMod (mCB gInt1 (aCons (mOp gAdd (mOp gAdd (mOp gMul (mIxO 0 (mC (.int 2))) (mC (.int 48271))) (mVar 3)) (mC (.int 11))) aNil)) (mC (.int 2147483647))) (gmItem 0 (mC (.int 2))))
    (mSeq (mIfS (mTest (mOp gGe (mVar 3) (mOp gPow (mC (.int 10)) (mC (.int 18))))) (mAsg (mOp gDiv (mVar 3) (mVar 1)) (gmItem 0 (mC (.int 3)))) mNx)
    (mRet (mOp gMod (mCB gInt1 (aCons (mVar 3) aNil)) (mVar 1)))))))))
def f_law_taken : Fn := runF 2 4 b_law_taken
theorem taken {ns : List Int} {a b c m : Int} (h : RowOk a b c) (h1 : 0 < m) (h2 : m < 1073741824) : OK (f_law_taken [.o (some 0) (rowD ns a b c), .d (.int m)]) fun s ρ => ∃ k a' b' c', s = .d (.int k) ∧ 0 ≤ k ∧ k < m ∧ RowOk a' b' c' ∧ ∃ ρ', ρ = some (.o (some 0) (rowD ns a' b' c')) :: ρ' := by
  obtain ⟨ha, hb, hb2, hc⟩ := h
  have key : OK (b_law_taken [some (.o (some 0) (rowD ns a b c)), some (.d (.int m)), none, none]) fun f ρ => ∃ k a' b' c', f = .rt (.d (.int k)) ∧ 0 ≤ k ∧ k < m ∧ RowOk a' b' c' ∧ ∃ ρ', ρ = some (.o (some 0) (rowD ns a' b' c')) :: ρ' := by
    unfold b_law_taken
    by_cases c0 : 0 < c
    · walk_at "wt"
      refine ⟨c % m, a, b, c / m, rfl, Int.emod_nonneg _ (by omega), Int.emod_lt_of_pos _ h1, ⟨ha, hb, hb2, Int.ediv_nonneg hc (Int.le_of_lt h1)⟩, _, rfl⟩
    · have q1 : i64 48271 = true := rfl
      have q2 : (0 : Int) < 2147483647 := by decide
      have q3 : (0 : Int) < 7 := by decide
      have q4 : (7 : Int) < 1073741824 := by decide
      by_cases c1 : (ns.length : Int) < a + 1
      · walk_at "wt"
        have hm := Int.emod_nonneg ((b * 48271 + 11) % 2147483647 / 7) (show m ≠ 0 by omega)
        have hl := Int.emod_lt_of_pos ((b * 48271 + 11) % 2147483647 / 7) h1
        have hb3 := Int.emod_nonneg (b * 48271 + 11) (show (2147483647 : Int) ≠ 0 by decide)
        have hb4 := Int.emod_lt_of_pos (b * 48271 + 11) q2
        exact ⟨_, _, _, _, rfl, hm, hl, ⟨by omega, hb3, hb4, hc⟩, _, rfl⟩
      · have q5 : 0 ≤ a + 1 - 1 := by omega
        have q6 : a + 1 - 1 < (ns.length : Int) := by omega
        by_cases c2 : 1000000000000000000 ≤ (ns[(a + 1 - 1).toNat]?).getD 0
        · walk_at "wt"
          have hm := Int.emod_nonneg ((ns[(a + 1 - 1).toNat]?).getD 0) (show m ≠ 0 by omega)
          have hl := Int.emod_lt_of_pos ((ns[(a + 1 - 1).toNat]?).getD 0) h1
          have hb3 := Int.emod_nonneg (b * 48271 + (ns[(a + 1 - 1).toNat]?).getD 0 + 11) (show (2147483647 : Int) ≠ 0 by decide)
          have hb4 := Int.emod_lt_of_pos (b * 48271 + (ns[(a + 1 - 1).toNat]?).getD 0 + 11) q2
          exact ⟨_, _, _, _, rfl, hm, hl, ⟨by omega, hb3, hb4, Int.ediv_nonneg (by omega) (Int.le_of_lt h1)⟩, _, rfl⟩
        · walk_at "wt"
          have hm := Int.emod_nonneg ((ns[(a + 1 - 1).toNat]?).getD 0) (show m ≠ 0 by omega)
          have hl := Int.emod_lt_of_pos ((ns[(a + 1 - 1).toNat]?).getD 0) h1
          have hb3 := Int.emod_nonneg (b * 48271 + (ns[(a + 1 - 1).toNat]?).getD 0 + 11) (show (2147483647 : Int) ≠ 0 by decide)
          have hb4 := Int.emod_lt_of_pos (b * 48271 + (ns[(a + 1 - 1).toNat]?).getD 0 + 11) q2
          exact ⟨_, _, _, _, rfl, hm, hl, ⟨by omega, hb3, hb4, hc⟩, _, rfl⟩
  refine ok_runF rfl (key.imp fun f ρ h => ?_)
  obtain ⟨k, a', b', c', rfl, h⟩ := h
  exact .inl ⟨_, rfl, k, a', b', c', rfl, h⟩
end Lib
end Fx
/-! draws within a def, comprehensions that draw -/
namespace Fx
open PySem
def rowS (o : Option Nat) (ns : List Int) (a b c : Int) : Option S := some (.o o (rowD ns a b c))
theorem ok_callO {F : Fn} {i j : Nat} {fA : M (List D)} {ρ : En} {P : S → En → Prop} (h : OK (fA ρ) fun ds ρ1 => ∃ b x, ρ1[i]? = some (some (.o b x)) ∧ j ≤ ds.length ∧ OK (F ((ds.take j).map .d ++ .o (some j) x :: (ds.drop j).map .d)) fun s ρ' => ∃ y, ρ'[j]? = some (some (.o (some j) y)) ∧ bare s = true ∧ P s (ρ1.set i (some (.o b y)))) : OK (mCallO F i j fA ρ) P := by
  unfold mCallO
  rw [ok_then]
  refine h.imp fun ds ρ1 ⟨b, x, e, hj, k⟩ => ?_
  rw [e]
  dsimp only
  rw [if_pos hj]
  obtain ⟨s, ρ', e2, y, e3, hb, k⟩ := k.at
  rw [e2]
  dsimp only
  rw [e3]
  dsimp only
  rw [if_pos ⟨rfl, hb⟩, ok_ok]
  exact k
theorem ok_own {i : Nat} {fr : M (List D)} {ρ : En} {P : List D → En → Prop} : OK (aOwn i fr ρ) P ↔ isOwn ρ i = true ∧ OK (fr ρ) P := by
  unfold aOwn
  rw [ok_ite]
  exact ⟨fun h => by
    by_cases ho : isOwn ρ i = true
    · exact ⟨ho, h.1 ho⟩
    · exact (ok_stuck.mp (h.2 ho)).elim, fun h => ⟨fun _ => h.2, fun n => absurd h.1 n⟩⟩
section
variable {r k : Nat} {o : Option Nat} {ns : List Int} {ρ : En} {P : S → En → Prop} {fm fe : M S} {m : Int}
theorem own_row {a b c : Int} (e : ρ[r]? = some (rowS o ns a b c)) : isOwn ρ r = true := by
  unfold isOwn
  rw [e]
  rfl
/-- a draw of m ways -/
theorem ok_taken {a b c : Int} (e : ρ[r]? = some (rowS o ns a b c)) (hr : RowOk a b c) (hm : OK (dv fm ρ) fun x ρ1 => x = .int m ∧ ρ1 = ρ) (h1 : 0 < m) (h2 : m < 1073741824)
    (q : ∀ v a b c, 0 ≤ v → v < m → RowOk a b c → P (.d (.int v)) (ρ.set r (rowS o ns a b c))) : OK (mCallO Lib.f_law_taken r 0 (aOwn r (aCons fm aNil)) ρ) P := by
  refine ok_callO (ok_own.mpr ⟨own_row e, ?_⟩)
  rw [ok_cons]
  refine hm.imp fun x ρ1 ⟨e1, e2⟩ => ?_
  subst e1
  subst e2
  rw [ok_nil]
  refine ⟨o, rowD ns a b c, e, Nat.zero_le _, (Lib.taken hr h1 h2).imp fun s ρ' h => ?_⟩
  obtain ⟨v, a', b', c', rfl, v0, v1, hr', ρ2, rfl⟩ := h
  exact ⟨rowD ns a' b' c', rfl, rfl, q v a' b' c' v0 v1 hr'⟩
variable {items : List D} {PL : List D → En → Prop}
end
end Fx
/-! algebras: drawn, made, on data -/
namespace Fx
open PySem
theorem ok_psNil {ρ : En} {P : List S → En → Prop} : OK (psNil ρ) P ↔ P [] ρ := by
  rw [ok_eq]
  exact Iff.rfl
theorem ok_psCons {fa : M S} {fr : M (List S)} {ρ : En} {P : List S → En → Prop} : OK (psCons fa fr ρ) P ↔ OK (fa ρ) fun s ρ1 => OK (fr ρ1) fun ss ρ2 => P (s :: ss) ρ2 := by
  unfold psCons
  simp only [ok_then, ok_ok]
theorem ok_par3 {i j k : Nat} {oi oj ok : Bool} {fP : M (List S)} {ρ : En} {PF : Fl → En → Prop} (h : OK (fP ρ) fun ss ρ1 => ∃ s t u s' t' u', ss = [s, t, u] ∧ stS oi s = some s' ∧ stS oj t = some t' ∧ stS ok u = some u' ∧ PF .nx (((ρ1.set k (some u')).set j (some t')).set i (some s'))) : OK (mPar3 i oi j oj k ok fP ρ) PF := by
  unfold mPar3
  rw [ok_then]
  refine h.imp fun ss ρ1 ⟨s, t, u, s', t', u', e, e1, e2, e3, q⟩ => ?_
  subst e
  dsimp only
  rw [e1, e2, e3]
  exact ok_of q
theorem ok_par2 {i j : Nat} {oi oj : Bool} {fP : M (List S)} {ρ : En} {PF : Fl → En → Prop} (h : OK (fP ρ) fun ss ρ1 => ∃ s t s' t', ss = [s, t] ∧ stS oi s = some s' ∧ stS oj t = some t' ∧ PF .nx ((ρ1.set j (some t')).set i (some s'))) : OK (mPar2 i oi j oj fP ρ) PF := by
  unfold mPar2
  rw [ok_then]
  refine h.imp fun ss ρ1 ⟨s, t, s', t', e, e1, e2, q⟩ => ?_
  subst e
  dsimp only
  rw [e1, e2]
  exact ok_of q
theorem ok_range1 {fA : M (List D)} {ρ : En} {n : Int} {P : List D → En → Prop} (h : OK (fA ρ) fun ds ρ1 => ds = [.int n] ∧ -4611686018427387904 ≤ n ∧ n < 4611686018427387904 ∧ P (intsFrom 0 n.toNat) ρ1) : OK (iRange1 fA ρ) P := by
  unfold iRange1
  rw [ok_then]
  refine h.imp fun ds ρ1 ⟨e, h1, h2, q⟩ => ?_
  subst e
  dsimp only
  rw [if_pos (by unfold rOk; simp [h1, h2])]
  exact ok_of q
theorem ok_range1e {fA : M (List D)} {ρ : En} {P : List D → En → Prop} (h : OK (fA ρ) fun ds ρ1 => ∃ n, ds = [.int n] ∧ -4611686018427387904 ≤ n ∧ n < 4611686018427387904 ∧ P (intsFrom 0 n.toNat) ρ1) : OK (iRange1 fA ρ) P := by
  unfold iRange1
  rw [ok_then]
  refine h.imp fun ds ρ1 ⟨n, e, h1, h2, q⟩ => ?_
  subst e
  dsimp only
  rw [if_pos (by unfold rOk; simp [h1, h2])]
  exact ok_of q
theorem ok_seqI {F G : M Fl} {ρ : En} {PF : Fl → En → Prop} (I : En → Prop) (h : OK (F ρ) fun f ρ1 => f = .nx ∧ I ρ1) (k : ∀ ρ1, I ρ1 → OK (G ρ1) PF) : OK (mSeq F G ρ) PF := by
  rw [ok_seq]
  exact h.imp fun f ρ1 ⟨e, hi⟩ => ⟨fun _ => k ρ1 hi, fun n => absurd e n⟩
theorem ok_asgO {i : Nat} {fa : M S} {ρ : En} {PF : Fl → En → Prop} : OK (mAsgO i fa ρ) PF ↔ OK (fa ρ) fun s ρ1 => (∃ x, s = .o none x ∧ PF .nx (ρ1.set i (some (.o none x)))) ∨ ∃ x, s = .d x ∧ PF .nx (ρ1.set i (some (.d x))) := by
  unfold mAsgO
  rw [ok_then]
  refine ⟨fun h => h.imp fun s ρ1 h => ?_, fun h => h.imp fun s ρ1 h => ?_⟩
  · split at h
    · exact .inl ⟨_, rfl, ok_out h⟩
    · exact .inr ⟨_, rfl, ok_out h⟩
    · exact (ok_out h).elim
  · rcases h with ⟨x, rfl, h⟩ | ⟨x, rfl, h⟩
    · exact ok_of h
    · exact ok_of h
theorem ok_lst {fA : M (List D)} {ρ : En} {P : S → En → Prop} : OK (mLst fA ρ) P ↔ OK (fA ρ) fun ds ρ1 => small ds.length = true ∧ P (.o none (.lst ds)) ρ1 := by
  unfold mLst
  rw [ok_then]
  refine ⟨fun h => h.imp fun ds ρ1 h => ?_, fun h => h.imp fun ds ρ1 h => ?_⟩
  · by_cases hz : small ds.length = true
    · rw [if_pos hz] at h
      exact ⟨hz, ok_out h⟩
    · rw [if_neg hz] at h
      exact (ok_out h).elim
  · rw [if_pos h.1]
    exact ok_of h.2
theorem ok_app {i : Nat} {fe : M S} {ρ : En} {P : S → En → Prop} {o : Option Nat} {ds : List D} (e : ρ[i]? = some (some (.o o (.lst ds)))) (h : OK (dv fe ρ) fun y ρ1 => ρ1[i]? = some (some (.o o (.lst ds))) ∧ small (ds.length + 1) = true ∧ P (.d .non) (ρ1.set i (some (.o o (.lst (ds ++ [y])))))) : OK (mMeth1 i gApp fe ρ) P := by
  unfold mMeth1
  have ho : ownL ρ i = true := by
    unfold ownL
    rw [e]
  rw [if_pos ho, ok_then]
  refine h.imp fun y ρ1 ⟨e1, hz, q⟩ => ?_
  rw [e1]
  dsimp only
  have e2 : gApp ds y = some (.non, ds ++ [y]) := if_pos hz
  rw [e2]
  exact ok_of q
theorem intsFrom_at {n i : Nat} {x : D} (h : (intsFrom 0 n)[i]? = some x) : x = .int i ∧ i < n := by
  have hi := (List.getElem?_eq_some_iff.mp h).1
  rw [intsFrom_length] at hi
  rw [intsFrom_get n 0 i hi] at h
  cases h
  exact ⟨by simp, hi⟩
theorem ok_iseq {f : M S} {ρ : En} {P : List D → En → Prop} : OK (iSeq f ρ) P ↔ OK (dv f ρ) fun x ρ1 => ∃ ds, itemsD x = some ds ∧ P ds ρ1 := by
  unfold iSeq
  rw [ok_then]
  refine ⟨fun h => h.imp fun x ρ1 h => ?_, fun h => h.imp fun x ρ1 h => ?_⟩
  · cases e : itemsD x with
    | none => rw [e] at h; exact (ok_out h).elim
    | some ds => rw [e] at h; exact ⟨ds, rfl, ok_out h⟩
  · obtain ⟨ds, e, h⟩ := h
    rw [e]
    exact ok_of h
theorem ok_sl {fe : M S} {fl fh : M (Option Int)} {ρ : En} {P : S → En → Prop} (h : OK (dv fe ρ) fun x ρ1 => OK (fl ρ1) fun lo ρ2 => OK (fh ρ2) fun hi ρ3 => ∃ s, gSl x lo hi = some s ∧ P s ρ3) : OK (mSl fe fl fh ρ) P := by
  unfold mSl
  simp only [ok_then]
  refine h.imp fun x ρ1 h => h.imp fun lo ρ2 h => h.imp fun hi ρ3 ⟨s, e, h⟩ => ?_
  rw [e]
  exact ok_of h
theorem ok_onone {ρ : En} {P : Option Int → En → Prop} : OK (oNone ρ) P ↔ P none ρ := by
  rw [ok_eq]
  exact Iff.rfl
theorem ok_osome {f : M S} {ρ : En} {P : Option Int → En → Prop} (h : OK (dv f ρ) fun x ρ1 => ∃ i, x = .int i ∧ P (some i) ρ1) : OK (oSome f ρ) P := by
  unfold oSome
  rw [ok_then]
  refine h.imp fun x ρ1 ⟨i, e, h⟩ => ?_
  subst e
  exact ok_of h
theorem cutD_to {xs : List D} {k : Int} (h : 0 ≤ k) : cutD xs none (some k) = xs.take k.toNat := by
  unfold cutD
  have e : HT.sIx xs.length xs.length (some k) = min k.toNat xs.length := by
    show (if k < 0 then _ else min k.toNat xs.length) = _
    rw [if_neg (by omega)]
  rw [e]
  show (xs.drop 0).take (min k.toNat xs.length - 0) = _
  rw [List.drop_zero, Nat.sub_zero]
  by_cases hk : k.toNat ≤ xs.length
  · rw [Nat.min_eq_left hk]
  · rw [Nat.min_eq_right (by omega), List.take_length, List.take_of_length_le (by omega)]
local macro_rules | `(tactic| walk_at "wp") => `(tactic| simp only [okF_runF, okF_runL, ok_seq, ok_ret, ok_retN, ok_andV, ok_orV, ok_notV, ok_cb, ok_cons, ok_nil, ok_test, ok_dv, ok_op, ok_un, ok_c, ok_if, ok_ifS, ok_and, ok_or, ok_not, ok_asg, ok_gname, ok_drop, ok_call, ok_chain, ok_nx, ok_bk, ok_ct, ok_st, ok_yes, ok_tup, ok_ok, ok_stuck, ex_toD, ex_toL, ex_bl, ex_some, ex_bl1, fl_nx, fl_rt, fl_bk, fl_ct, rt_or, nx_or, mVar, ok1, gIsi, mIsi2, gIsi2, isTy2, isTy, Option.bind, bare, e_add, e_sub, e_int, e_lenS, e_lenT, e_lenL, e_lt, e_le, e_gt, e_ge, e_leC, e_ltC, e_isN, e_notN, e_pow,
  List.map_cons, List.map_nil, List.length_cons, List.length_nil, List.replicate_succ, List.replicate_zero, List.cons_append, List.nil_append, List.append_nil, List.getElem?_cons_zero, List.getElem?_cons_succ, List.set_cons_zero, List.set_cons_succ, Nat.reduceAdd, Nat.reduceSub, true_and, and_true, Bool.not_true, Bool.not_false, true_implies, forall_const, not_true_eq_false, false_implies, Bool.false_eq_true, not_false_eq_true, implies_true, eq_self, ne_eq, reduceCtorEq, Fl.rt.injEq, S.d.injEq, D.int.injEq, false_and, exists_false, or_false, false_or, exists_eq_left'])
local macro_rules | `(tactic| walk_at "wt") => `(tactic| simp (config := { contextual := false }) only [ok_row0, ok_row1, ok_row2, ok_row3, ok_put1, ok_put2, ok_put3, e_mod, e_div, e_mul, e_ixS, decide_true, decide_false, *, okF_runF, okF_runL, ok_seq, ok_ret, ok_retN, ok_andV, ok_orV, ok_notV, ok_cb, ok_cons, ok_nil, ok_test, ok_dv, ok_op, ok_un, ok_c, ok_if, ok_ifS, ok_and, ok_or, ok_not, ok_asg, ok_gname, ok_drop, ok_call, ok_chain, ok_nx, ok_bk, ok_ct, ok_st, ok_yes, ok_tup, ok_ok, ok_stuck, ex_toD, ex_toL, ex_bl, ex_some, ex_bl1, fl_nx, fl_rt, fl_bk, fl_ct, rt_or, nx_or, mVar, ok1, gIsi, mIsi2, gIsi2, isTy2, isTy, Option.bind, bare, e_add, e_sub, e_int, e_lenS, e_lenT, e_lenL, e_lt, e_le, e_gt, e_ge, e_leC, e_ltC, e_isN, e_notN, e_pow,
  List.map_cons, List.map_nil, List.length_cons, List.length_nil, List.replicate_succ, List.replicate_zero, List.cons_append, List.nil_append, List.append_nil, List.getElem?_cons_zero, List.getElem?_cons_succ, List.set_cons_zero, List.set_cons_succ, Nat.reduceAdd, Nat.reduceSub, true_and, and_true, Bool.not_true, Bool.not_false, true_implies, forall_const, not_true_eq_false, false_implies, Bool.false_eq_true, not_false_eq_true, implies_true, eq_self, ne_eq, reduceCtorEq, Fl.rt.injEq, S.d.injEq, D.int.injEq, false_and, exists_false, or_false, false_or, exists_eq_left'])
local macro_rules | `(tactic| walk_at "wy") => `(tactic| try walk_at "wp")
local macro_rules | `(tactic| walk_at "we") => `(tactic| first | done | rfl | exact ⟨rfl, rfl⟩ | exact ⟨rfl, rfl, rfl⟩)
namespace Lib
def b_is_table : M Fl := (mSeq (mIfS (mNot (mTest (mCall f_is_tuple (aCons (mVar 0) (aCons (mVar 1) (aCons (mVar 1) aNil)))))) (mRet (mC (.bl false))) mNx)
    (mRet (mCB gAll (aCons (mLc (iSeq (mVar 0)) (gmName 2) mYes (mOrV (mOp gIsN (mVar 2) (mC .non)) (mCall f_is_number (aCons (mVar 2) (aCons (mC (.int 0)) (aCons (mOp gMinus (mVar 1) (mC (.int 1))) aNil))))) [2]) aNil))))
def f_is_table : Fn := runF 2 3 b_is_table
def b_levels_after : M Fl := (mSeq (mAsg (mOp gIx (mFldE "Algebra" 1 (mVar 0)) (mVar 1)) (gmName 2))
    (mRet (mLc (iSeq (mVar 2)) (gmName 3) mYes (mIf (mTest (mOp gIsN (mVar 3) (mC .non))) (mC (.int 4096)) (mOp gIx (mFldE "Algebra" 0 (mVar 0)) (mVar 3))) [3])))
def f_levels_after : Fn := runF 2 4 b_levels_after
def b_Algebra_init : M Fl := (mSeq (mIfS (mOr (mNot (mTest (mCall f_is_tuple (aCons (mVar 1) (aCons (mC (.int 1)) (aCons (mC (.int 64)) aNil)))))) (mNot (mTest (mCall f_are_numbers (aCons (mVar 1) (aCons (mC (.int 0)) (aCons (mC (.int 4095)) aNil))))))) mSt mNx)
    (mSeq (mIfS (mNot (mTest (mCall f_is_tuple (aCons (mVar 2) (aCons (mC (.int 1)) (aCons (mC (.int 64)) aNil)))))) mSt mNx)
    (mSeq (mFor (iEnu (aCons (mVar 2) aNil)) (gmTup 2 (gmCons (gmName 3) (gmCons (gmName 4) gmNil))) (mIfS (mNot (mTest (mCall f_is_table (aCons (mVar 4) (aCons (mCB gLen (aCons (mVar 1) aNil)) aNil))))) mSt mNx))
    (mSeq (mSetF "Algebra" 0 0 (mVar 1))
    (mSetF "Algebra" 1 0 (mVar 2))))))
def f_Algebra_init : Fn := runF 3 5 b_Algebra_init
def tabD (t : List (Option Int)) : D := .tup (t.map oD)
/-- an algebra as it is drawn -/
structure OkAlg (most many : Int) (ls : List Int) (ts : List (List (Option Int))) : Prop where
  l1 : 1 ≤ ls.length
  l2 : (ls.length : Int) ≤ most
  lv : ∀ l ∈ ls, 0 ≤ l ∧ l ≤ most
  t1 : 1 ≤ ts.length
  t2 : (ts.length : Int) ≤ many
  tb : ∀ t ∈ ts, t.length = ls.length ∧ ∀ i, some i ∈ t → 0 ≤ i ∧ i < (ls.length : Int)
end Lib
end Fx
/-! a value is alike itself -/
namespace Fx
open PySem
theorem eqD_self {x : D} (h : pl60 x = true) : eqD x x = true := SeqAt.eqv_refl_plain _ (pl60_shaped h).1
theorem gEq_self {x : D} (h : pl60 x = true) : gEq x x = some (.d (.bl true)) := by
  unfold gEq
  rw [h, eqD_self h]
  rfl
theorem gNe_self {x : D} (h : pl60 x = true) : gNe x x = some (.d (.bl false)) := by
  unfold gNe
  rw [h, eqD_self h]
  rfl
/-- data at most n deep, of bounded width -/
def fit : Nat → D → Bool
  | 0, .non => true
  | 0, .bl _ => true
  | 0, .int _ => true
  | 0, .str _ => true
  | 0, _ => false
  | _ + 1, .non => true
  | _ + 1, .bl _ => true
  | _ + 1, .int _ => true
  | _ + 1, .str _ => true
  | n + 1, .tup ds => decide (ds.length ≤ 1000000) && ds.all (fit n)
  | n + 1, .lst ds => decide (ds.length ≤ 1000000) && ds.all (fit n)
  | _ + 1, _ => false
local macro_rules | `(tactic| walk_at "wp") => `(tactic| simp only [okF_runF, okF_runL, ok_seq, ok_ret, ok_retN, ok_andV, ok_orV, ok_notV, ok_cb, ok_cons, ok_nil, ok_test, ok_dv, ok_op, ok_un, ok_c, ok_if, ok_ifS, ok_and, ok_or, ok_not, ok_asg, ok_gname, ok_drop, ok_call, ok_chain, ok_nx, ok_bk, ok_ct, ok_st, ok_yes, ok_tup, ok_ok, ok_stuck, ex_toD, ex_toL, ex_bl, ex_some, ex_bl1, fl_nx, fl_rt, fl_bk, fl_ct, rt_or, nx_or, mVar, ok1, gIsi, mIsi2, gIsi2, isTy2, isTy, Option.bind, bare, e_add, e_sub, e_int, e_lenS, e_lenT, e_lenL, e_lt, e_le, e_gt, e_ge, e_leC, e_ltC, e_isN, e_notN, e_pow,
  List.map_cons, List.map_nil, List.length_cons, List.length_nil, List.replicate_succ, List.replicate_zero, List.cons_append, List.nil_append, List.append_nil, List.getElem?_cons_zero, List.getElem?_cons_succ, List.set_cons_zero, List.set_cons_succ, Nat.reduceAdd, Nat.reduceSub, true_and, and_true, Bool.not_true, Bool.not_false, true_implies, forall_const, not_true_eq_false, false_implies, Bool.false_eq_true, not_false_eq_true, implies_true, eq_self, ne_eq, reduceCtorEq, Fl.rt.injEq, S.d.injEq, D.int.injEq, false_and, exists_false, or_false, false_or, exists_eq_left'])
local macro_rules | `(tactic| walk_at "wt") => `(tactic| simp (config := { contextual := false }) only [ok_row0, ok_row1, ok_row2, ok_row3, ok_put1, ok_put2, ok_put3, e_mod, e_div, e_mul, e_ixS, decide_true, decide_false, *, okF_runF, okF_runL, ok_seq, ok_ret, ok_retN, ok_andV, ok_orV, ok_notV, ok_cb, ok_cons, ok_nil, ok_test, ok_dv, ok_op, ok_un, ok_c, ok_if, ok_ifS, ok_and, ok_or, ok_not, ok_asg, ok_gname, ok_drop, ok_call, ok_chain, ok_nx, ok_bk, ok_ct, ok_st, ok_yes, ok_tup, ok_ok, ok_stuck, ex_toD, ex_toL, ex_bl, ex_some, ex_bl1, fl_nx, fl_rt, fl_bk, fl_ct, rt_or, nx_or, mVar, ok1, gIsi, mIsi2, gIsi2, isTy2, isTy, Option.bind, bare, e_add, e_sub, e_int, e_lenS, e_lenT, e_lenL, e_lt, e_le, e_gt, e_ge, e_leC, e_ltC, e_isN, e_notN, e_pow,
  List.map_cons, List.map_nil, List.length_cons, List.length_nil, List.replicate_succ, List.replicate_zero, List.cons_append, List.nil_append, List.append_nil, List.getElem?_cons_zero, List.getElem?_cons_succ, List.set_cons_zero, List.set_cons_succ, Nat.reduceAdd, Nat.reduceSub, true_and, and_true, Bool.not_true, Bool.not_false, true_implies, forall_const, not_true_eq_false, false_implies, Bool.false_eq_true, not_false_eq_true, implies_true, eq_self, ne_eq, reduceCtorEq, Fl.rt.injEq, S.d.injEq, D.int.injEq, false_and, exists_false, or_false, false_or, exists_eq_left'])
local macro_rules | `(tactic| walk_at "wy") => `(tactic| try walk_at "wp")
local macro_rules | `(tactic| walk_at "we") => `(tactic| first | done | rfl | exact ⟨rfl, rfl⟩ | exact ⟨rfl, rfl, rfl⟩)
namespace Lib
def b_law_alike (r : Fn) : M Fl := (mSeq (mIfS (mTest (mIsi2 "tuple" "list" (mVar 1))) (mSeq (mIfS (mOr (mNot (mTest (mIsi2 "tuple" "list" (mVar 0)))) (mTest (mOp gNe (mCB gIsi (aCons (mVar 0) (aCons (mC (.ty "list")) aNil))) (mCB gIsi (aCons (mVar 1) (aCons (mC (.ty "list")) aNil)))))) (mRet (mC (.bl false))) mNx)
    (mSeq (mIfS (mTest (mOp gNe (mCB gLen (aCons (mVar 0) aNil)) (mCB gLen (aCons (mVar 1) aNil)))) (mRet (mC (.bl false))) mNx)
    (mRet (mOp gEq (mLc (iRange1 (aCons (mCB gLen (aCons (mVar 1) aNil)) aNil)) (gmName 2) (mNot (mTest (mCall r (aCons (mOp gIx (mVar 0) (mVar 2)) (aCons (mOp gIx (mVar 1) (mVar 2)) aNil))))) (mVar 2) [2]) (mLst aNil))))) mNx)
    (mSeq (mIfS (mOr (mTest (mOp gIsN (mVar 1) (mC .non))) (mTest (mCB gIsi (aCons (mVar 1) (aCons (mC (.ty "str")) aNil))))) (mRet (mAndV (mOp gEq (mVar 0) (mVar 1)) (mOp gEq (mCB gIsi (aCons (mVar 0) (aCons (mC (.ty "str")) aNil))) (mCB gIsi (aCons (mVar 1) (aCons (mC (.ty "str")) aNil)))))) mNx)
    (mRet (mAndV (mCB gIsi (aCons (mVar 0) (aCons (mC (.ty "int")) aNil))) (mAndV (mOp gEq (mCB gIsi (aCons (mVar 0) (aCons (mC (.ty "bool")) aNil))) (mCB gIsi (aCons (mVar 1) (aCons (mC (.ty "bool")) aNil)))) (mOp gEq (mVar 0) (mVar 1)))))))
def f_law_alike : Nat → Fn
  | 0 => runF 2 3 mSt
  | n + 1 => runF 2 3 (b_law_alike (f_law_alike n))
theorem e_eqT {b : Bool} {K : S → Prop} : (∃ s, gEq (.bl b) (.bl b) = some s ∧ K s) ↔ K (.d (.bl true)) := by
  rw [gEq_self rfl]
  exact ex_some
theorem e_neF {b : Bool} {K : S → Prop} : (∃ s, gNe (.bl b) (.bl b) = some s ∧ K s) ↔ K (.d (.bl false)) := by
  rw [gNe_self rfl]
  exact ex_some
theorem e_neI {i : Int} {K : S → Prop} : (∃ s, gNe (.int i) (.int i) = some s ∧ K s) ↔ K (.d (.bl false)) := by
  rw [gNe_self rfl]
  exact ex_some
theorem e_eqI {i : Int} {K : S → Prop} : (∃ s, gEq (.int i) (.int i) = some s ∧ K s) ↔ K (.d (.bl true)) := by
  rw [gEq_self rfl]
  exact ex_some
theorem e_eqN {K : S → Prop} : (∃ s, gEq .non .non = some s ∧ K s) ↔ K (.d (.bl true)) := by
  rw [gEq_self rfl]
  exact ex_some
theorem e_eqS {z : Str} {K : S → Prop} : (∃ s, gEq (.str z) (.str z) = some s ∧ K s) ↔ K (.d (.bl true)) := by
  rw [gEq_self rfl]
  exact ex_some
local macro_rules | `(tactic| walk_at "wz") => `(tactic| repeat (first | walk_at "wp" | simp only [isN, e_eqN, e_eqT, e_eqI, e_eqS, e_neF, e_neI]))
theorem alike_leaf {r : Fn} {x : D} (hx : fit 0 x = true) {K : S → Prop} (q : K (.d (.bl true))) : OKF (runF 2 3 (b_law_alike r) [.d x, .d x]) K := by
  unfold b_law_alike
  cases x <;> first | cases hx | skip
  · walk_at "wz"
    exact q
  · walk_at "wz"
    exact q
  · walk_at "wz"
    exact q
  · walk_at "wz"
    exact q
theorem alike_self : ∀ (n : Nat) (x : D), fit n x = true → ∀ {K : S → Prop}, K (.d (.bl true)) → OKF (f_law_alike (n + 1) [.d x, .d x]) K := by
  intro n
  induction n with
  | zero => exact fun x h K q => alike_leaf h q
  | succ n ih =>
    intro x h K q
    show OKF (runF 2 3 (b_law_alike (f_law_alike (n + 1))) [.d x, .d x]) K
    cases x with
    | non => exact alike_leaf rfl q
    | bl b => exact alike_leaf rfl q
    | int i => exact alike_leaf rfl q
    | str z => exact alike_leaf rfl q
    | tup ds =>
      have h : (decide (ds.length ≤ 1000000) && ds.all (fit n)) = true := h
      rw [Bool.and_eq_true, decide_eq_true_eq, List.all_eq_true] at h
      obtain ⟨hl, ha⟩ := h
      unfold b_law_alike
      walk_at "wz"
      rw [ok_lc]
      refine ok_range1 (n := ds.length) ?_
      walk_at "wp"
      refine ⟨by omega, by omega, ?_⟩
      simp only [wipeE]
      walk_at "wp"
      refine ok_comp (I := fun i acc ρ => acc = [] ∧ ρ = [some (.d (.tup ds)), some (.d (.tup ds)), none]) (k := 0) ⟨rfl, rfl⟩ ?_ ?_
      · rintro i y acc ρ hy ⟨rfl, rfl⟩
        obtain ⟨rfl, hi⟩ := intsFrom_at hy
        rw [Int.toNat_natCast] at hi
        have ei : ds[i]? = some ds[i] := List.getElem?_eq_getElem hi
        repeat (first | walk_at "wp" | simp only [e_ixT (ds := ds) (i := (i : Nat)) (by omega) (by omega), Int.toNat_natCast, ei, Option.getD_some])
        refine ih _ (ha _ (List.getElem_mem hi)) ?_
        walk_at "wp"
        rfl
      · rintro acc ρ ⟨rfl, rfl⟩
        rw [ok_lst]
        walk_at "wp"
        exact ⟨rfl, _, gEq_self rfl, q⟩
    | lst ds =>
      have h : (decide (ds.length ≤ 1000000) && ds.all (fit n)) = true := h
      rw [Bool.and_eq_true, decide_eq_true_eq, List.all_eq_true] at h
      obtain ⟨hl, ha⟩ := h
      unfold b_law_alike
      walk_at "wz"
      rw [ok_lc]
      refine ok_range1 (n := ds.length) ?_
      walk_at "wp"
      refine ⟨by omega, by omega, ?_⟩
      simp only [wipeE]
      walk_at "wp"
      refine ok_comp (I := fun i acc ρ => acc = [] ∧ ρ = [some (.d (.lst ds)), some (.d (.lst ds)), none]) (k := 0) ⟨rfl, rfl⟩ ?_ ?_
      · rintro i y acc ρ hy ⟨rfl, rfl⟩
        obtain ⟨rfl, hi⟩ := intsFrom_at hy
        rw [Int.toNat_natCast] at hi
        have ei : ds[i]? = some ds[i] := List.getElem?_eq_getElem hi
        repeat (first | walk_at "wp" | simp only [e_ixL (ds := ds) (i := (i : Nat)) (by omega) (by omega), Int.toNat_natCast, ei, Option.getD_some])
        refine ih _ (ha _ (List.getElem_mem hi)) ?_
        walk_at "wp"
        rfl
      · rintro acc ρ ⟨rfl, rfl⟩
        rw [ok_lst]
        walk_at "wp"
        exact ⟨rfl, _, gEq_self rfl, q⟩
    | _ => cases h
end Lib
end Fx
/-! algebras on data: made, checked, followed -/
namespace Fx
open PySem
theorem ok_make {n : String} {nf : Nat} {F : Fn} {fA : M (List D)} {ρ : En} {P : S → En → Prop} (h : OK (fA ρ) fun ds ρ1 => OK (F (S.o (some 0) (D.ins n []) :: ds.map S.d)) fun s ρ' => s = .d .non ∧ ∃ fs, ρ'[0]? = some (some (.o (some 0) (.ins n fs))) ∧ fs.length = nf ∧ P (.d (.ins n fs)) ρ1) : OK (mMake n nf F fA ρ) P := by
  unfold mMake
  rw [ok_then]
  refine h.imp fun ds ρ1 h => ?_
  obtain ⟨s, ρ', e, rfl, fs, e2, hl, k⟩ := h.at
  rw [e]
  dsimp only
  rw [e2]
  dsimp only
  rw [if_pos ⟨rfl, rfl, hl⟩]
  exact ok_of k
theorem ok_setF {n : String} {i k : Nat} {fe : M S} {ρ : En} {PF : Fl → En → Prop} (h : OK (dv fe ρ) fun x ρ1 => ∃ b ds, ρ1[k]? = some (some (.o b (.ins n ds))) ∧ ds.length = i ∧ PF .nx (ρ1.set k (some (.o b (.ins n (ds ++ [x])))))) : OK (mSetF n i k fe ρ) PF := by
  unfold mSetF
  rw [ok_then]
  refine h.imp fun x ρ1 ⟨b, ds, e, hl, q⟩ => ?_
  rw [e]
  dsimp only
  rw [if_pos ⟨rfl, hl⟩]
  exact ok_of q
theorem ok_ienu {fA : M (List D)} {ρ : En} {P : List D → En → Prop} (h : OK (fA ρ) fun ds ρ1 => ∃ x es, ds = [x] ∧ itemsD x = some es ∧ P (enumD 0 es) ρ1) : OK (iEnu fA ρ) P := by
  unfold iEnu
  rw [ok_then]
  refine h.imp fun ds ρ1 ⟨x, es, e, e2, q⟩ => ?_
  subst e
  dsimp only
  rw [e2]
  exact ok_of q
theorem enumD_at {ds : List D} {i : Nat} {x : D} (h : (enumD 0 ds)[i]? = some x) : ∃ d, ds[i]? = some d ∧ x = .tup [.int (i : Nat), d] := by
  have hi := (List.getElem?_eq_some_iff.mp h).1
  rw [enumD_length] at hi
  have e := List.getElem?_eq_getElem hi
  rw [enumD_get ds 0 i _ e] at h
  cases h
  exact ⟨_, e, by rw [Nat.zero_add]⟩
theorem ok_gtup2 {i j : Nat} {x y : D} {ρ : En} {P : Unit → En → Prop} (h : P () ((ρ.set i (some (.d x))).set j (some (.d y)))) : OK (gmTup 2 (gmCons (gmName i) (gmCons (gmName j) gmNil)) (.tup [x, y]) ρ) P := ok_of h
theorem ok_fld {n : String} {i : Nat} {fe : M S} {ρ : En} {P : S → En → Prop} (h : OK (dv fe ρ) fun x ρ1 => ∃ ds y, x = .ins n ds ∧ ds[i]? = some y ∧ P (.d y) ρ1) : OK (mFldE n i fe ρ) P := by
  unfold mFldE
  rw [ok_un]
  refine h.imp fun x ρ1 ⟨ds, y, e, e2, q⟩ => ⟨.d y, ?_, q⟩
  subst e
  show (if n = n then (ds[i]?).bind ok1 else none) = _
  rw [if_pos rfl, e2]
  rfl
theorem ok_truth {fe : M S} {ρ : En} {PB : Bool → En → Prop} (h : OK (dv fe ρ) fun x ρ1 => ∃ b, truD x = some b ∧ PB b ρ1) : OK (mTruth fe ρ) PB := by
  unfold mTruth
  rw [ok_then]
  refine h.imp fun x ρ1 ⟨b, e, q⟩ => ?_
  rw [e]
  exact ok_of q
local macro_rules | `(tactic| walk_at "wp") => `(tactic| simp only [okF_runF, okF_runL, ok_seq, ok_ret, ok_retN, ok_andV, ok_orV, ok_notV, ok_cb, ok_cons, ok_nil, ok_test, ok_dv, ok_op, ok_un, ok_c, ok_if, ok_ifS, ok_and, ok_or, ok_not, ok_asg, ok_gname, ok_drop, ok_call, ok_chain, ok_nx, ok_bk, ok_ct, ok_st, ok_yes, ok_tup, ok_ok, ok_stuck, ex_toD, ex_toL, ex_bl, ex_some, ex_bl1, fl_nx, fl_rt, fl_bk, fl_ct, rt_or, nx_or, mVar, ok1, gIsi, mIsi2, gIsi2, isTy2, isTy, Option.bind, bare, e_add, e_sub, e_int, e_lenS, e_lenT, e_lenL, e_lt, e_le, e_gt, e_ge, e_leC, e_ltC, e_isN, e_notN, e_pow,
  List.map_cons, List.map_nil, List.length_cons, List.length_nil, List.replicate_succ, List.replicate_zero, List.cons_append, List.nil_append, List.append_nil, List.getElem?_cons_zero, List.getElem?_cons_succ, List.set_cons_zero, List.set_cons_succ, Nat.reduceAdd, Nat.reduceSub, true_and, and_true, Bool.not_true, Bool.not_false, true_implies, forall_const, not_true_eq_false, false_implies, Bool.false_eq_true, not_false_eq_true, implies_true, eq_self, ne_eq, reduceCtorEq, Fl.rt.injEq, S.d.injEq, D.int.injEq, false_and, exists_false, or_false, false_or, exists_eq_left'])
local macro_rules | `(tactic| walk_at "wt") => `(tactic| simp (config := { contextual := false }) only [ok_row0, ok_row1, ok_row2, ok_row3, ok_put1, ok_put2, ok_put3, e_mod, e_div, e_mul, e_ixS, decide_true, decide_false, *, okF_runF, okF_runL, ok_seq, ok_ret, ok_retN, ok_andV, ok_orV, ok_notV, ok_cb, ok_cons, ok_nil, ok_test, ok_dv, ok_op, ok_un, ok_c, ok_if, ok_ifS, ok_and, ok_or, ok_not, ok_asg, ok_gname, ok_drop, ok_call, ok_chain, ok_nx, ok_bk, ok_ct, ok_st, ok_yes, ok_tup, ok_ok, ok_stuck, ex_toD, ex_toL, ex_bl, ex_some, ex_bl1, fl_nx, fl_rt, fl_bk, fl_ct, rt_or, nx_or, mVar, ok1, gIsi, mIsi2, gIsi2, isTy2, isTy, Option.bind, bare, e_add, e_sub, e_int, e_lenS, e_lenT, e_lenL, e_lt, e_le, e_gt, e_ge, e_leC, e_ltC, e_isN, e_notN, e_pow,
  List.map_cons, List.map_nil, List.length_cons, List.length_nil, List.replicate_succ, List.replicate_zero, List.cons_append, List.nil_append, List.append_nil, List.getElem?_cons_zero, List.getElem?_cons_succ, List.set_cons_zero, List.set_cons_succ, Nat.reduceAdd, Nat.reduceSub, true_and, and_true, Bool.not_true, Bool.not_false, true_implies, forall_const, not_true_eq_false, false_implies, Bool.false_eq_true, not_false_eq_true, implies_true, eq_self, ne_eq, reduceCtorEq, Fl.rt.injEq, S.d.injEq, D.int.injEq, false_and, exists_false, or_false, false_or, exists_eq_left'])
local macro_rules | `(tactic| walk_at "wy") => `(tactic| try walk_at "wp")
local macro_rules | `(tactic| walk_at "we") => `(tactic| first | done | rfl | exact ⟨rfl, rfl⟩ | exact ⟨rfl, rfl, rfl⟩)
namespace Lib
def algD (ls : List Int) (ts : List (List (Option Int))) : D := .ins "Algebra" [.tup (ls.map D.int), .tup (ts.map tabD)]
theorem nums1 {ls : List Int} {lo hi : Int} {K : S → Prop} (hl : ls.length ≤ 16777216) (hv : ∀ l ∈ ls, lo ≤ l ∧ l ≤ hi) (h : K (.d (.bl true))) : OKF (f_are_numbers [.d (.tup (ls.map D.int)), .d (.int lo), .d (.int hi)]) K := by
  have e : ls.map D.int = (ls.map some).map oD := by
    rw [List.map_map]
    rfl
  rw [e]
  refine nums (by rw [List.length_map]; exact hl) ?_
  have e2 : (ls.map some).all (numB lo hi) = true := by
    rw [List.all_eq_true]
    intro o ho
    obtain ⟨l, hm, rfl⟩ := List.mem_map.mp ho
    have := hv l hm
    simp [numB, this.1, this.2]
  rw [e2]
  exact h
theorem table {t : List (Option Int)} {n : Int} {K : S → Prop} (hl : (t.length : Int) = n) (hn : n ≤ 1000) (ht : ∀ i, some i ∈ t → 0 ≤ i ∧ i < n) (h : K (.d (.bl true))) : OKF (f_is_table [.d (tabD t), .d (.int n)]) K := by
  unfold f_is_table b_is_table tabD
  walk_at "wp"
  rw [tup, List.length_map, hl]
  walk_at "wp"
  have e : (decide (n ≤ n)) = true := decide_eq_true (Int.le_refl n)
  simp only [e, Bool.and_true]
  walk_at "wp"
  simp only [ok_lc, ok_iseq]
  walk_at "wp"
  simp only [itemsD, ex_some, wipeE]
  walk_at "wp"
  refine ok_map (f := fun _ => .bl true) rfl ?_ (by rw [List.length_map]; omega) ?_
  · intro y hy
    obtain ⟨o, ho, rfl⟩ := List.mem_map.mp hy
    walk_at "wp"
    cases o with
    | none => exact fun n => absurd rfl n
    | some i =>
      intro _
      rw [num]
      have := ht i ho
      have e : numB 0 (n - 1) (some i) = true := by
        show (decide (0 ≤ i) && decide (i ≤ n - 1)) = true
        rw [decide_eq_true this.1, decide_eq_true (show i ≤ n - 1 by omega)]
        rfl
      rw [e]
      exact ⟨rfl, _, rfl, rfl⟩
  · refine ⟨.d (.bl true), ?_, h⟩
    show (blsD _).bind _ = _
    rw [blsD_map (g := fun _ => true), Option.bind_some]
    show ok1 (.bl ((List.map (fun _ => true) (t.map oD)).all id)) = _
    rw [List.all_map]
    simp [ok1]
theorem made {most many : Int} {ls : List Int} {ts : List (List (Option Int))} (o : OkAlg most many ls ts) (h1 : most ≤ 64) (h2 : many ≤ 64) :
    OK (f_Algebra_init [.o (some 0) (.ins "Algebra" []), .d (.tup (ls.map D.int)), .d (.tup (ts.map tabD))]) fun s ρ => s = .d .non ∧ ρ[0]? = some (some (.o (some 0) (algD ls ts))) := by
  obtain ⟨l1, l2, lv, t1, t2, tb⟩ := o
  unfold f_Algebra_init
  refine ok_runF rfl ?_
  show OK (b_Algebra_init [some (.o (some 0) (.ins "Algebra" [])), some (.d (.tup (ls.map D.int))), some (.d (.tup (ts.map tabD))), none, none]) _
  unfold b_Algebra_init
  refine ok_seqI (fun ρ => ρ = [some (.o (some 0) (.ins "Algebra" [])), some (.d (.tup (ls.map D.int))), some (.d (.tup (ts.map tabD))), none, none]) ?_ ?_
  · walk_at "wp"
    rw [tup, List.length_map, decide_eq_true (show (1 : Int) ≤ ls.length by omega), decide_eq_true (show (ls.length : Int) ≤ 64 by omega)]
    walk_at "wp"
    refine ⟨fun n => (by cases n), fun _ => nums1 (ls := ls) (lo := 0) (hi := 4095) (by omega) (fun l hl => by have := lv l hl; omega) ?_⟩
    walk_at "wp"
  rintro _ rfl
  refine ok_seqI (fun ρ => ρ = [some (.o (some 0) (.ins "Algebra" [])), some (.d (.tup (ls.map D.int))), some (.d (.tup (ts.map tabD))), none, none]) ?_ ?_
  · walk_at "wp"
    rw [tup, List.length_map, decide_eq_true (show (1 : Int) ≤ ts.length by omega), decide_eq_true (show (ts.length : Int) ≤ 64 by omega)]
    walk_at "wp"
    exact fun n => (by cases n)
  rintro _ rfl
  refine ok_seqI (fun ρ => ∃ x3 x4, ρ = [some (.o (some 0) (.ins "Algebra" [])), some (.d (.tup (ls.map D.int))), some (.d (.tup (ts.map tabD))), x3, x4]) ?_ ?_
  · rw [ok_for]
    refine ok_ienu ?_
    walk_at "wp"
    refine ⟨_, _, rfl, rfl, ?_⟩
    refine ok_loop (k := 0) (I := fun i ρ => ∃ x3 x4, ρ = [some (.o (some 0) (.ins "Algebra" [])), some (.d (.tup (ls.map D.int))), some (.d (.tup (ts.map tabD))), x3, x4]) ⟨_, _, rfl⟩ ?_ ?_
    · rintro i x ρ hx ⟨x3, x4, rfl⟩
      obtain ⟨d, hd, rfl⟩ := enumD_at hx
      rw [List.getElem?_map] at hd
      obtain ⟨t, ht, rfl⟩ := Option.map_eq_some_iff.mp hd
      refine ok_gtup2 ?_
      walk_at "wp"
      rw [List.length_map]
      have hm := tb t (List.mem_of_getElem? ht)
      refine table (by rw [hm.1]) (by omega) hm.2 ?_
      walk_at "wp"
      exact ⟨_, _, rfl⟩
    · rintro ρ ⟨x3, x4, rfl⟩
      exact ⟨rfl, _, _, rfl⟩
  rintro _ ⟨x3, x4, rfl⟩
  rw [ok_seq]
  refine ok_setF ?_
  walk_at "wp"
  refine ⟨_, _, rfl, rfl, ?_⟩
  walk_at "wp"
  refine ok_setF ?_
  walk_at "wp"
  exact ⟨_, _, rfl, rfl, rfl⟩
/-! ### what is asked of an algebra -/
/-- the level of what was made -/
def lev (ls : List Int) : Option Int → Int
  | none => 4096
  | some i => (ls[i.toNat]?).getD 0
theorem after {ls : List Int} {ts : List (List (Option Int))} {t : List (Option Int)} {f : Nat} {K : S → Prop} (ht : ts[f]? = some t) (hl : t.length ≤ 1000) (hr : ∀ i, some i ∈ t → 0 ≤ i ∧ i < (ls.length : Int)) (h : K (.o none (.lst (t.map fun o => .int (lev ls o))))) : OKF (f_levels_after [.d (algD ls ts), .d (.int (f : Nat))]) K := by
  unfold f_levels_after b_levels_after
  walk_at "wp"
  refine ok_fld ?_
  walk_at "wp"
  refine ⟨_, _, rfl, rfl, ?_⟩
  have hf := (List.getElem?_eq_some_iff.mp ht).1
  rw [e_ixT (by omega) (by rw [List.length_map]; omega), Int.toNat_natCast, List.getElem?_map, ht]
  walk_at "wp"
  show OK (mLc _ _ _ _ _ [some (.d (algD ls ts)), some (.d (.int (f : Nat))), some (.d (tabD t)), none]) _
  simp only [ok_lc, ok_iseq]
  walk_at "wp"
  simp only [tabD, itemsD, ex_some, wipeE]
  walk_at "wp"
  refine ok_map (f := fun y => match y with | .int i => .int ((ls[i.toNat]?).getD 0) | _ => .int 4096) rfl ?_ (by rw [List.length_map]; omega) ?_
  · intro y hy
    obtain ⟨o, ho, rfl⟩ := List.mem_map.mp hy
    walk_at "wp"
    cases o with
    | none => exact ⟨fun _ => rfl, fun n => absurd rfl n⟩
    | some i =>
      refine ⟨fun n => (by cases n), fun _ => ?_⟩
      have := hr i ho
      refine ok_fld ?_
      walk_at "wp"
      refine ⟨_, _, rfl, rfl, ?_⟩
      show ∃ s, gIx (.tup (ls.map D.int)) (.int i) = some s ∧ _
      rw [e_ixT this.1 (by rw [List.length_map]; exact this.2), List.getElem?_map]
      walk_at "wp"
      obtain ⟨v, e1, e2⟩ := at_nat (xs := ls) this.1 this.2
      show (Option.map D.int ls[i.toNat]?).getD D.non = D.int ((ls[i.toNat]?).getD 0)
      rw [e2]
      rfl
  · have e : (t.map oD).map (fun y => match y with | .int i => D.int ((ls[i.toNat]?).getD 0) | _ => D.int 4096) = t.map fun o => D.int (lev ls o) := by
      rw [List.map_map]
      refine List.map_congr_left fun o _ => ?_
      cases o <;> rfl
    rw [e]
    exact h
/-- a breaks at element j of the table at f -/
def Brk2 (br : Int → Int → Bool) (ls : List Int) (ts : List (List (Option Int))) (f j : Nat) : Bool := match ts[f]?, ls[j]? with
  | some t, some l => br l (lev ls ((t[j]?).getD none))
  | _, _ => false
theorem Brk2.out {br : Int → Int → Bool} {ls : List Int} {ts : List (List (Option Int))} {f j : Nat} (h : ts.length ≤ f ∨ ls.length ≤ j) : Brk2 br ls ts f j = false := by
  unfold Brk2
  rcases h with h | h
  · rw [List.getElem?_eq_none h]
  · rw [List.getElem?_eq_none h]
    cases ts[f]? <;> rfl
/-- a breaks at elements i, j of the table at f -/
def Brk3 (br : Int → Int → Int → Int → Bool) (ls : List Int) (ts : List (List (Option Int))) (f i j : Nat) : Bool := match ts[f]?, ls[i]?, ls[j]? with
  | some t, some a, some b => br a b (lev ls ((t[i]?).getD none)) (lev ls ((t[j]?).getD none))
  | _, _, _ => false
theorem Brk3.out {br : Int → Int → Int → Int → Bool} {ls : List Int} {ts : List (List (Option Int))} {f i j : Nat} (h : ts.length ≤ f ∨ ls.length ≤ i ∨ ls.length ≤ j) : Brk3 br ls ts f i j = false := by
  unfold Brk3
  rcases h with h | h | h
  · rw [List.getElem?_eq_none h]
  · rw [List.getElem?_eq_none h]
    cases ts[f]? <;> rfl
  · rw [List.getElem?_eq_none h]
    cases ts[f]? <;> cases ls[i]? <;> rfl
end Lib
end Fx
/-! words followed, on data -/
namespace Fx
open PySem
local macro_rules | `(tactic| walk_at "wp") => `(tactic| simp only [okF_runF, okF_runL, ok_seq, ok_ret, ok_retN, ok_andV, ok_orV, ok_notV, ok_cb, ok_cons, ok_nil, ok_test, ok_dv, ok_op, ok_un, ok_c, ok_if, ok_ifS, ok_and, ok_or, ok_not, ok_asg, ok_gname, ok_drop, ok_call, ok_chain, ok_nx, ok_bk, ok_ct, ok_st, ok_yes, ok_tup, ok_ok, ok_stuck, ex_toD, ex_toL, ex_bl, ex_some, ex_bl1, fl_nx, fl_rt, fl_bk, fl_ct, rt_or, nx_or, mVar, ok1, gIsi, mIsi2, gIsi2, isTy2, isTy, Option.bind, bare, e_add, e_sub, e_int, e_lenS, e_lenT, e_lenL, e_lt, e_le, e_gt, e_ge, e_leC, e_ltC, e_isN, e_notN, e_pow,
  List.map_cons, List.map_nil, List.length_cons, List.length_nil, List.replicate_succ, List.replicate_zero, List.cons_append, List.nil_append, List.append_nil, List.getElem?_cons_zero, List.getElem?_cons_succ, List.set_cons_zero, List.set_cons_succ, Nat.reduceAdd, Nat.reduceSub, true_and, and_true, Bool.not_true, Bool.not_false, true_implies, forall_const, not_true_eq_false, false_implies, Bool.false_eq_true, not_false_eq_true, implies_true, eq_self, ne_eq, reduceCtorEq, Fl.rt.injEq, S.d.injEq, D.int.injEq, false_and, exists_false, or_false, false_or, exists_eq_left'])
local macro_rules | `(tactic| walk_at "wt") => `(tactic| simp (config := { contextual := false }) only [ok_row0, ok_row1, ok_row2, ok_row3, ok_put1, ok_put2, ok_put3, e_mod, e_div, e_mul, e_ixS, decide_true, decide_false, *, okF_runF, okF_runL, ok_seq, ok_ret, ok_retN, ok_andV, ok_orV, ok_notV, ok_cb, ok_cons, ok_nil, ok_test, ok_dv, ok_op, ok_un, ok_c, ok_if, ok_ifS, ok_and, ok_or, ok_not, ok_asg, ok_gname, ok_drop, ok_call, ok_chain, ok_nx, ok_bk, ok_ct, ok_st, ok_yes, ok_tup, ok_ok, ok_stuck, ex_toD, ex_toL, ex_bl, ex_some, ex_bl1, fl_nx, fl_rt, fl_bk, fl_ct, rt_or, nx_or, mVar, ok1, gIsi, mIsi2, gIsi2, isTy2, isTy, Option.bind, bare, e_add, e_sub, e_int, e_lenS, e_lenT, e_lenL, e_lt, e_le, e_gt, e_ge, e_leC, e_ltC, e_isN, e_notN, e_pow,
  List.map_cons, List.map_nil, List.length_cons, List.length_nil, List.replicate_succ, List.replicate_zero, List.cons_append, List.nil_append, List.append_nil, List.getElem?_cons_zero, List.getElem?_cons_succ, List.set_cons_zero, List.set_cons_succ, Nat.reduceAdd, Nat.reduceSub, true_and, and_true, Bool.not_true, Bool.not_false, true_implies, forall_const, not_true_eq_false, false_implies, Bool.false_eq_true, not_false_eq_true, implies_true, eq_self, ne_eq, reduceCtorEq, Fl.rt.injEq, S.d.injEq, D.int.injEq, false_and, exists_false, or_false, false_or, exists_eq_left'])
local macro_rules | `(tactic| walk_at "wy") => `(tactic| try walk_at "wp")
local macro_rules | `(tactic| walk_at "we") => `(tactic| first | done | rfl | exact ⟨rfl, rfl⟩ | exact ⟨rfl, rfl, rfl⟩)
namespace Lib
def step (ts : List (List (Option Int))) (f : Int) : Option Int → Option Int
  | none => none
  | some i => (((ts[f.toNat]?).getD [])[i.toNat]?).getD none
def In (ls : List Int) (x : Option Int) : Prop := ∀ i, x = some i → 0 ≤ i ∧ i < (ls.length : Int)
end Lib
end Fx
/-! words keep laws; more of rows -/
namespace Fx
open PySem
/-- a def that draws from the row -/
theorem ok_rowF {F : Fn} {r : Nat} {o : Option Nat} {ns : List Int} {a b c : Int} {fr : M (List D)} {ds : List D} {ρ : En} {P : S → En → Prop} {Pv : S → Prop} (e : ρ[r]? = some (rowS o ns a b c)) (h : OK (fr ρ) fun es ρ1 => es = ds ∧ ρ1 = ρ)
    (k : OK (F (.o (some 0) (rowD ns a b c) :: ds.map .d)) fun s ρ' => Pv s ∧ bare s = true ∧ ∃ a b c, RowOk a b c ∧ ∃ ρ2, ρ' = some (.o (some 0) (rowD ns a b c)) :: ρ2)
    (q : ∀ s a b c, Pv s → RowOk a b c → P s (ρ.set r (rowS o ns a b c))) : OK (mCallO F r 0 (aOwn r fr) ρ) P := by
  refine ok_callO (ok_own.mpr ⟨own_row e, ?_⟩)
  refine h.imp fun es ρ1 ⟨e1, e2⟩ => ?_
  subst e1
  subst e2
  refine ⟨o, rowD ns a b c, e, Nat.zero_le _, k.imp fun s ρ' ⟨hp, hb, a', b', c', hr, ρ2, e3⟩ => ?_⟩
  subst e3
  exact ⟨rowD ns a' b' c', rfl, hb, q s a' b' c' hp hr⟩
namespace Lib
end Lib
end Fx
/-! data that fit, slices, sums of tuples -/
namespace Fx
open PySem
theorem fit_pl : ∀ {n m : Nat} {x : D}, fit n x = true → n ≤ m → pl m x = true := by
  intro n
  induction n with
  | zero =>
    intro m x h _
    cases x <;> first | (simp [pl]; done) | cases h
  | succ n ih =>
    intro m x h hm
    cases m with
    | zero => omega
    | succ m =>
      cases x with
      | tup ds =>
        have h : (decide (ds.length ≤ 1000000) && ds.all (fit n)) = true := h
        rw [Bool.and_eq_true, List.all_eq_true] at h
        simp only [pl, plA_all, List.all_eq_true]
        exact fun y hy => ih (h.2 y hy) (by omega)
      | lst ds =>
        have h : (decide (ds.length ≤ 1000000) && ds.all (fit n)) = true := h
        rw [Bool.and_eq_true, List.all_eq_true] at h
        simp only [pl, plA_all, List.all_eq_true]
        exact fun y hy => ih (h.2 y hy) (by omega)
      | non => simp [pl]
      | bl b => simp [pl]
      | int i => simp [pl]
      | str z => simp [pl]
      | _ => cases h
theorem fit_60 {n : Nat} {x : D} (h : fit n x = true) (hn : n ≤ 60) : pl60 x = true := fit_pl h hn
theorem fit_tup {n : Nat} {ds : List D} (hl : ds.length ≤ 1000000) (h : ∀ x ∈ ds, fit n x = true) : fit (n + 1) (.tup ds) = true := by
  show (decide (ds.length ≤ 1000000) && ds.all (fit n)) = true
  rw [decide_eq_true hl, Bool.true_and, List.all_eq_true]
  exact h
theorem fit_lst {n : Nat} {ds : List D} (hl : ds.length ≤ 1000000) (h : ∀ x ∈ ds, fit n x = true) : fit (n + 1) (.lst ds) = true := by
  show (decide (ds.length ≤ 1000000) && ds.all (fit n)) = true
  rw [decide_eq_true hl, Bool.true_and, List.all_eq_true]
  exact h
theorem fit_int {n : Nat} {i : Int} : fit n (.int i) = true := by cases n <;> rfl
/-! slices of tuples -/
theorem cutD_from {xs : List D} {k : Int} (h : 0 ≤ k) : cutD xs (some k) none = xs.drop k.toNat := by
  unfold cutD
  have e : HT.sIx xs.length 0 (some k) = min k.toNat xs.length := by
    show (if k < 0 then _ else min k.toNat xs.length) = _
    rw [if_neg (by omega)]
  rw [e, HT.sIx_none]
  by_cases hk : k.toNat ≤ xs.length
  · rw [Nat.min_eq_left hk]
    exact List.take_of_length_le (by rw [List.length_drop]; omega)
  · rw [Nat.min_eq_right (by omega), List.drop_length, List.drop_of_length_le (by omega), List.take_nil]
theorem e_neII {i j : Int} {K : S → Prop} : (∃ s, gNe (.int i) (.int j) = some s ∧ K s) ↔ K (.d (.bl (!decide (i = j)))) := by
  have e : gNe (.int i) (.int j) = some (.d (.bl (!decide (i = j)))) := rfl
  rw [e]
  exact ex_some
local macro_rules | `(tactic| walk_at "wp") => `(tactic| simp only [okF_runF, okF_runL, ok_seq, ok_ret, ok_retN, ok_andV, ok_orV, ok_notV, ok_cb, ok_cons, ok_nil, ok_test, ok_dv, ok_op, ok_un, ok_c, ok_if, ok_ifS, ok_and, ok_or, ok_not, ok_asg, ok_gname, ok_drop, ok_call, ok_chain, ok_nx, ok_bk, ok_ct, ok_st, ok_yes, ok_tup, ok_ok, ok_stuck, ex_toD, ex_toL, ex_bl, ex_some, ex_bl1, fl_nx, fl_rt, fl_bk, fl_ct, rt_or, nx_or, mVar, ok1, gIsi, mIsi2, gIsi2, isTy2, isTy, Option.bind, bare, e_add, e_sub, e_int, e_lenS, e_lenT, e_lenL, e_lt, e_le, e_gt, e_ge, e_leC, e_ltC, e_isN, e_notN, e_pow,
  List.map_cons, List.map_nil, List.length_cons, List.length_nil, List.replicate_succ, List.replicate_zero, List.cons_append, List.nil_append, List.append_nil, List.getElem?_cons_zero, List.getElem?_cons_succ, List.set_cons_zero, List.set_cons_succ, Nat.reduceAdd, Nat.reduceSub, true_and, and_true, Bool.not_true, Bool.not_false, true_implies, forall_const, not_true_eq_false, false_implies, Bool.false_eq_true, not_false_eq_true, implies_true, eq_self, ne_eq, reduceCtorEq, Fl.rt.injEq, S.d.injEq, D.int.injEq, false_and, exists_false, or_false, false_or, exists_eq_left'])
local macro_rules | `(tactic| walk_at "wt") => `(tactic| simp (config := { contextual := false }) only [ok_row0, ok_row1, ok_row2, ok_row3, ok_put1, ok_put2, ok_put3, e_mod, e_div, e_mul, e_ixS, decide_true, decide_false, *, okF_runF, okF_runL, ok_seq, ok_ret, ok_retN, ok_andV, ok_orV, ok_notV, ok_cb, ok_cons, ok_nil, ok_test, ok_dv, ok_op, ok_un, ok_c, ok_if, ok_ifS, ok_and, ok_or, ok_not, ok_asg, ok_gname, ok_drop, ok_call, ok_chain, ok_nx, ok_bk, ok_ct, ok_st, ok_yes, ok_tup, ok_ok, ok_stuck, ex_toD, ex_toL, ex_bl, ex_some, ex_bl1, fl_nx, fl_rt, fl_bk, fl_ct, rt_or, nx_or, mVar, ok1, gIsi, mIsi2, gIsi2, isTy2, isTy, Option.bind, bare, e_add, e_sub, e_int, e_lenS, e_lenT, e_lenL, e_lt, e_le, e_gt, e_ge, e_leC, e_ltC, e_isN, e_notN, e_pow,
  List.map_cons, List.map_nil, List.length_cons, List.length_nil, List.replicate_succ, List.replicate_zero, List.cons_append, List.nil_append, List.append_nil, List.getElem?_cons_zero, List.getElem?_cons_succ, List.set_cons_zero, List.set_cons_succ, Nat.reduceAdd, Nat.reduceSub, true_and, and_true, Bool.not_true, Bool.not_false, true_implies, forall_const, not_true_eq_false, false_implies, Bool.false_eq_true, not_false_eq_true, implies_true, eq_self, ne_eq, reduceCtorEq, Fl.rt.injEq, S.d.injEq, D.int.injEq, false_and, exists_false, or_false, false_or, exists_eq_left'])
local macro_rules | `(tactic| walk_at "wy") => `(tactic| try walk_at "wp")
local macro_rules | `(tactic| walk_at "we") => `(tactic| first | done | rfl | exact ⟨rfl, rfl⟩ | exact ⟨rfl, rfl, rfl⟩)
namespace Lib
theorem OkAlg.app {most m1 m2 : Int} {ls : List Int} {A B : List (List (Option Int))} (a : OkAlg most m1 ls A) (b : OkAlg most m2 ls B) : OkAlg most (m1 + m2) ls (A ++ B) := by
  refine ⟨a.l1, a.l2, a.lv, by rw [List.length_append]; have := a.t1; omega, by rw [List.length_append]; have := a.t2; have := b.t2; omega, fun t ht => ?_⟩
  rcases List.mem_append.mp ht with h | h
  · exact a.tb t h
  · exact b.tb t h
/-! breaks of both -/
end Lib
end Fx
/-! lexicographic products: their levels and functions, when they are isotone -/
namespace Fx
open PySem
namespace Lib
/-- the level of an element, what a function makes of it -/
def Lv (ls : List Int) (i : Nat) : Int := (ls[i]?).getD 0
/-! ### the product -/
def code (u : List Int) (ls : List Int) (i : Nat) : Int := (Rw.plc u (Lv ls i) : Nat)
/-! ### isotone exactly by the parts -/
end Lib
end Fx
/-! comprehensions of two fors -/
namespace Fx
open PySem
theorem e_all {bs : List Bool} {K : S → Prop} : (∃ s, gAll [.lst (bs.map D.bl)] = some s ∧ K s) ↔ K (.d (.bl (bs.all id))) := by
  have e : gAll [.lst (bs.map D.bl)] = some (.d (.bl (bs.all id))) := by
    show (blsD (bs.map D.bl)).bind _ = _
    have := blsD_map (g := id) bs
    rw [List.map_id] at this
    rw [show bs.map D.bl = bs.map fun x => D.bl (id x) from rfl, this]
    rfl
  rw [e]
  exact ex_some
theorem e_any {bs : List Bool} {K : S → Prop} : (∃ s, gAny [.lst (bs.map D.bl)] = some s ∧ K s) ↔ K (.d (.bl (bs.any id))) := by
  have e : gAny [.lst (bs.map D.bl)] = some (.d (.bl (bs.any id))) := by
    show (blsD (bs.map D.bl)).bind _ = _
    have := blsD_map (g := id) bs
    rw [List.map_id] at this
    rw [show bs.map D.bl = bs.map fun x => D.bl (id x) from rfl, this]
    rfl
  rw [e]
  exact ex_some
theorem setL_ints {ns : List Int} (h : ns.length ≤ 1000) : gSetL (.tup (ns.map D.int)) = some (.d (.int (Rw.uniq ns).length)) := by
  show (match intsD (ns.map D.int) with
    | some ns => if ns.length ≤ 1000 then ok1 (.int (Rw.uniq ns).length) else none
    | none => none) = _
  rw [intsD_map]
  exact if_pos h
end Fx
/-! expressions that change nothing: their value -/
namespace Fx
open PySem
/-- what stands there has the value x and changes nothing -/
def Ev (f : M S) (ρ : En) (x : D) : Prop := OK (dv f ρ) fun y ρ1 => y = x ∧ ρ1 = ρ
def EvA (f : M (List D)) (ρ : En) (xs : List D) : Prop := OK (f ρ) fun ys ρ1 => ys = xs ∧ ρ1 = ρ
def EvB (f : M Bool) (ρ : En) (b : Bool) : Prop := OK (f ρ) fun c ρ1 => c = b ∧ ρ1 = ρ
section
variable {ρ : En} {x y z : D} {fa fb fe : M S} {fA : M (List D)} {xs : List D} {p q b : Bool} {ft fu : M Bool}
theorem Ev.dv (h : Ev fe ρ x) {P : D → En → Prop} (k : P x ρ) : OK (Fx.dv fe ρ) P := h.imp fun y ρ1 ⟨e1, e2⟩ => by rw [e1, e2]; exact k
theorem EvA.ok (h : EvA fA ρ xs) {P : List D → En → Prop} (k : P xs ρ) : OK (fA ρ) P := h.imp fun y ρ1 ⟨e1, e2⟩ => by rw [e1, e2]; exact k
theorem EvB.ok (h : EvB ft ρ b) {P : Bool → En → Prop} (k : P b ρ) : OK (ft ρ) P := h.imp fun y ρ1 ⟨e1, e2⟩ => by rw [e1, e2]; exact k
theorem ev_of (h : OK (fe ρ) fun s ρ1 => s = .d x ∧ ρ1 = ρ) : Ev fe ρ x := by
  unfold Ev
  rw [ok_dv]
  exact h.imp fun s ρ1 ⟨e1, e2⟩ => ⟨x, by rw [e1]; rfl, rfl, e2⟩
theorem ev_var (i : Nat) (e : ρ[i]? = some (some (.d x))) : Ev (mVar i) ρ x := ev_of (by rw [ok_varD e]; exact ⟨rfl, rfl⟩)
theorem ev_c : Ev (mC x) ρ x := ev_of (by rw [ok_c]; exact ⟨rfl, rfl⟩)
theorem ev_op {g : D → D → Option S} (ha : Ev fa ρ x) (hb : Ev fb ρ y) (e : g x y = some (.d z)) : Ev (mOp g fa fb) ρ z := ev_of (by
  rw [ok_op]
  exact ha.dv (hb.dv ⟨_, e, rfl, rfl⟩))
theorem ev_un {g : D → Option S} (ha : Ev fa ρ x) (e : g x = some (.d z)) : Ev (mUn g fa) ρ z := ev_of (by
  rw [ok_un]
  exact ha.dv ⟨_, e, rfl, rfl⟩)
theorem ev_lt {i j : Int} (ha : Ev fa ρ (.int i)) (hb : Ev fb ρ (.int j)) : Ev (mOp gLt fa fb) ρ (.bl (decide (i < j))) := ev_op ha hb rfl
theorem ev_eq {i j : Int} (ha : Ev fa ρ (.int i)) (hb : Ev fb ρ (.int j)) : Ev (mOp gEq fa fb) ρ (.bl (decide (i = j))) := ev_op ha hb rfl
theorem ev_ne {i j : Int} (ha : Ev fa ρ (.int i)) (hb : Ev fb ρ (.int j)) : Ev (mOp gNe fa fb) ρ (.bl (!decide (i = j))) := ev_op ha hb (by
  obtain ⟨s, e, k⟩ := (e_neII (i := i) (j := j) (K := fun s => s = .d (.bl (!decide (i = j))))).mpr rfl
  rw [e, k])
theorem ev_notN (ha : Ev fa ρ x) : Ev (mOp gNotN fa (mC .non)) ρ (.bl (!isN x)) := ev_op ha ev_c rfl
theorem eb_test (h : Ev fe ρ (.bl b)) : EvB (mTest fe) ρ b := by
  unfold EvB
  rw [ok_test]
  exact h.dv ⟨_, rfl, rfl, rfl⟩
theorem eb_not (h : EvB ft ρ b) : EvB (mNot ft) ρ (!b) := by
  unfold EvB
  rw [ok_not]
  exact h.ok ⟨rfl, rfl⟩
theorem eb_and (h : EvB ft ρ p) (k : p = true → EvB fu ρ q) : EvB (mAnd ft fu) ρ (p && q) := by
  unfold EvB
  rw [ok_and]
  refine h.ok ⟨fun e => (k e).ok ⟨by rw [e]; rfl, rfl⟩, fun e => ⟨?_, rfl⟩⟩
  cases p
  · rfl
  · exact absurd rfl e
theorem eb_or (h : EvB ft ρ p) (k : p = false → EvB fu ρ q) : EvB (mOr ft fu) ρ (p || q) := by
  unfold EvB
  rw [ok_or]
  refine h.ok ⟨fun e => ⟨by rw [e]; rfl, rfl⟩, fun e => (k (by simpa using e)).ok ⟨?_, rfl⟩⟩
  cases p
  · rfl
  · exact absurd rfl e
theorem eb_truth (h : Ev fe ρ x) (e : truD x = some b) : EvB (mTruth fe) ρ b := by
  unfold EvB
  exact ok_truth (h.dv ⟨b, e, rfl, rfl⟩)
theorem ev_and (h : Ev fa ρ (.bl p)) (k : Ev fb ρ (.bl q)) : Ev (mAndV fa fb) ρ (.bl (p && q)) := by
  unfold Ev
  rw [ok_dv, ok_andV]
  refine (eb_test h).ok ⟨fun e => ?_, fun e => ?_⟩
  · rw [← ok_dv]
    exact k.dv ⟨by rw [e]; rfl, rfl⟩
  · refine ⟨_, rfl, ?_, rfl⟩
    cases p
    · rfl
    · exact absurd rfl e
theorem ea_nil : EvA aNil ρ [] := by
  unfold EvA
  rw [ok_nil]
  exact ⟨rfl, rfl⟩
theorem ea_cons (h : Ev fe ρ x) (k : EvA fA ρ xs) : EvA (aCons fe fA) ρ (x :: xs) := by
  unfold EvA
  rw [ok_cons]
  exact h.dv (k.ok ⟨rfl, rfl⟩)
theorem ev_tup (h : EvA fA ρ xs) (hs : small xs.length = true := by rfl) : Ev (mTup fA) ρ (.tup xs) := ev_of (by
  rw [ok_tup]
  exact h.ok ⟨hs, rfl, rfl⟩)
theorem ev_call {F : Fn} (h : EvA fA ρ xs) (k : OKF (F (xs.map .d)) fun s => s = .d x) : Ev (mCall F fA) ρ x := ev_of (by
  rw [ok_call]
  exact h.ok (by
    rw [okF] at k ⊢
    exact k.imp fun s _ e => by rw [e]; exact ⟨rfl, rfl, rfl⟩))
theorem ev_ixT {ds : List D} {i : Nat} (ha : Ev fa ρ (.tup ds)) (hb : Ev fb ρ (.int (i : Nat))) (e : ds[i]? = some x) : Ev (mOp gIx fa fb) ρ x := ev_op ha hb (by
  have hi := (List.getElem?_eq_some_iff.mp e).1
  obtain ⟨s, e1, k⟩ := (e_ixT (ds := ds) (i := (i : Int)) (by omega) (by omega) (K := fun s => s = .d x)).mpr (by rw [Int.toNat_natCast, e]; rfl)
  rw [e1, k])
theorem atI_nat {α : Type} {ds : List α} {i : Nat} {x : α} (e : ds[i]? = some x) : L2.atI ds (i : Int) = some x := by
  have hi := (List.getElem?_eq_some_iff.mp e).1
  obtain ⟨y, e1, e2⟩ := at_nat (xs := ds) (i := (i : Int)) (by omega) (by omega)
  rw [Int.toNat_natCast, e] at e2
  cases e2
  exact e1
/-- an element of a list in a name -/
theorem ev_ixO {i : Nat} {b : Option Nat} {ds : List D} {k : Nat} (e1 : ρ[i]? = some (some (.o b (.lst ds)))) (hb : Ev fe ρ (.int (k : Nat))) (e : ds[k]? = some x) : Ev (mIxO i fe) ρ x := ev_of (by
  have ep : peek ρ i = some (.lst ds) := by
    unfold peek
    rw [e1]
  unfold mIxO peekL
  rw [ep]
  dsimp only
  rw [if_pos rfl, ok_then]
  refine hb.dv ?_
  rw [ep]
  dsimp only
  rw [atI_nat e]
  dsimp only
  rw [ok_ok]
  exact ⟨rfl, rfl⟩)
theorem ok_appE {i : Nat} {b : Option Nat} {ds : List D} {PF : S → En → Prop} (e1 : ρ[i]? = some (some (.o b (.lst ds)))) (hb : Ev fe ρ x) (hk : ds.length ≤ 1000000) (q : PF (.d .non) (ρ.set i (some (.o b (.lst (ds ++ [x])))))) : OK (mMeth1 i gApp fe ρ) PF := by
  have hs : small (ds.length + 1) = true := by
    unfold small
    exact decide_eq_true (by omega)
  unfold mMeth1 ownL
  rw [e1]
  dsimp only
  rw [if_pos rfl, ok_then]
  refine hb.dv ?_
  rw [e1]
  dsimp only
  unfold gApp
  rw [if_pos hs]
  dsimp only
  rw [ok_ok]
  exact q
theorem ok_varZ {i : Nat} {P : S → En → Prop} (e : ρ[i]? = some (some (.o none x))) (hc : canFz x = true) (q : P (.d x) (ρ.set i (some (.d x)))) : OK (mVar i ρ) P := by
  unfold mVar
  rw [e]
  dsimp only
  rw [if_pos hc, ok_ok]
  exact q
theorem Ev.raw (h : Ev fe ρ x) : OK (fe ρ) fun s ρ1 => toD s = some x ∧ ρ1 = ρ := by
  unfold Ev at h
  rw [ok_dv] at h
  exact h.imp fun s ρ1 ⟨x', e1, e2, e3⟩ => ⟨by rw [e1, e2], e3⟩
theorem ev_lst (h : EvA fA ρ xs) (hs : small xs.length = true := by rfl) (hc : canFz (.lst xs) = true := by rfl) : Ev (mLst fA) ρ (.lst xs) := by
  unfold Ev
  rw [ok_dv, ok_lst]
  refine h.ok ⟨hs, .lst xs, ?_, rfl, rfl⟩
  show (if canFz (.lst xs) then some (D.lst xs) else none) = _
  rw [if_pos hc]
/-- [x for x in xs if t] -/
theorem ok_filt {k : Nat} {items : List D} {ρ0 : En} {t : D → Bool} {PL : List D → En → Prop} (hk : k < ρ0.length) (hw : ρ0.set k none = ρ0) (st : ∀ x ∈ items, EvB ft (ρ0.set k (some (.d x))) (t x)) (hs : items.length ≤ 16777216) (q : PL (items.filter t) ρ0) : OK (mComp (gmName k) ft (mVar k) [k] items [] ρ0) PL := by
  have hwipe : ∀ x, wipeE (ρ0.set k (some (.d x))) [k] = ρ0 := fun x => by
    show (ρ0.set k (some (.d x))).set k none = ρ0
    rw [List.set_set, hw]
  refine ok_comp (I := fun i a ρ => a = (items.take i).filter t ∧ ρ = ρ0) (k := 0) ⟨by simp, rfl⟩ ?_ ?_
  · rintro i x a ρ hx ⟨rfl, rfl⟩
    have hi : i < items.length := (List.getElem?_eq_some_iff.mp hx).1
    have hle : ((items.take i).filter t).length ≤ i := Nat.le_trans (List.length_filter_le _ _) (by rw [List.length_take]; omega)
    have e : (items.take (i + 1)).filter t = (items.take i).filter t ++ (if t x then [x] else []) := by
      rw [List.take_add_one, hx, List.filter_append]
      congr 1
      show List.filter t [x] = _
      rw [List.filter_cons, List.filter_nil]
    rw [ok_gname]
    refine (st x (List.mem_of_getElem? hx)).ok ⟨fun h => ?_, fun h => ?_⟩
    · refine (ev_var k (by rw [List.getElem?_set_self hk])).dv ⟨?_, ?_, hwipe x⟩
      · rw [Nat.zero_add]
        exact decide_eq_true (by omega)
      · rw [Nat.zero_add, e, if_pos h]
    · refine ⟨?_, hwipe x⟩
      rw [Nat.zero_add, e, if_neg h, List.append_nil]
  · rintro a ρ ⟨rfl, rfl⟩
    rw [Nat.zero_add, List.take_length]
    exact q
theorem ev_add {i j : Int} (ha : Ev fa ρ (.int i)) (hb : Ev fb ρ (.int j)) : Ev (mOp gAdd fa fb) ρ (.int (i + j)) := ev_op ha hb rfl
theorem ev_cb {g : List D → Option S} (h : EvA fA ρ xs) (e : g xs = some (.d z)) : Ev (mCB g fA) ρ z := ev_of (by
  rw [ok_cb]
  exact h.ok ⟨_, e, rfl, rfl⟩)
end
end Fx
/-! graphs on data: drawn -/
namespace Fx
open PySem
namespace Lib
/-- an arc -/
def arcD (p : Nat × Nat) : D := .tup [.int p.1, .int p.2]
def ltA (p q : Nat × Nat) : Prop := p.1 < q.1 ∨ (p.1 = q.1 ∧ p.2 < q.2)
/-- arcs of n nodes, ascending -/
structure OkArcs (n : Nat) (as : List (Nat × Nat)) : Prop where
  rng : ∀ p ∈ as, p.1 < n ∧ p.2 < n ∧ p.1 ≠ p.2
  asc : as.Pairwise ltA
theorem OkArcs.len {n : Nat} : ∀ {as : List (Nat × Nat)}, OkArcs n as → as.length ≤ n * n := by
  intro as o
  have key : ∀ (l : List (Nat × Nat)) (k : Nat), (∀ p ∈ l, k ≤ p.1 * n + p.2 ∧ p.1 * n + p.2 < n * n) → (l.map fun p => p.1 * n + p.2).Pairwise (· < ·) → l.length + k ≤ n * n ∨ l = [] := by
    intro l
    induction l with
    | nil => exact fun _ _ _ => .inr rfl
    | cons p l ih =>
      intro k h hp
      obtain ⟨h1, h2⟩ := h p List.mem_cons_self
      rw [List.map_cons, List.pairwise_cons] at hp
      have := ih (p.1 * n + p.2 + 1) (fun q hq => ⟨hp.1 _ (List.mem_map.mpr ⟨q, hq, rfl⟩), (h q (List.mem_cons_of_mem _ hq)).2⟩) hp.2
      left
      rcases this with this | rfl
      · rw [List.length_cons]
        omega
      · simp only [List.length_cons, List.length_nil]
        omega
  have hb : ∀ p ∈ as, 0 ≤ p.1 * n + p.2 ∧ p.1 * n + p.2 < n * n := fun p hp => by
    obtain ⟨a, b, _⟩ := o.rng p hp
    have : (p.1 + 1) * n ≤ n * n := Nat.mul_le_mul (by omega) (Nat.le_refl _)
    rw [Nat.add_mul, Nat.one_mul] at this
    exact ⟨Nat.zero_le _, by omega⟩
  have hp : (as.map fun p => p.1 * n + p.2).Pairwise (· < ·) := by
    rw [List.pairwise_map]
    refine List.Pairwise.imp_of_mem (fun {p q} hp hq h => ?_) o.asc
    obtain ⟨_, b, _⟩ := o.rng p hp
    rcases h with h | ⟨h1, h2⟩
    · have : (p.1 + 1) * n ≤ q.1 * n := Nat.mul_le_mul (by omega) (Nat.le_refl _)
      rw [Nat.add_mul, Nat.one_mul] at this
      omega
    · rw [h1]
      omega
  rcases key as 0 hb hp with h | rfl
  · omega
  · exact Nat.zero_le _
end Lib
end Fx
/-! graphs on data: made, checked -/
namespace Fx
open PySem
local macro_rules | `(tactic| walk_at "wp") => `(tactic| simp only [okF_runF, okF_runL, ok_seq, ok_ret, ok_retN, ok_andV, ok_orV, ok_notV, ok_cb, ok_cons, ok_nil, ok_test, ok_dv, ok_op, ok_un, ok_c, ok_if, ok_ifS, ok_and, ok_or, ok_not, ok_asg, ok_gname, ok_drop, ok_call, ok_chain, ok_nx, ok_bk, ok_ct, ok_st, ok_yes, ok_tup, ok_ok, ok_stuck, ex_toD, ex_toL, ex_bl, ex_some, ex_bl1, fl_nx, fl_rt, fl_bk, fl_ct, rt_or, nx_or, mVar, ok1, gIsi, mIsi2, gIsi2, isTy2, isTy, Option.bind, bare, e_add, e_sub, e_int, e_lenS, e_lenT, e_lenL, e_lt, e_le, e_gt, e_ge, e_leC, e_ltC, e_isN, e_notN, e_pow,
  List.map_cons, List.map_nil, List.length_cons, List.length_nil, List.replicate_succ, List.replicate_zero, List.cons_append, List.nil_append, List.append_nil, List.getElem?_cons_zero, List.getElem?_cons_succ, List.set_cons_zero, List.set_cons_succ, Nat.reduceAdd, Nat.reduceSub, true_and, and_true, Bool.not_true, Bool.not_false, true_implies, forall_const, not_true_eq_false, false_implies, Bool.false_eq_true, not_false_eq_true, implies_true, eq_self, ne_eq, reduceCtorEq, Fl.rt.injEq, S.d.injEq, D.int.injEq, false_and, exists_false, or_false, false_or, exists_eq_left'])
local macro_rules | `(tactic| walk_at "wt") => `(tactic| simp (config := { contextual := false }) only [ok_row0, ok_row1, ok_row2, ok_row3, ok_put1, ok_put2, ok_put3, e_mod, e_div, e_mul, e_ixS, decide_true, decide_false, *, okF_runF, okF_runL, ok_seq, ok_ret, ok_retN, ok_andV, ok_orV, ok_notV, ok_cb, ok_cons, ok_nil, ok_test, ok_dv, ok_op, ok_un, ok_c, ok_if, ok_ifS, ok_and, ok_or, ok_not, ok_asg, ok_gname, ok_drop, ok_call, ok_chain, ok_nx, ok_bk, ok_ct, ok_st, ok_yes, ok_tup, ok_ok, ok_stuck, ex_toD, ex_toL, ex_bl, ex_some, ex_bl1, fl_nx, fl_rt, fl_bk, fl_ct, rt_or, nx_or, mVar, ok1, gIsi, mIsi2, gIsi2, isTy2, isTy, Option.bind, bare, e_add, e_sub, e_int, e_lenS, e_lenT, e_lenL, e_lt, e_le, e_gt, e_ge, e_leC, e_ltC, e_isN, e_notN, e_pow,
  List.map_cons, List.map_nil, List.length_cons, List.length_nil, List.replicate_succ, List.replicate_zero, List.cons_append, List.nil_append, List.append_nil, List.getElem?_cons_zero, List.getElem?_cons_succ, List.set_cons_zero, List.set_cons_succ, Nat.reduceAdd, Nat.reduceSub, true_and, and_true, Bool.not_true, Bool.not_false, true_implies, forall_const, not_true_eq_false, false_implies, Bool.false_eq_true, not_false_eq_true, implies_true, eq_self, ne_eq, reduceCtorEq, Fl.rt.injEq, S.d.injEq, D.int.injEq, false_and, exists_false, or_false, false_or, exists_eq_left'])
local macro_rules | `(tactic| walk_at "wy") => `(tactic| try walk_at "wp")
local macro_rules | `(tactic| walk_at "we") => `(tactic| first | done | rfl | exact ⟨rfl, rfl⟩ | exact ⟨rfl, rfl, rfl⟩)
namespace Lib
theorem toD_back {s : S} {x : D} (h : toD s = some x) (hc : canFz x = false) : s = .d x := by
  cases s with
  | d y =>
    have h : some y = some x := h
    cases h
    rfl
  | o b y =>
    cases b with
    | none =>
      have h : (if canFz y then some y else none) = some x := h
      split at h
      · rename_i k
        cases h
        rw [hc] at k
        cases k
      · cases h
    | some k => cases h
  | q _ _ => cases h
theorem eqD_arc {p q : Nat × Nat} : eqD (arcD p) (arcD q) = decide (p = q) := by
  obtain ⟨a, b⟩ := p
  obtain ⟨x, y⟩ := q
  have e : eqD (arcD (a, b)) (arcD (x, y)) = (((a : Int) == (x : Int)) && (((b : Int) == (y : Int)) && true)) := by
    show PyData.eqv (toP (.tup [.int a, .int b])) (toP (.tup [.int x, .int y])) = _
    simp [toP, toPs, PyData.eqv, PyData.eqvAll]
  rw [e, Bool.and_true, Bool.eq_iff_iff]
  simp only [Bool.and_eq_true, beq_iff_eq, decide_eq_true_eq, Prod.mk.injEq]
  omega
theorem fit_arc {n : Nat} {p : Nat × Nat} : fit (n + 1) (arcD p) = true := fit_tup (by show 2 ≤ 1000000; omega) fun y hy => by
  simp only [List.mem_cons, List.not_mem_nil, or_false] at hy
  rcases hy with rfl | rfl <;> exact fit_int
theorem pl_arc {p : Nat × Nat} : pl60 (arcD p) = true := fit_60 (n := 1) fit_arc (by decide)
theorem in_arcs {p : Nat × Nat} {as : List (Nat × Nat)} (hl : as.length ≤ 1000000) : gIn (arcD p) (.tup (as.map arcD)) = some (.d (.bl (decide (p ∈ as)))) := by
  have hp : plA 60 (as.map arcD) = true := by
    have h : pl 61 (.tup (as.map arcD)) = true := fit_pl (n := 2) (fit_tup (n := 1) (by rw [List.length_map]; exact hl) fun x hx => by
      obtain ⟨q, _, rfl⟩ := List.mem_map.mp hx
      exact fit_arc) (by decide)
    exact h
  have e : inD (arcD p) (as.map arcD) = decide (p ∈ as) := by
    unfold inD
    rw [List.any_map, Bool.eq_iff_iff, List.any_eq_true, decide_eq_true_eq]
    constructor
    · rintro ⟨q, hq, h⟩
      have h : eqD (arcD q) (arcD p) = true := h
      rw [eqD_arc, decide_eq_true_eq] at h
      rw [← h]
      exact hq
    · intro h
      refine ⟨p, h, ?_⟩
      show eqD (arcD p) (arcD p) = true
      rw [eqD_arc]
      simp
  show (if (pl60 (arcD p) && plA 60 (as.map arcD)) = true then ok1 (.bl (inD (arcD p) (as.map arcD))) else none) = _
  rw [pl_arc, hp, e]
  rfl
end Lib
end Fx
/-! graphs on data: drawn whole -/
namespace Fx
open PySem
local macro_rules | `(tactic| walk_at "wp") => `(tactic| simp only [okF_runF, okF_runL, ok_seq, ok_ret, ok_retN, ok_andV, ok_orV, ok_notV, ok_cb, ok_cons, ok_nil, ok_test, ok_dv, ok_op, ok_un, ok_c, ok_if, ok_ifS, ok_and, ok_or, ok_not, ok_asg, ok_gname, ok_drop, ok_call, ok_chain, ok_nx, ok_bk, ok_ct, ok_st, ok_yes, ok_tup, ok_ok, ok_stuck, ex_toD, ex_toL, ex_bl, ex_some, ex_bl1, fl_nx, fl_rt, fl_bk, fl_ct, rt_or, nx_or, mVar, ok1, gIsi, mIsi2, gIsi2, isTy2, isTy, Option.bind, bare, e_add, e_sub, e_int, e_lenS, e_lenT, e_lenL, e_lt, e_le, e_gt, e_ge, e_leC, e_ltC, e_isN, e_notN, e_pow,
  List.map_cons, List.map_nil, List.length_cons, List.length_nil, List.replicate_succ, List.replicate_zero, List.cons_append, List.nil_append, List.append_nil, List.getElem?_cons_zero, List.getElem?_cons_succ, List.set_cons_zero, List.set_cons_succ, Nat.reduceAdd, Nat.reduceSub, true_and, and_true, Bool.not_true, Bool.not_false, true_implies, forall_const, not_true_eq_false, false_implies, Bool.false_eq_true, not_false_eq_true, implies_true, eq_self, ne_eq, reduceCtorEq, Fl.rt.injEq, S.d.injEq, D.int.injEq, false_and, exists_false, or_false, false_or, exists_eq_left'])
local macro_rules | `(tactic| walk_at "wt") => `(tactic| simp (config := { contextual := false }) only [ok_row0, ok_row1, ok_row2, ok_row3, ok_put1, ok_put2, ok_put3, e_mod, e_div, e_mul, e_ixS, decide_true, decide_false, *, okF_runF, okF_runL, ok_seq, ok_ret, ok_retN, ok_andV, ok_orV, ok_notV, ok_cb, ok_cons, ok_nil, ok_test, ok_dv, ok_op, ok_un, ok_c, ok_if, ok_ifS, ok_and, ok_or, ok_not, ok_asg, ok_gname, ok_drop, ok_call, ok_chain, ok_nx, ok_bk, ok_ct, ok_st, ok_yes, ok_tup, ok_ok, ok_stuck, ex_toD, ex_toL, ex_bl, ex_some, ex_bl1, fl_nx, fl_rt, fl_bk, fl_ct, rt_or, nx_or, mVar, ok1, gIsi, mIsi2, gIsi2, isTy2, isTy, Option.bind, bare, e_add, e_sub, e_int, e_lenS, e_lenT, e_lenL, e_lt, e_le, e_gt, e_ge, e_leC, e_ltC, e_isN, e_notN, e_pow,
  List.map_cons, List.map_nil, List.length_cons, List.length_nil, List.replicate_succ, List.replicate_zero, List.cons_append, List.nil_append, List.append_nil, List.getElem?_cons_zero, List.getElem?_cons_succ, List.set_cons_zero, List.set_cons_succ, Nat.reduceAdd, Nat.reduceSub, true_and, and_true, Bool.not_true, Bool.not_false, true_implies, forall_const, not_true_eq_false, false_implies, Bool.false_eq_true, not_false_eq_true, implies_true, eq_self, ne_eq, reduceCtorEq, Fl.rt.injEq, S.d.injEq, D.int.injEq, false_and, exists_false, or_false, false_or, exists_eq_left'])
local macro_rules | `(tactic| walk_at "wy") => `(tactic| try walk_at "wp")
local macro_rules | `(tactic| walk_at "we") => `(tactic| first | done | rfl | exact ⟨rfl, rfl⟩ | exact ⟨rfl, rfl, rfl⟩)
namespace Lib
end Lib
end Fx
/-! dict comprehensions on data -/
namespace Fx
open PySem
local macro_rules | `(tactic| walk_at "wp") => `(tactic| simp only [okF_runF, okF_runL, ok_seq, ok_ret, ok_retN, ok_andV, ok_orV, ok_notV, ok_cb, ok_cons, ok_nil, ok_test, ok_dv, ok_op, ok_un, ok_c, ok_if, ok_ifS, ok_and, ok_or, ok_not, ok_asg, ok_gname, ok_drop, ok_call, ok_chain, ok_nx, ok_bk, ok_ct, ok_st, ok_yes, ok_tup, ok_ok, ok_stuck, ex_toD, ex_toL, ex_bl, ex_some, ex_bl1, fl_nx, fl_rt, fl_bk, fl_ct, rt_or, nx_or, mVar, ok1, gIsi, mIsi2, gIsi2, isTy2, isTy, Option.bind, bare, e_add, e_sub, e_int, e_lenS, e_lenT, e_lenL, e_lt, e_le, e_gt, e_ge, e_leC, e_ltC, e_isN, e_notN, e_pow,
  List.map_cons, List.map_nil, List.length_cons, List.length_nil, List.replicate_succ, List.replicate_zero, List.cons_append, List.nil_append, List.append_nil, List.getElem?_cons_zero, List.getElem?_cons_succ, List.set_cons_zero, List.set_cons_succ, Nat.reduceAdd, Nat.reduceSub, true_and, and_true, Bool.not_true, Bool.not_false, true_implies, forall_const, not_true_eq_false, false_implies, Bool.false_eq_true, not_false_eq_true, implies_true, eq_self, ne_eq, reduceCtorEq, Fl.rt.injEq, S.d.injEq, D.int.injEq, false_and, exists_false, or_false, false_or, exists_eq_left'])
local macro_rules | `(tactic| walk_at "wt") => `(tactic| simp (config := { contextual := false }) only [ok_row0, ok_row1, ok_row2, ok_row3, ok_put1, ok_put2, ok_put3, e_mod, e_div, e_mul, e_ixS, decide_true, decide_false, *, okF_runF, okF_runL, ok_seq, ok_ret, ok_retN, ok_andV, ok_orV, ok_notV, ok_cb, ok_cons, ok_nil, ok_test, ok_dv, ok_op, ok_un, ok_c, ok_if, ok_ifS, ok_and, ok_or, ok_not, ok_asg, ok_gname, ok_drop, ok_call, ok_chain, ok_nx, ok_bk, ok_ct, ok_st, ok_yes, ok_tup, ok_ok, ok_stuck, ex_toD, ex_toL, ex_bl, ex_some, ex_bl1, fl_nx, fl_rt, fl_bk, fl_ct, rt_or, nx_or, mVar, ok1, gIsi, mIsi2, gIsi2, isTy2, isTy, Option.bind, bare, e_add, e_sub, e_int, e_lenS, e_lenT, e_lenL, e_lt, e_le, e_gt, e_ge, e_leC, e_ltC, e_isN, e_notN, e_pow,
  List.map_cons, List.map_nil, List.length_cons, List.length_nil, List.replicate_succ, List.replicate_zero, List.cons_append, List.nil_append, List.append_nil, List.getElem?_cons_zero, List.getElem?_cons_succ, List.set_cons_zero, List.set_cons_succ, Nat.reduceAdd, Nat.reduceSub, true_and, and_true, Bool.not_true, Bool.not_false, true_implies, forall_const, not_true_eq_false, false_implies, Bool.false_eq_true, not_false_eq_true, implies_true, eq_self, ne_eq, reduceCtorEq, Fl.rt.injEq, S.d.injEq, D.int.injEq, false_and, exists_false, or_false, false_or, exists_eq_left'])
local macro_rules | `(tactic| walk_at "wy") => `(tactic| try walk_at "wp")
local macro_rules | `(tactic| walk_at "we") => `(tactic| first | done | rfl | exact ⟨rfl, rfl⟩ | exact ⟨rfl, rfl, rfl⟩)
section
variable {k : Nat} {fk fv : M S} {ρ0 : En} {vf : D → D} {PD : List D × List D → En → Prop}
theorem homog_of {P : D → Bool} (hP : P = isKey ∨ P = isKeyT) {ks : List D} {x : D} (h : ks.all P = true) (hx : P x = true) : homog ks x = true := by
  unfold homog
  rcases hP with rfl | rfl
  · rw [h, hx]; rfl
  · rw [h, hx]; simp
theorem putKs_new {α : Type} {ks : List D} {k : D} {l : List α} {x : α} (h : ks.any (keyEq k) = false) : putKs ks k l x = l ++ [x] := by
  unfold putKs hasKey
  rw [h]
  rfl
theorem putVs_new {α : Type} {ks : List D} {k : D} {l : List α} {x : α} (h : ks.any (keyEq k) = false) : putVs ks k l x = l ++ [x] := by
  unfold putVs hasKey
  rw [h]
  rfl
/-- {x: f(x) for x in xs}, the xs keys, each once -/
theorem ok_dcomp {P : D → Bool} (hP : P = isKey ∨ P = isKeyT) : ∀ {items ks ds : List D}, (∀ x ∈ items, P x = true) → ks.all P = true → (∀ x ∈ items, ks.any (keyEq x) = false) → items.Pairwise (fun x y => keyEq y x = false) → ks.length + items.length ≤ 16777216 →
    (∀ x ∈ items, Ev fk (ρ0.set k (some (.d x))) x) → (∀ x ∈ items, OK (dv fv (ρ0.set k (some (.d x)))) fun y ρ3 => y = vf x ∧ ρ3.set k none = ρ0) → PD (ks ++ items, ds ++ items.map vf) ρ0 → OK (mDComp (gmName k) mYes fk fv [k] items ks ds ρ0) PD
  | [], ks, ds, _, _, _, _, _, _, _, q => by
    unfold mDComp
    rw [ok_ok]
    rw [List.append_nil, List.map_nil, List.append_nil] at q
    exact q
  | x :: xs, ks, ds, h1, h0, h2, h3, h4, h5, h6, q => by
    unfold mDComp
    rw [ok_then, ok_calm, ok_gname, ok_then, ok_calm, ok_yes, if_pos rfl, ok_then, ok_calm]
    refine (h5 x List.mem_cons_self).dv ?_
    rw [ok_then, ok_calm]
    refine (h6 x List.mem_cons_self).imp fun y ρ3 ⟨e1, e2⟩ => ?_
    rw [List.pairwise_cons] at h3
    rw [List.length_cons] at h4
    have hz : (homog ks x && small (ks.length + 1)) = true := by
      rw [homog_of hP h0 (h1 x List.mem_cons_self)]
      exact decide_eq_true (by omega)
    rw [if_pos hz, putKs_new (h2 x List.mem_cons_self), putVs_new (h2 x List.mem_cons_self)]
    have ew : wipeE ρ3 [k] = ρ0 := e2
    rw [ew, e1]
    refine ok_dcomp hP (fun z hz => h1 z (List.mem_cons_of_mem _ hz)) (by rw [List.all_append, h0]; simp [h1 x List.mem_cons_self]) (fun z hz => ?_) h3.2 (by rw [List.length_append]; simp only [List.length_cons, List.length_nil]; omega) (fun z hz => h5 z (List.mem_cons_of_mem _ hz)) (fun z hz => h6 z (List.mem_cons_of_mem _ hz)) ?_
    · rw [List.any_append, h2 z (List.mem_cons_of_mem _ hz)]
      simp [h3.1 z hz]
    · rw [List.append_assoc, List.append_assoc]
      exact q
end
section
variable {ρ : En} {k : Nat} {fs fk fv : M S} {vf : D → D} {items : List D} {x : D}
/-- d[i] -/
theorem gDget_at {ks ds : List D} {y : D} {i : Nat} (hh : homog ks y = true) (e1 : keyAt ks y = some i) (e2 : ds[i]? = some x) : gDget (.dct ks ds) y = some (.d x) := by
  show (if homog ks y then (look ks y ds).bind ok1 else none) = _
  rw [if_pos hh]
  unfold look
  rw [e1]
  show (ds[i]?).bind ok1 = _
  rw [e2]
  rfl
theorem ev_dget {fa fb : M S} {ks ds : List D} {y : D} {i : Nat} (ha : Ev fa ρ (.dct ks ds)) (hb : Ev fb ρ y) (hh : homog ks y = true) (e1 : keyAt ks y = some i) (e2 : ds[i]? = some x) : Ev (mOp gDget fa fb) ρ x := ev_op ha hb (gDget_at hh e1 e2)
theorem ints_all : ∀ {n : Nat} {lo : Int}, (intsFrom lo n).all isKey = true
  | 0, _ => rfl
  | n + 1, lo => by
    unfold intsFrom
    rw [List.all_cons, ints_all]
    rfl
theorem homog_ints {n : Nat} {lo i : Int} : homog (intsFrom lo n) (.int i) = true := homog_of (.inl rfl) ints_all rfl
theorem keyAt_ints : ∀ {n i lo : Nat}, i < n → keyAt (intsFrom (lo : Int) n) (.int ((lo + i : Nat) : Int)) = some i
  | 0, _, _, h => absurd h (Nat.not_lt_zero _)
  | n + 1, 0, lo, _ => by
    unfold keyAt intsFrom
    rw [List.findIdx?_cons]
    simp [keyEq]
  | n + 1, i + 1, lo, h => by
    have ih := keyAt_ints (n := n) (i := i) (lo := lo + 1) (by omega)
    unfold keyAt at ih ⊢
    unfold intsFrom
    rw [List.findIdx?_cons]
    have e : keyEq (.int ((lo + (i + 1) : Nat) : Int)) (.int (lo : Int)) = false := by
      show decide (((lo + (i + 1) : Nat) : Int) = (lo : Int)) = false
      rw [decide_eq_false_iff_not]
      omega
    rw [e]
    have e3 : ((lo : Int) + 1) = ((lo + 1 : Nat) : Int) := by omega
    have e4 : lo + (i + 1) = lo + 1 + i := by omega
    rw [e3, e4]
    simp only [Bool.false_eq_true, if_false, ih, Option.map_some]
end
end Fx
/-! a while, a stack -/
namespace Fx
open PySem
/-- a while that is sure to end: m counts down -/
theorem ok_while {ft : M Bool} {F : M Fl} {PF : Fl → En → Prop} {I : Nat → En → Prop} (st : ∀ m ρ, I m ρ → OK (ft ρ) fun b ρ1 => (b = true → OK (F ρ1) fun f ρ2 => f = .nx ∧ ∃ m', m' < m ∧ I m' ρ2) ∧ (¬b = true → PF .nx ρ1)) :
    ∀ {fuel m : Nat} {ρ : En}, m < fuel → I m ρ → OK (mWhile ft F fuel ρ) PF
  | 0, _, _, h, _ => absurd h (Nat.not_lt_zero _)
  | fuel + 1, m, ρ, h, hi => by
    unfold mWhile
    rw [ok_then]
    refine (st m ρ hi).imp fun b ρ1 ⟨k1, k2⟩ => ?_
    by_cases hb : b = true
    · rw [if_pos hb, ok_then]
      refine (k1 hb).imp fun f ρ2 ⟨e, m', hm, hi'⟩ => ?_
      subst e
      exact ok_while st (by omega) hi'
    · rw [if_neg hb, ok_ok]
      exact k2 hb
section
variable {ρ : En} {i : Nat} {b : Option Nat} {ds : List D}
theorem eb_truO (e : ρ[i]? = some (some (.o b (.lst ds)))) : EvB (mTruthO i) ρ (!ds.isEmpty) := by
  unfold EvB mTruthO
  rw [e]
  dsimp only
  rw [ok_ok]
  exact ⟨rfl, rfl⟩
end
end Fx
/-! xs.count(x), xs.index(x), xs a name that goes on to change -/
/-! lists of numbers on data; statements one after another -/
namespace Fx.Nl
open PySem Lib
abbrev nl (L : List Nat) : List D := L.map fun i : Nat => D.int i
theorem nl_app (a b : List Nat) : nl (a ++ b) = nl a ++ nl b := List.map_append
theorem nl_len (a : List Nat) : (nl a).length = a.length := List.length_map _
theorem nl_get {a : List Nat} {i v : Nat} (e : a[i]? = some v) : (nl a)[i]? = some (.int (v : Nat)) := by
  show (a.map fun i : Nat => D.int i)[i]? = _
  rw [List.getElem?_map, e]
  rfl
section
variable {ρ : En} {i j k : Nat} {b : Option Nat} {t : Bool} {x y : D} {xs : List D} {fa fb fe ff : M S} {fA : M (List D)} {ft : M Bool} {F G : M Fl} {PF : Fl → En → Prop}
theorem sq (h : OK (F ρ) fun f ρ1 => f = .nx ∧ OK (G ρ1) PF) : OK (mSeq F G ρ) PF := ok_seqI _ h fun _ h => h
theorem sqI (h : OK (F ρ) fun f ρ1 => (f = .nx ∧ OK (G ρ1) PF) ∨ (f ≠ .nx ∧ PF f ρ1)) : OK (mSeq F G ρ) PF := by
  rw [ok_seq]
  exact h.imp fun f ρ1 k => k.elim (fun ⟨a, b⟩ => ⟨fun _ => b, fun e => absurd a e⟩) fun ⟨a, b⟩ => ⟨fun e => absurd e a, fun _ => b⟩
theorem asg (h : Ev fe ρ x) (q : PF .nx (ρ.set i (some (.d x)))) : OK (mAsg fe (gmName i) ρ) PF := by
  rw [ok_asg]
  refine h.dv ?_
  rw [ok_gname]
  exact q
theorem asgL (h : EvA fA ρ xs) (hs : small xs.length = true) (q : PF .nx (ρ.set i (some (.o none (.lst xs))))) : OK (mAsgO i (mLst fA) ρ) PF := by
  rw [ok_asgO, ok_lst]
  exact h.ok ⟨hs, .inl ⟨_, rfl, q⟩⟩
theorem retE (h : Ev fe ρ x) (q : ∀ s, toD s = some x → PF (.rt s) ρ) : OK (mRet fe ρ) PF := by
  rw [ok_ret]
  exact h.raw.imp fun s ρ1 ⟨e1, e2⟩ => by rw [e2]; exact q s e1
theorem ifN (h : EvB ft ρ false) (q : PF .nx ρ) : OK (mIfS ft F mNx ρ) PF := by
  rw [ok_ifS]
  refine h.ok ⟨fun e => (nomatch e), fun _ => ?_⟩
  rw [ok_nx]
  exact q
theorem ifB (h : EvB ft ρ t) (q1 : t = true → OK (F ρ) PF) (q2 : t = false → OK (G ρ) PF) : OK (mIfS ft F G ρ) PF := by
  rw [ok_ifS]
  exact h.ok ⟨fun e => q1 e, fun e => q2 (by simpa using e)⟩
theorem dropE (h : Ev fe ρ x) (q : PF .nx ρ) : OK (mDrop fe ρ) PF := by
  rw [ok_drop]
  exact h.raw.imp fun s ρ1 ⟨e1, e2⟩ => by rw [e2]; exact q
theorem appE (e1 : ρ[i]? = some (some (.o b (.lst xs)))) (h : Ev fe ρ x) (hk : xs.length ≤ 1000000) (q : PF .nx (ρ.set i (some (.o b (.lst (xs ++ [x])))))) : OK (mDrop (mMeth1 i gApp fe) ρ) PF := by
  rw [ok_drop]
  exact ok_appE e1 h hk q
theorem cbZ {g : List D → Option S} {z : D} (h : EvA fA ρ xs) (e : g xs = some (.o none z)) (hc : canFz z = true) : Ev (mCB g fA) ρ z := by
  unfold Ev
  rw [ok_dv, ok_cb]
  refine h.ok ⟨_, e, z, ?_, rfl, rfl⟩
  show (if canFz z then some z else none) = _
  rw [if_pos hc]
theorem range1 {n : Nat} {P : List D → En → Prop} (h : EvA fA ρ [.int (n : Nat)]) (hn : n ≤ 1000000) (q : P (intsFrom 0 n) ρ) : OK (iRange1 fA ρ) P := by
  refine @ok_range1e _ _ _ ?_
  exact h.ok ⟨(n : Nat), rfl, by omega, by omega, by rw [Int.toNat_natCast]; exact q⟩
end
/-! numbers in lists -/
theorem ints_nl (n : Nat) : intsFrom 0 n = nl (List.range n) := by
  refine List.ext_getElem? fun i => ?_
  rw [List.getElem?_map]
  by_cases h : i < n
  · rw [intsFrom_get n 0 i h, List.getElem?_range h]
    show some (D.int ((0 : Int) + (i : Int))) = some (D.int (i : Int))
    rw [Int.zero_add]
  · rw [List.getElem?_eq_none (by rw [intsFrom_length]; omega), List.getElem?_eq_none (by rw [List.length_range]; omega)]
    rfl
end Fx.Nl
/-! defs of the program and of laws, on data -/
namespace Fx.Lib
open PySem PySem.Spec PyProof.Rows L2
def b_is_pair : M Fl := (mRet (mAndV (mCall f_are_numbers (aCons (mVar 1) (aCons (mC (.int 0)) (aCons (mOp gMinus (mVar 0) (mC (.int 1))) aNil)))) (mAndV (mOp gEq (mCB gLen (aCons (mVar 1) aNil)) (mC (.int 2))) (mOp gNe (mOp gIx (mVar 1) (mC (.int 0))) (mOp gIx (mVar 1) (mC (.int 1)))))))
def f_is_pair : Fn := runF 2 2 b_is_pair
def b_check_trade : M Fl := (mIfS (mNot (mTest (mIsC "Trade" (mVar 0)))) mSt mNx)
def f_check_trade : Fn := runF 1 1 b_check_trade
def b_is_provider : M Fl := (mRet (mOp gIn (mTup (aCons (mVar 1) (aCons (mVar 2) aNil))) (mFldE "Trade" 1 (mVar 0))))
def f_is_provider : Fn := runF 3 3 b_is_provider
def b_law_trade : M Fl := (mSeq (mPar3 2 false 3 true 4 true (psCons (mOp gAdd (mC (.int 2)) (mCallO f_law_taken 0 0 (aOwn 0 (aCons (mOp gMinus (mVar 1) (mC (.int 1))) aNil)))) (psCons (mLst aNil) (psCons (mLst aNil) psNil))))
    (mSeq (mAsg (mOp gGt (mCallO f_law_taken 0 0 (aOwn 0 (aCons (mC (.int 3)) aNil))) (mC (.int 0))) (gmName 5))
    (mSeq (mFor (iRange1 (aCons (mVar 2) aNil)) (gmName 6) (mFor (iRange2 (aCons (mOp gAdd (mVar 6) (mC (.int 1))) (aCons (mVar 2) aNil))) (gmName 7) (mSeq (mAsg (mCallO f_law_taken 0 0 (aOwn 0 (aCons (mC (.int 5)) aNil))) (gmName 8))
    (mSeq (mAsg (mIf (mOr (mTruth (mVar 5)) (mTest (mOp gEq (mCallO f_law_taken 0 0 (aOwn 0 (aCons (mC (.int 2)) aNil))) (mC (.int 0))))) (mTup (aCons (mVar 6) (aCons (mVar 7) aNil))) (mTup (aCons (mVar 7) (aCons (mVar 6) aNil)))) (gmName 9))
    (mIfS (mTest (mOp gLt (mVar 8) (mC (.int 2)))) (mDrop (mMeth1 3 gApp (mVar 9))) (mIfS (mTest (mOp gEq (mVar 8) (mC (.int 2)))) (mDrop (mMeth1 4 gApp (mVar 9))) mNx))))))
    (mSeq (mPar2 10 true 11 true (psCons (mLstRg (mVar 2)) (psCons (mLst aNil) psNil)))
    (mSeq (mFor (iRange1 (aCons (mVar 2) aNil)) (gmName 12) (mDrop (mMeth1 11 gApp (mMeth1 10 gPopAt (mCallO f_law_taken 0 0 (aOwn 0 (aCons (mLenO 10) aNil)))))))
    (mSeq (mAsgO 3 (mCB gTuple (aCons (mLc (iSeq (mVar 3)) (gmTup 2 (gmCons (gmName 6) (gmCons (gmName 7) gmNil))) mYes (mTup (aCons (mIxO 11 (mVar 6)) (aCons (mIxO 11 (mVar 7)) aNil))) [6, 7]) aNil)))
    (mRet (mTup (aCons (mVar 2) (aCons (mVar 3) (aCons (mCB gTuple (aCons (mLc (iSeq (mVar 4)) (gmTup 2 (gmCons (gmName 6) (gmCons (gmName 7) gmNil))) mYes (mTup (aCons (mIxO 11 (mVar 6)) (aCons (mIxO 11 (mVar 7)) aNil))) [6, 7]) aNil)) aNil)))))))))))
def f_law_trade : Fn := runF 2 13 b_law_trade
def b_law_kinds : M Fl := (mSeq (mAsgO 1 (mDnew))
    (mSeq (mFor (iSeq (mOp gIx (mVar 0) (mC (.int 1)))) (gmTup 2 (gmCons (gmName 2) (gmCons (gmName 3) gmNil))) (mAsg (mTup (aCons (mC (.str "customer")) (aCons (mC (.str "provider")) aNil))) (gmTup 2 (gmCons (gmItemD 1 (mTup (aCons (mVar 2) (aCons (mVar 3) aNil)))) (gmCons (gmItemD 1 (mTup (aCons (mVar 3) (aCons (mVar 2) aNil)))) gmNil)))))
    (mSeq (mFor (iSeq (mOp gIx (mVar 0) (mC (.int 2)))) (gmTup 2 (gmCons (gmName 2) (gmCons (gmName 3) gmNil))) (mAsg (mTup (aCons (mC (.str "peer")) (aCons (mC (.str "peer")) aNil))) (gmTup 2 (gmCons (gmItemD 1 (mTup (aCons (mVar 2) (aCons (mVar 3) aNil)))) (gmCons (gmItemD 1 (mTup (aCons (mVar 3) (aCons (mVar 2) aNil)))) gmNil)))))
    (mRetO 1))))
def f_law_kinds : Fn := runF 1 4 b_law_kinds
def b_Trade_init : M Fl := (mSeq (mIfS (mNot (mTest (mCall f_is_number (aCons (mVar 1) (aCons (mC (.int 1)) (aCons (mC (.int 8)) aNil)))))) mSt mNx)
    (mSeq (mIfS (mOr (mNot (mTest (mCall f_is_tuple (aCons (mVar 2) (aCons (mC (.int 0)) (aCons (mC (.int 56)) aNil)))))) (mNot (mTest (mCall f_is_tuple (aCons (mVar 3) (aCons (mC (.int 0)) (aCons (mC (.int 56)) aNil))))))) mSt mNx)
    (mSeq (mAsgO 4 (mLst aNil))
    (mSeq (mFor (iEnu (aCons (mOp gAdd (mVar 2) (mVar 3)) aNil)) (gmTup 2 (gmCons (gmName 5) (gmCons (gmName 6) gmNil))) (mSeq (mIfS (mOr (mNot (mTest (mCall f_is_pair (aCons (mVar 1) (aCons (mVar 6) aNil))))) (mTest (mOpR gIn (mCB gSortI (aCons (mVar 6) aNil)) 4))) mSt mNx)
    (mDrop (mMeth1 4 gApp (mCB gSortI (aCons (mVar 6) aNil))))))
    (mSeq (mSetF "Trade" 0 0 (mVar 1))
    (mSeq (mSetF "Trade" 1 0 (mVar 2))
    (mSetF "Trade" 2 0 (mVar 3))))))))
def f_Trade_init : Fn := runF 4 7 b_Trade_init
end Fx.Lib
/-! what stays of some nodes when those without a head among them go, again and again; walks among what stays -/
namespace Fx.Ring
/-- unlike numbers below n are at most n -/
theorem nodup_le : ∀ {n : Nat} {W : List Nat}, W.Nodup → (∀ v ∈ W, v < n) → W.length ≤ n
  | 0, W, _, h => by
    cases W with
    | nil => exact Nat.le_refl _
    | cons v W => exact absurd (h v List.mem_cons_self) (Nat.not_lt_zero _)
  | n + 1, W, nd, h => by
    have k := nodup_le (n := n) (W := W.erase n) (nd.erase n) fun v hv => by
      have hm : v ∈ W := List.mem_of_mem_erase hv
      have hn : v ≠ n := fun e => by
        rw [e, nd.mem_erase_iff] at hv
        exact hv.1 rfl
      have := h v hm
      omega
    rw [List.length_erase] at k
    split at k <;> omega
def ends (h : Nat → List Nat) (L : List Nat) : List Nat := L.filter fun v => !((h v).any fun w => decide (w ∈ L))
section
variable {h : Nat → List Nat}
/-- a walk among L, unlike but for its last node -/
structure Wk (h : Nat → List Nat) (L W : List Nat) : Prop where
  ne : W ≠ []
  sub : ∀ v ∈ W, v ∈ L
  step : ∀ (i v w : Nat), W[i]? = some v → W[i + 1]? = some w → w ∈ h v
  nd : W.dropLast.Nodup
theorem Wk.one {L : List Nat} {v : Nat} (hv : v ∈ L) : Wk h L [v] := ⟨by simp, fun w hw => by rw [List.mem_singleton.mp hw]; exact hv, fun i a b _ e => by simp at e, by simp⟩
theorem count_last {W : List Nat} {x : Nat} (nd : W.Nodup) : (W ++ [x]).count x = 1 ↔ (W ++ [x]).Nodup := by
  rw [List.count_append, List.count_singleton_self]
  constructor
  · intro e
    have h0 : W.count x = 0 := by omega
    refine List.nodup_append.mpr ⟨nd, by simp, fun a ha b hb => ?_⟩
    rw [List.mem_singleton.mp hb]
    rintro rfl
    exact List.count_eq_zero.mp h0 ha
  · intro e
    have : x ∉ W := fun hx => (List.nodup_append.mp e).2.2 x hx x (by simp) rfl
    rw [List.count_eq_zero.mpr this]
theorem Wk.snoc {L W : List Nat} {x y : Nat} (k : Wk h L (W ++ [x])) (e : (W ++ [x]).count x = 1) (hy : y ∈ h x) (hL : y ∈ L) : Wk h L (W ++ [x] ++ [y]) := by
  have nd : W.Nodup := by simpa using k.nd
  refine ⟨by simp, fun v hv => ?_, fun i v w e1 e2 => ?_, ?_⟩
  · rcases List.mem_append.mp hv with z | z
    · exact k.sub v z
    · rw [List.mem_singleton.mp z]
      exact hL
  · by_cases hi : i + 1 < (W ++ [x]).length
    · rw [List.getElem?_append_left (by omega)] at e1
      rw [List.getElem?_append_left hi] at e2
      exact k.step i v w e1 e2
    · have h2 : i + 1 < (W ++ [x] ++ [y]).length := (List.getElem?_eq_some_iff.mp e2).1
      simp only [List.length_append, List.length_cons, List.length_nil] at hi h2
      have ei : i = W.length := by omega
      subst ei
      have e3 : v = x := by simpa using e1.symm
      have e4 : w = y := by
        have : (W ++ [x] ++ [y])[W.length + 1]? = some y := by simp
        rw [this] at e2
        exact (Option.some.inj e2).symm
      rw [e3, e4]
      exact hy
  · rw [List.dropLast_concat]
    exact (count_last nd).mp e
theorem Wk.len {L W : List Nat} {n : Nat} (k : Wk h L W) (hL : ∀ v ∈ L, v < n) : W.length ≤ n + 1 := by
  have := nodup_le k.nd fun v hv => hL v (k.sub v ((List.dropLast_sublist W).subset hv))
  rw [List.length_dropLast] at this
  omega
end
end Fx.Ring
/-! a ring among nodes by their heads -/
namespace Fx.Lib
open PySem Nl Ring
end Fx.Lib
/-! loops, draws -/
namespace Fx.Nl
open PySem Lib
section
variable {ρ : En} {i j k r : Nat} {o b : Option Nat} {t : Bool} {x y : D} {xs ds : List D} {fa fb fe ff fs fm : M S} {fA : M (List D)} {ft : M Bool} {F G : M Fl} {PF : Fl → En → Prop} {I : Nat → En → Prop} {gm : D → M Unit}
abbrev LP (I : En → Prop) (PF : Fl → En → Prop) : Fl → En → Prop := fun f ρ2 => (f = .nx ∨ f = .ct → I ρ2) ∧ (f = .bk → PF .nx ρ2) ∧ ∀ s, f = .rt s → PF (.rt s) ρ2
theorem fin {I A : Prop} {B : S → Prop} (h : I) : (Fl.nx = .nx ∨ Fl.nx = .ct → I) ∧ (Fl.nx = .bk → A) ∧ ∀ s, Fl.nx = .rt s → B s := ⟨fun _ => h, fun z => (nomatch z), fun _ z => (nomatch z)⟩
theorem finR {s : S} {I A : Prop} {B : S → Prop} (h : B s) : (Fl.rt s = .nx ∨ Fl.rt s = .ct → I) ∧ (Fl.rt s = .bk → A) ∧ ∀ s', Fl.rt s = .rt s' → B s' := ⟨fun z => z.elim (fun z => (nomatch z)) fun z => (nomatch z), fun z => (nomatch z), fun s' z => by cases z; exact h⟩
/-- for x in range(n) -/
theorem forR {n : Nat} (h : EvA fA ρ [.int (n : Nat)]) (hn : n ≤ 1000000) (i0 : I 0 ρ) (st : ∀ k ρ, k < n → I k ρ → OK (F (ρ.set i (some (.d (.int (k : Nat)))))) (LP (I (k + 1)) PF)) (e : ∀ ρ, I n ρ → PF .nx ρ) : OK (mFor (iRange1 fA) (gmName i) F ρ) PF := by
  rw [ok_for]
  refine range1 h hn (ok_loop (I := I) (k := 0) i0 (fun q x ρ hx hI => ?_) fun ρ hI => e ρ (by rw [intsFrom_length, Nat.zero_add] at hI; exact hI))
  rw [Nat.zero_add] at hI ⊢
  obtain ⟨rfl, hq⟩ := intsFrom_at hx
  rw [ok_gname]
  exact st q ρ hq hI
theorem intsLo : ∀ {n : Nat} {lo : Int} {i : Nat} {x : D}, (intsFrom lo n)[i]? = some x → x = .int (lo + i) ∧ i < n
  | 0, _, _, _, h => by simp [intsFrom] at h
  | n + 1, lo, 0, x, h => by
    unfold intsFrom at h
    simp at h
    exact ⟨by rw [← h]; simp, Nat.zero_lt_succ _⟩
  | n + 1, lo, i + 1, x, h => by
    unfold intsFrom at h
    obtain ⟨h1, h2⟩ := intsLo (n := n) (lo := lo + 1) (i := i) (by simpa using h)
    refine ⟨?_, by omega⟩
    rw [h1]
    congr 1
    omega
theorem range2 {lo hi : Nat} {P : List D → En → Prop} (h : EvA fA ρ [.int (lo : Nat), .int (hi : Nat)]) (h1 : lo ≤ 1000000) (h2 : hi ≤ 1000000) (q : P (intsFrom (lo : Nat) (hi - lo)) ρ) : OK (iRange2 fA ρ) P := by
  unfold iRange2
  rw [ok_then]
  refine h.ok ?_
  show OK (if rOk (lo : Nat) && rOk (hi : Nat) then Out.ok (intsFrom (lo : Nat) ((hi : Int) - (lo : Int)).toNat) ρ else .stuck) P
  rw [if_pos (by rw [rOk_iff.mpr ⟨by omega, by omega⟩, rOk_iff.mpr ⟨by omega, by omega⟩]; rfl), ok_ok, show ((hi : Int) - (lo : Int)).toNat = hi - lo by omega]
  exact q
/-- for x in range(lo, hi) -/
theorem forR2 {lo hi : Nat} (h : EvA fA ρ [.int (lo : Nat), .int (hi : Nat)]) (hlo : lo ≤ hi) (hn : hi ≤ 1000000) (i0 : I lo ρ) (st : ∀ v ρ, lo ≤ v → v < hi → I v ρ → OK (F (ρ.set i (some (.d (.int (v : Nat)))))) (LP (I (v + 1)) PF)) (e : ∀ ρ, I hi ρ → PF .nx ρ) : OK (mFor (iRange2 fA) (gmName i) F ρ) PF := by
  rw [ok_for]
  refine range2 h (by omega) hn (ok_loop (I := I) (k := lo) i0 (fun q x ρ hx hI => ?_) fun ρ hI => e ρ (by rw [intsFrom_length, show lo + (hi - lo) = hi by omega] at hI; exact hI))
  obtain ⟨rfl, hq⟩ := intsLo hx
  rw [ok_gname]
  have e : (lo : Int) + (q : Int) = ((lo + q : Nat) : Int) := by omega
  rw [e]
  exact st (lo + q) ρ (by omega) (by omega) hI
theorem forR2g {lo hi : Nat} (h : EvA fA ρ [.int (lo : Nat), .int (hi : Nat)]) (hlo : lo ≤ 1000000) (hn : hi ≤ 1000000) (i0 : I lo ρ) (st : ∀ v ρ, lo ≤ v → v < hi → I v ρ → OK (F (ρ.set i (some (.d (.int (v : Nat)))))) (LP (I (v + 1)) PF)) (e : ∀ ρ, I (max lo hi) ρ → PF .nx ρ) : OK (mFor (iRange2 fA) (gmName i) F ρ) PF := by
  rw [ok_for]
  refine range2 h hlo hn (ok_loop (I := I) (k := lo) i0 (fun q x ρ hx hI => ?_) fun ρ hI => e ρ (by rw [intsFrom_length, show lo + (hi - lo) = max lo hi by omega] at hI; exact hI))
  obtain ⟨rfl, hq⟩ := intsLo hx
  rw [ok_gname]
  have e : (lo : Int) + (q : Int) = ((lo + q : Nat) : Int) := by omega
  rw [e]
  exact st (lo + q) ρ (by omega) (by omega) hI
/-- for t in xs -/
theorem forL (h : Ev fs ρ x) (hx : itemsD x = some ds) (i0 : I 0 ρ) (st : ∀ k y ρ, ds[k]? = some y → I k ρ → OK (gm y ρ) fun _ ρ1 => OK (F ρ1) (LP (I (k + 1)) PF)) (e : ∀ ρ, I ds.length ρ → PF .nx ρ) : OK (mFor (iSeq fs) gm F ρ) PF := by
  rw [ok_for, ok_iseq]
  refine h.dv ⟨ds, hx, ok_loop (I := I) (k := 0) i0 (fun q x ρ hx hI => ?_) fun ρ hI => e ρ (by rw [Nat.zero_add] at hI; exact hI)⟩
  rw [Nat.zero_add] at hI ⊢
  exact st q x ρ hx hI
/-- x = a draw -/
theorem tkA {a c d : Int} {ns : List Int} {m : Nat} (e : ρ[r]? = some (rowS o ns a c d)) (hr : RowOk a c d) (hm : Ev fm ρ (.int (m : Nat))) (h1 : 0 < m) (h2 : m ≤ 1000000)
    (q : ∀ (v : Nat) a c d, v < m → RowOk a c d → PF .nx ((ρ.set r (rowS o ns a c d)).set i (some (.d (.int (v : Nat)))))) : OK (mAsg (mCallO Lib.f_law_taken r 0 (aOwn r (aCons fm aNil))) (gmName i) ρ) PF := by
  rw [ok_asg, ok_dv]
  refine ok_taken e hr (hm.dv ⟨rfl, rfl⟩) (by omega) (by omega) fun v a c d v0 v1 h => ?_
  refine ⟨_, rfl, ?_⟩
  rw [ok_gname]
  have := q v.toNat a c d (by omega) h
  rw [Int.toNat_of_nonneg v0] at this
  exact this
/-- a draw within an expression -/
theorem tk {a c d : Int} {ns : List Int} {m : Nat} {P : D → En → Prop} (e : ρ[r]? = some (rowS o ns a c d)) (hr : RowOk a c d) (hm : Ev fm ρ (.int (m : Nat))) (h1 : 0 < m) (h2 : m ≤ 1000000)
    (q : ∀ (v : Nat) a c d, v < m → RowOk a c d → P (.int (v : Nat)) (ρ.set r (rowS o ns a c d))) : OK (dv (mCallO Lib.f_law_taken r 0 (aOwn r (aCons fm aNil))) ρ) P := by
  rw [ok_dv]
  refine ok_taken e hr (hm.dv ⟨rfl, rfl⟩) (by omega) (by omega) fun v a c d v0 v1 h => ?_
  refine ⟨_, rfl, ?_⟩
  have := q v.toNat a c d (by omega) h
  rw [Int.toNat_of_nonneg v0] at this
  exact this
theorem addN {a c : Nat} (ha : Ev fa ρ (.int (a : Nat))) (hb : Ev fb ρ (.int (c : Nat))) : Ev (mOp gAdd fa fb) ρ (.int ((a + c : Nat) : Int)) := by
  rw [Int.natCast_add]
  exact ev_add ha hb
theorem add1 {a : Nat} (ha : Ev fa ρ (.int (a : Nat))) : Ev (mOp gAdd fa (mC (.int 1))) ρ (.int ((a + 1 : Nat) : Int)) := by
  rw [Int.natCast_add]
  exact ev_add ha ev_c
theorem sub1 {a : Nat} (ha : Ev fa ρ (.int (a : Nat))) (h : 1 ≤ a) : Ev (mOp gMinus fa (mC (.int 1))) ρ (.int ((a - 1 : Nat) : Int)) := ev_op ha ev_c (by
  show some (S.d (.int ((a : Int) - 1))) = _
  rw [show (a : Int) - 1 = ((a - 1 : Nat) : Int) by omega])
theorem lenO (e : peek ρ i = some (.lst xs)) : Ev (mLenO i) ρ (.int (xs.length : Nat)) := ev_of (by
  unfold mLenO
  rw [e]
  dsimp only
  rw [ok_ok]
  exact ⟨rfl, rfl⟩)
theorem lstRg {n : Nat} (h : Ev fe ρ (.int (n : Nat))) (hn : n ≤ 1000000) : OK (mLstRg fe ρ) fun s ρ1 => s = .o none (.lst (nl (List.range n))) ∧ ρ1 = ρ := by
  unfold mLstRg
  rw [ok_then]
  refine h.dv ?_
  dsimp only
  rw [if_pos (show rgOk (n : Nat) = true from by unfold rgOk; first | exact decide_eq_true (by omega) | (simp; omega)), ok_ok, Int.toNat_natCast, ints_nl]
  exact ⟨rfl, rfl⟩
theorem erase_map {α β : Type} (f : α → β) : ∀ (L : List α) (v : Nat), (L.map f).eraseIdx v = (L.eraseIdx v).map f
  | [], _ => by simp
  | a :: L, 0 => by simp
  | a :: L, v + 1 => by simp [erase_map f L v]
theorem get_erase {α : Type} : ∀ {L : List α} {v : Nat} (hv : v < L.length), (L[v] :: L.eraseIdx v).Perm L
  | [], _, hv => absurd hv (Nat.not_lt_zero _)
  | a :: L, 0, _ => .refl _
  | a :: L, v + 1, hv => by
    have hv' : v < L.length := by simpa using hv
    show (L[v] :: a :: L.eraseIdx v).Perm (a :: L)
    exact (List.Perm.swap _ _ _).trans (List.Perm.cons a (get_erase hv'))
/-- x.pop(k) of numbers -/
theorem popN {L : List Nat} {P : S → En → Prop} (e : ρ[i]? = some (some (.o o (.lst (nl L))))) (hl : L.length ≤ 1000) (h : OK (dv fe ρ) fun y ρ1 => ∃ (v : Nat) (hv : v < L.length), y = .int (v : Nat) ∧ ρ1[i]? = some (some (.o o (.lst (nl L)))) ∧ P (.d (.int (L[v] : Nat))) (ρ1.set i (some (.o o (.lst (nl (L.eraseIdx v))))))) : OK (mMeth1 i gPopAt fe ρ) P := by
  unfold mMeth1
  have ho : ownL ρ i = true := by
    unfold ownL
    rw [e]
  rw [if_pos ho, ok_then]
  refine h.imp fun y ρ1 ⟨v, hv, ey, e1, q⟩ => ?_
  subst ey
  rw [e1]
  dsimp only
  have e2 : gPopAt (nl L) (.int (v : Nat)) = some (.int (L[v] : Nat), nl (L.eraseIdx v)) := by
    unfold gPopAt
    dsimp only
    rw [if_pos ⟨by omega, by rw [nl_len]; omega⟩, Int.toNat_natCast, nl_get (List.getElem?_eq_getElem hv)]
    dsimp only
    rw [if_pos (show small (nl L).length = true from decide_eq_true (by rw [nl_len]; omega)), nl, erase_map]
  rw [e2]
  exact ok_of q
/-- x.append(e), e with effects -/
theorem appM {PF : Fl → En → Prop} (e : ρ[i]? = some (some (.o o (.lst xs)))) (hl : xs.length ≤ 1000000) (h : OK (dv fe ρ) fun y ρ1 => ρ1[i]? = some (some (.o o (.lst xs))) ∧ PF .nx (ρ1.set i (some (.o o (.lst (xs ++ [y])))))) : OK (mDrop (mMeth1 i gApp fe) ρ) PF := by
  rw [ok_drop]
  exact ok_app e (h.imp fun y ρ1 ⟨e1, q⟩ => ⟨e1, decide_eq_true (by omega), q⟩)
theorem perm_pop {α : Type} {L N R : List α} {v : Nat} (h : (N ++ L).Perm R) (hv : v < L.length) : (N ++ [L[v]] ++ L.eraseIdx v).Perm R := by
  refine List.Perm.trans ?_ h
  rw [List.append_assoc]
  refine List.Perm.append_left N ?_
  show (L[v] :: L.eraseIdx v).Perm L
  exact get_erase hv
/-- [e for i, j in pairs if t] -/
theorem lcP {items : List (Nat × Nat)} {t : Nat × Nat → Bool} {f : Nat × Nat → D} {PL : List D → En → Prop} (hij : i ≠ j) (h1 : ρ.set i none = ρ) (h2 : ρ.set j none = ρ) (st : ∀ p ∈ items, EvB ft ((ρ.set i (some (.d (.int (p.1 : Nat))))).set j (some (.d (.int (p.2 : Nat))))) (t p)) (sv : ∀ p ∈ items, t p = true → Ev fe ((ρ.set i (some (.d (.int (p.1 : Nat))))).set j (some (.d (.int (p.2 : Nat))))) (f p))
    (hs : items.length ≤ 1000000) (q : PL ((items.filter t).map f) ρ) : OK (mComp (gmTup 2 (gmCons (gmName i) (gmCons (gmName j) gmNil))) ft fe [i, j] (items.map arcD) [] ρ) PL := by
  have hw : ∀ x y : Option S, wipeE ((ρ.set i x).set j y) [i, j] = ρ := fun x y => by
    show ((((ρ.set i x).set j y).set j none).set i none) = ρ
    rw [List.set_set, List.set_comm _ _ hij, h2, List.set_set, h1]
  refine ok_comp (I := fun k a ρ' => a = ((items.take k).filter t).map f ∧ ρ' = ρ) (k := 0) ⟨by simp, rfl⟩ ?_ ?_
  · rintro k x a ρ' hx ⟨rfl, rfl⟩
    rw [Nat.zero_add]
    obtain ⟨p, hp, rfl⟩ : ∃ p, items[k]? = some p ∧ arcD p = x := by
      rw [List.getElem?_map] at hx
      exact Option.map_eq_some_iff.mp hx
    have hk : k < items.length := (List.getElem?_eq_some_iff.mp hp).1
    have hle : ((items.take k).filter t).length ≤ k := Nat.le_trans (List.length_filter_le _ _) (by rw [List.length_take]; omega)
    have e : ((items.take (k + 1)).filter t).map f = ((items.take k).filter t).map f ++ (if t p then [f p] else []) := by
      rw [List.take_add_one, hp, List.filter_append, List.map_append]
      congr 1
      show (List.filter t [p]).map f = _
      rw [List.filter_cons, List.filter_nil]
      split <;> rfl
    refine @ok_gtup2 _ _ _ _ _ _ ?_
    have hm := List.mem_of_getElem? hp
    refine (st p hm).ok ⟨fun h => ?_, fun h => ?_⟩
    · refine (sv p hm h).dv ⟨?_, ?_, hw _ _⟩
      · rw [List.length_map]
        exact decide_eq_true (by omega)
      · rw [e, if_pos h]
    · refine ⟨?_, hw _ _⟩
      rw [e, if_neg h, List.append_nil]
  · rintro a ρ' ⟨rfl, rfl⟩
    rw [Nat.zero_add, List.length_map, List.take_length]
    exact q
/-- for i, y in enumerate(xs) -/
theorem forE (h : EvA fA ρ [x]) (hx : itemsD x = some ds) (i0 : I 0 ρ) (st : ∀ k y ρ, ds[k]? = some y → I k ρ → OK (F ((ρ.set i (some (.d (.int (k : Nat))))).set j (some (.d y)))) (LP (I (k + 1)) PF)) (e : ∀ ρ, I ds.length ρ → PF .nx ρ) : OK (mFor (iEnu fA) (gmTup 2 (gmCons (gmName i) (gmCons (gmName j) gmNil))) F ρ) PF := by
  rw [ok_for]
  refine ok_ienu (h.ok ⟨x, ds, rfl, hx, ?_⟩)
  refine ok_loop (I := I) (k := 0) i0 (fun q z ρ hz hI => ?_) fun ρ hI => e ρ (by rw [enumD_length, Nat.zero_add] at hI; exact hI)
  rw [Nat.zero_add] at hI ⊢
  obtain ⟨d, hd, rfl⟩ := enumD_at hz
  refine @ok_gtup2 _ _ _ _ _ _ ?_
  exact st q d ρ hd hI
theorem opR {g : D → D → Option S} {t : Bool} (e : ρ[i]? = some (some (.o o y))) (hc : canFz y = true) (ha : Ev fa ρ x) (eg : g x y = some (.d (.bl t))) : Ev (mOpR g fa i) ρ (.bl t) := by
  unfold Ev
  rw [ok_dv]
  unfold mOpR
  rw [ok_then]
  refine ha.dv ?_
  have el : lendD ρ i = some y := by
    unfold lendD
    rw [e]
    dsimp only
    rw [if_pos hc]
  rw [el]
  dsimp only
  rw [eg]
  dsimp only
  rw [ok_ok]
  exact ⟨_, rfl, rfl, rfl⟩
theorem evNum {v lo hi : Int} (h : EvA fA ρ [.int v, .int lo, .int hi]) : Ev (mCall f_is_number fA) ρ (.bl (decide (lo ≤ v) && decide (v ≤ hi))) := ev_call h ((num (o := some v)).mpr rfl)
theorem evTup {lo hi : Int} (h : EvA fA ρ [.tup ds, .int lo, .int hi]) : Ev (mCall f_is_tuple fA) ρ (.bl (decide (lo ≤ ds.length) && decide ((ds.length : Int) ≤ hi))) := ev_call h (tup.mpr rfl)
theorem evNums {L : List Int} {lo hi : Int} (h : EvA fA ρ [.tup (L.map D.int), .int lo, .int hi]) (hl : L.length ≤ 1000000) : Ev (mCall f_are_numbers fA) ρ (.bl (L.all fun v => decide (lo ≤ v) && decide (v ≤ hi))) := by
  have e : L.map D.int = (L.map some).map oD := by
    rw [List.map_map]
    rfl
  rw [e] at h
  refine ev_call h (nums (by rw [List.length_map]; omega) ?_)
  rw [List.all_map]
  rfl
theorem setF {n : String} {b : Option Nat} (h : Ev fe ρ x) (e : ρ[k]? = some (some (.o b (.ins n ds)))) (hl : ds.length = i) (q : PF .nx (ρ.set k (some (.o b (.ins n (ds ++ [x])))))) : OK (mSetF n i k fe ρ) PF := ok_setF (h.dv ⟨b, ds, e, hl, q⟩)
theorem filtI {fI : M (List D)} {L : List Nat} {t : Nat → Bool} (hI : OK (fI ρ) fun items ρ1 => items = nl L ∧ ρ1 = ρ) (hk : k < ρ.length) (hw : ρ.set k none = ρ) (st : ∀ v ∈ L, EvB ft (ρ.set k (some (.d (.int (v : Nat))))) (t v)) (hs : L.length ≤ 1000000) : Ev (mLc fI (gmName k) ft (mVar k) [k]) ρ (.lst (nl (L.filter t))) := by
  unfold Ev
  rw [ok_dv, ok_lc]
  refine hI.imp fun items ρ1 ⟨e1, e2⟩ => ?_
  subst e1
  rw [e2]
  have ew : wipeE ρ [k] = ρ := hw
  rw [ew]
  refine ok_filt (t := fun d => match d with | .int i => t i.toNat | _ => false) hk hw (fun d hd => ?_) (by rw [nl_len]; omega) ?_
  · obtain ⟨v, hv, rfl⟩ := List.mem_map.mp hd
    exact st v hv
  · have e2 : (nl L).filter (fun d => match d with | .int i => t i.toNat | _ => false) = nl (L.filter t) := by
      rw [List.filter_map]
      rfl
    rw [e2]
    exact ⟨_, rfl, rfl, rfl⟩
/-- t[i:i + 2] -/
theorem sl2 {fl fh : M S} {L : List Nat} {i v w : Nat} (ha : Ev fa ρ (.tup (nl L))) (hl : Ev fl ρ (.int (i : Nat))) (hh : Ev fh ρ (.int ((i + 2 : Nat) : Int))) (e1 : L[i]? = some v) (e2 : L[i + 1]? = some w) : Ev (mSl fa (oSome fl) (oSome fh)) ρ (arcD (v, w)) := ev_of (by
  have hi : i + 1 < L.length := (List.getElem?_eq_some_iff.mp e2).1
  refine ok_sl (ha.dv ?_)
  refine ok_osome (hl.dv ⟨_, rfl, ?_⟩)
  refine ok_osome (hh.dv ⟨_, rfl, .d (arcD (v, w)), ?_, rfl, rfl⟩)
  show some (S.d (.tup (cutD (nl L) (some (i : Nat)) (some ((i + 2 : Nat) : Int))))) = _
  have e : cutD (nl L) (some (i : Nat)) (some ((i + 2 : Nat) : Int)) = [.int (v : Nat), .int (w : Nat)] := by
    unfold cutD
    have k1 : HT.sIx (nl L).length 0 (some (i : Int)) = i := by
      show (if (i : Int) < 0 then ((nl L).length + (i : Int)).toNat else min (i : Int).toNat (nl L).length) = _
      rw [if_neg (by omega), nl_len, Int.toNat_natCast, Nat.min_eq_left (by omega)]
    have k2 : HT.sIx (nl L).length (nl L).length (some ((i + 2 : Nat) : Int)) = i + 2 := by
      show (if ((i + 2 : Nat) : Int) < 0 then ((nl L).length + ((i + 2 : Nat) : Int)).toNat else min ((i + 2 : Nat) : Int).toNat (nl L).length) = _
      rw [if_neg (by omega), nl_len, Int.toNat_natCast, Nat.min_eq_left (by omega)]
    rw [k1, k2, show i + 2 - i = 2 by omega, ← List.map_drop, ← List.map_take]
    have e3 : (L.drop i).take 2 = [v, w] := by
      refine List.ext_getElem? fun j => ?_
      rw [List.getElem?_take]
      split
      · rw [List.getElem?_drop]
        rename_i hj
        match j, hj with
        | 0, _ => simpa using e1
        | 1, _ => simpa using e2
      · rename_i hj
        rw [List.getElem?_eq_none (by simp; omega)]
    rw [e3]
    rfl
  rw [e]
  rfl)
theorem zipOk_al : ∀ {xs ys : List D}, ys.all isIntD = true → zipOk xs ys = true
  | [], _, _ => by cases ‹List D› <;> rfl
  | _ :: _, [], _ => rfl
  | x :: xs, y :: ys, h => by
    have h' := List.all_cons ▸ h
    simp only [Bool.and_eq_true] at h'
    have ih := zipOk_al (xs := xs) (ys := ys) h'.2
    unfold zipOk at ih ⊢
    simp only [zipD, List.all_cons, Bool.and_eq_true]
    refine ⟨?_, ih⟩
    have e : pairy y = false := by cases y <;> first | rfl | simp [isIntD] at h'
    simp [arcy, e]
theorem zipD_nl : ∀ {L M : List Nat}, zipD (nl L) (nl M) = (L.zip M).map arcD
  | [], M => by cases M <;> rfl
  | _ :: _, [] => rfl
  | a :: L, b :: M => by
    show D.tup [.int a, .int b] :: zipD (nl L) (nl M) = _
    rw [zipD_nl]
    rfl
/-- zip of two tuples of numbers -/
theorem zipN {L M : List Nat} {P : List D → En → Prop} (ha : Ev fa ρ (.tup (nl L))) (hb : Ev fb ρ (.tup (nl M))) (q : P ((L.zip M).map arcD) ρ) : OK (iZip' (aCons fa (aCons fb aNil)) ρ) P := by
  have hz : zipOk (nl L) (nl M) = true := zipOk_al (by
    rw [List.all_map]
    exact List.all_eq_true.mpr fun _ _ => rfl)
  unfold iZip'
  rw [ok_then]
  refine (ea_cons ha (ea_cons hb ea_nil)).ok ?_
  show OK (if zipOk (nl L) (nl M) = true then Out.ok (zipD (nl L) (nl M)) ρ else Out.stuck) P
  rw [if_pos hz, ok_ok, zipD_nl]
  exact q
theorem evAll {bs : List Bool} (h : Ev fa ρ (.lst (bs.map D.bl))) : Ev (mCB gAll (aCons fa aNil)) ρ (.bl (bs.all id)) := by
  refine ev_cb (ea_cons h ea_nil) ?_
  obtain ⟨s, h1, h2⟩ := (e_all (bs := bs) (K := fun s => s = .d (.bl (bs.all id)))).mpr rfl
  rw [h1, h2]
theorem evAny {bs : List Bool} (h : Ev fa ρ (.lst (bs.map D.bl))) : Ev (mCB gAny (aCons fa aNil)) ρ (.bl (bs.any id)) := by
  refine ev_cb (ea_cons h ea_nil) ?_
  obtain ⟨s, h1, h2⟩ := (e_any (bs := bs) (K := fun s => s = .d (.bl (bs.any id)))).mpr rfl
  rw [h1, h2]
/-- [f(v) for v in nodes] -/
theorem mapI {fI : M (List D)} {L : List Nat} {f : Nat → D} (hI : OK (fI ρ) fun items ρ1 => items = nl L ∧ ρ1 = ρ) (hw : ρ.set k none = ρ) (st : ∀ v ∈ L, Ev fe (ρ.set k (some (.d (.int (v : Nat))))) (f v)) (hs : L.length ≤ 1000000) : Ev (mLc fI (gmName k) mYes fe [k]) ρ (.lst (L.map f)) := by
  unfold Ev
  rw [ok_dv, ok_lc]
  refine hI.imp fun items ρ1 ⟨e1, e2⟩ => ?_
  subst e1
  rw [e2]
  have ew : wipeE ρ [k] = ρ := hw
  rw [ew]
  refine ok_map (f := fun d => match d with | .int i => f i.toNat | _ => .non) hw (fun d hd => ?_) (by rw [nl_len]; omega) ?_
  · obtain ⟨v, hv, rfl⟩ := List.mem_map.mp hd
    refine (st v hv).dv ⟨rfl, ?_⟩
    rw [List.set_set, hw]
  · have e2 : (nl L).map (fun d => match d with | .int i => f i.toNat | _ => .non) = L.map f := by
      rw [List.map_map]
      rfl
    rw [e2]
    exact ⟨_, rfl, rfl, rfl⟩
theorem lenT (h : Ev fa ρ (.tup ds)) : Ev (mCB gLen (aCons fa aNil)) ρ (.int (ds.length : Nat)) := ev_cb (ea_cons h ea_nil) rfl
theorem lenN {L : List Nat} (h : Ev fa ρ (.tup (nl L))) : Ev (mCB gLen (aCons fa aNil)) ρ (.int (L.length : Nat)) := by
  have := lenT h
  rw [nl_len] at this
  exact this
theorem ixN {L : List Nat} {i v : Nat} (ha : Ev fa ρ (.tup (nl L))) (hb : Ev fb ρ (.int (i : Nat))) (e : L[i]? = some v) : Ev (mOp gIx fa fb) ρ (.int (v : Nat)) := ev_ixT ha hb (nl_get e)
theorem evNumsN {L : List Nat} {hi : Nat} (h : EvA fA ρ [.tup (nl L), .int (0 : Nat), .int (hi : Nat)]) (hl : L.length ≤ 1000000) : Ev (mCall f_are_numbers fA) ρ (.bl (L.all fun v => decide (v ≤ hi))) := by
  have e : nl L = (L.map fun v : Nat => (v : Int)).map D.int := by
    rw [List.map_map]
    rfl
  rw [e] at h
  have := evNums h (by rw [List.length_map]; exact hl)
  rw [List.all_map] at this
  have e2 : (L.all ((fun v : Int => decide (((0 : Nat) : Int) ≤ v) && decide (v ≤ (hi : Nat))) ∘ fun v : Nat => (v : Int))) = L.all fun v => decide (v ≤ hi) := by
    congr 1
    funext v
    show (decide (((0 : Nat) : Int) ≤ (v : Int)) && decide ((v : Int) ≤ (hi : Nat))) = _
    rw [decide_eq_true (by omega), Bool.true_and, Bool.eq_iff_iff, decide_eq_true_iff, decide_eq_true_iff]
    omega
  rw [e2] at this
  exact this
theorem uniq_nd {L : List Nat} (nd : L.Nodup) : (Rw.uniq (L.map fun v : Nat => (v : Int))).length = L.length := by
  have s := Rw.srt_uniq (L.map fun v : Nat => (v : Int))
  have p : (Rw.uniq (L.map fun v : Nat => (v : Int))).Perm (L.map fun v : Nat => (v : Int)) := by
    refine (List.perm_ext_iff_of_nodup ?_ ?_).mpr fun a => ?_
    · exact List.Pairwise.imp (fun {a b} h => Int.ne_of_lt h) s.1
    · refine List.pairwise_map.mpr (List.Pairwise.imp (fun {a b} h => ?_) nd)
      exact fun e => h (by omega)
    · exact s.2 a
  rw [p.length_eq, List.length_map]
/-- t[1:] -/
theorem tailN {L : List Nat} {i : Nat} (ha : Ev fa ρ (.tup (nl L))) (hb : Ev fb ρ (.int (i : Nat))) : Ev (mSl fa (oSome fb) oNone) ρ (.tup (nl (L.drop i))) := ev_of (by
  refine ok_sl (ha.dv (ok_osome (hb.dv ⟨_, rfl, ?_⟩)))
  rw [ok_onone]
  refine ⟨.d (.tup (nl (L.drop i))), ?_, rfl, rfl⟩
  show some (S.d (.tup (cutD (nl L) (some (i : Nat)) none))) = _
  rw [cutD_from (by omega), Int.toNat_natCast, ← List.map_drop])
theorem ints_from (lo n : Nat) : intsFrom (lo : Nat) n = nl ((List.range n).map fun i => lo + i) := by
  refine List.ext_getElem? fun i => ?_
  rw [List.getElem?_map, List.getElem?_map]
  by_cases h : i < n
  · rw [intsFrom_get n (lo : Nat) i h, List.getElem?_range h]
    show some (D.int ((lo : Int) + (i : Int))) = some (D.int ((lo + i : Nat) : Int))
    rw [Int.natCast_add]
  · rw [List.getElem?_eq_none (by rw [intsFrom_length]; omega), List.getElem?_eq_none (by rw [List.length_range]; omega)]
    rfl
theorem okF_of {f : Out S} {s : S} {ρ : En} {K : S → Prop} (e : f = .ok s ρ) (k : K s) : OKF f K := by
  rw [e, okF, ok_ok]
  exact k
theorem ints_apart (n : Nat) : (intsFrom 0 n).Pairwise (fun x y => keyEq y x = false) := by
  rw [List.pairwise_iff_getElem]
  intro a b ha hb hab
  rw [intsFrom_length] at ha hb
  have e1 := intsFrom_get n 0 a ha
  have e2 := intsFrom_get n 0 b hb
  rw [List.getElem?_eq_getElem (by rw [intsFrom_length]; exact ha)] at e1
  rw [List.getElem?_eq_getElem (by rw [intsFrom_length]; exact hb)] at e2
  rw [Option.some.inj e1, Option.some.inj e2]
  show decide ((0 : Int) + (b : Int) = 0 + (a : Int)) = false
  rw [decide_eq_false_iff_not]
  omega
/-- {v: f(v) for v in nodes} -/
theorem dcN {n k : Nat} {fI : M (List D)} {fv : M S} {f : Nat → D} (hI : OK (fI ρ) fun items ρ1 => items = intsFrom 0 n ∧ ρ1 = ρ) (hn : n ≤ 1000000) (hw : ρ.set k none = ρ) (hk : k < ρ.length) (hf : ∀ v, v < n → Ev fv (ρ.set k (some (.d (.int (v : Nat))))) (f v)) : Ev (mDc fI (gmName k) mYes (mVar k) fv [k]) ρ (.dct (intsFrom 0 n) ((List.range n).map f)) := by
  unfold Ev
  rw [ok_dv]
  unfold mDc
  rw [ok_then]
  refine hI.imp fun items ρ1 ⟨e1, e2⟩ => ?_
  subst e1
  rw [e2]
  have ew : wipeE ρ [k] = ρ := hw
  rw [ew, ok_then]
  have e : (intsFrom 0 n).map (fun d => match d with | .int i => f i.toNat | _ => .non) = (List.range n).map f := by
    rw [ints_nl, List.map_map]
    rfl
  refine ok_dcomp (vf := fun d => match d with | .int i => f i.toNat | _ => .non) (.inl rfl) (fun x hx => ?_) rfl (fun z _ => rfl) (ints_apart n) (by rw [intsFrom_length]; simp; omega) (fun x hx => ?_) (fun x hx => ?_) ?_
  · rw [ints_nl] at hx
    obtain ⟨v, _, rfl⟩ := List.mem_map.mp hx
    rfl
  · exact ev_var k (by rw [List.getElem?_set_self hk])
  · rw [ints_nl] at hx
    obtain ⟨v, hv, rfl⟩ := List.mem_map.mp hx
    refine (hf v (List.mem_range.mp hv)).dv ⟨rfl, ?_⟩
    rw [List.set_set, hw]
  · rw [ok_ok, e]
    exact ⟨_, rfl, rfl, rfl⟩
end
end Fx.Nl
/-! trades on data: drawn -/
namespace Fx.Lib
open PySem Nl
/-- unlike as pairs without order -/
def apart (p q : Nat × Nat) : Prop := ¬(p.1 = q.1 ∧ p.2 = q.2) ∧ ¬(p.1 = q.2 ∧ p.2 = q.1)
theorem apart.symm {p q : Nat × Nat} (h : apart p q) : apart q p := ⟨fun ⟨a, b⟩ => h.1 ⟨a.symm, b.symm⟩, fun ⟨a, b⟩ => h.2 ⟨b.symm, a.symm⟩⟩
structure OkTrade (n : Nat) (C P : List (Nat × Nat)) : Prop where
  rng : ∀ p, p ∈ C ∨ p ∈ P → p.1 < n ∧ p.2 < n ∧ p.1 ≠ p.2
  c : C.Pairwise apart
  p : P.Pairwise apart
  cp : ∀ x ∈ C, ∀ y ∈ P, apart x y
theorem OkTrade.nil {n : Nat} : OkTrade n [] [] := ⟨fun p h => by simp at h, .nil, .nil, fun x h => by simp at h⟩
theorem OkTrade.addC {n : Nat} {C P : List (Nat × Nat)} {q : Nat × Nat} (o : OkTrade n C P) (hq : q.1 < n ∧ q.2 < n ∧ q.1 ≠ q.2) (ha : ∀ p, p ∈ C ∨ p ∈ P → apart p q) : OkTrade n (C ++ [q]) P where
  rng := fun p hp => by
    rcases hp with hp | hp
    · rcases List.mem_append.mp hp with z | z
      · exact o.rng p (.inl z)
      · rw [List.mem_singleton.mp z]; exact hq
    · exact o.rng p (.inr hp)
  c := List.pairwise_append.mpr ⟨o.c, List.pairwise_singleton _ _, fun x hx y hy => by rw [List.mem_singleton.mp hy]; exact ha x (.inl hx)⟩
  p := o.p
  cp := fun x hx y hy => by
    rcases List.mem_append.mp hx with z | z
    · exact o.cp x z y hy
    · rw [List.mem_singleton.mp z]; exact (ha y (.inr hy)).symm
theorem OkTrade.addP {n : Nat} {C P : List (Nat × Nat)} {q : Nat × Nat} (o : OkTrade n C P) (hq : q.1 < n ∧ q.2 < n ∧ q.1 ≠ q.2) (ha : ∀ p, p ∈ C ∨ p ∈ P → apart p q) : OkTrade n C (P ++ [q]) where
  rng := fun p hp => by
    rcases hp with hp | hp
    · exact o.rng p (.inl hp)
    · rcases List.mem_append.mp hp with z | z
      · exact o.rng p (.inr z)
      · rw [List.mem_singleton.mp z]; exact hq
  c := o.c
  p := List.pairwise_append.mpr ⟨o.p, List.pairwise_singleton _ _, fun x hx y hy => by rw [List.mem_singleton.mp hy]; exact ha x (.inr hx)⟩
  cp := fun x hx y hy => by
    rcases List.mem_append.mp hy with z | z
    · exact o.cp x hx y z
    · rw [List.mem_singleton.mp z]; exact ha x (.inl hx)
def ren (N : List Nat) (p : Nat × Nat) : Nat × Nat := (N.getD p.1 0, N.getD p.2 0)
theorem ren_get {n : Nat} {N : List Nat} (hN : N.Perm (List.range n)) {i : Nat} (hi : i < n) : N[i]? = some (N.getD i 0) ∧ N.getD i 0 < n := by
  have hl : N.length = n := by rw [hN.length_eq, List.length_range]
  have e : N[i]? = some (N[i]'(by omega)) := List.getElem?_eq_getElem _
  refine ⟨?_, ?_⟩
  · rw [List.getD_eq_getElem?_getD, e]; rfl
  · rw [List.getD_eq_getElem?_getD, e]
    exact List.mem_range.mp (hN.subset (List.getElem_mem (by omega)))
theorem ren_inj {n : Nat} {N : List Nat} (hN : N.Perm (List.range n)) {i j : Nat} (hi : i < n) (hj : j < n) (e : N.getD i 0 = N.getD j 0) : i = j := by
  have nd : N.Nodup := hN.nodup_iff.mpr List.nodup_range
  have hl : N.length = n := by rw [hN.length_eq, List.length_range]
  have e1 := (ren_get hN hi).1
  have e2 := (ren_get hN hj).1
  rw [e] at e1
  have q : N[i]? = N[j]? := by rw [e1, e2]
  exact (List.getElem?_inj (by omega) nd).mp q
theorem OkTrade.ren {n : Nat} {C P : List (Nat × Nat)} {N : List Nat} (o : OkTrade n C P) (hN : N.Perm (List.range n)) : OkTrade n (C.map (Lib.ren N)) (P.map (Lib.ren N)) := by
  have ap : ∀ p q : Nat × Nat, p.1 < n → p.2 < n → q.1 < n → q.2 < n → apart p q → apart (Lib.ren N p) (Lib.ren N q) := fun p q h1 h2 h3 h4 h => ⟨fun ⟨a, b⟩ => h.1 ⟨ren_inj hN h1 h3 a, ren_inj hN h2 h4 b⟩, fun ⟨a, b⟩ => h.2 ⟨ren_inj hN h1 h4 a, ren_inj hN h2 h3 b⟩⟩
  have rg : ∀ p, p ∈ C ∨ p ∈ P → (Lib.ren N p).1 < n ∧ (Lib.ren N p).2 < n ∧ (Lib.ren N p).1 ≠ (Lib.ren N p).2 := fun p hp => by
    obtain ⟨h1, h2, h3⟩ := o.rng p hp
    exact ⟨(ren_get hN h1).2, (ren_get hN h2).2, fun e => h3 (ren_inj hN h1 h2 e)⟩
  refine ⟨fun p hp => ?_, ?_, ?_, fun x hx y hy => ?_⟩
  · rcases hp with hp | hp
    · obtain ⟨q, hq, rfl⟩ := List.mem_map.mp hp
      exact rg q (.inl hq)
    · obtain ⟨q, hq, rfl⟩ := List.mem_map.mp hp
      exact rg q (.inr hq)
  · rw [List.pairwise_map]
    refine List.Pairwise.imp_of_mem (fun {a b} ha hb h => ?_) o.c
    obtain ⟨h1, h2, _⟩ := o.rng a (.inl ha)
    obtain ⟨h3, h4, _⟩ := o.rng b (.inl hb)
    exact ap a b h1 h2 h3 h4 h
  · rw [List.pairwise_map]
    refine List.Pairwise.imp_of_mem (fun {a b} ha hb h => ?_) o.p
    obtain ⟨h1, h2, _⟩ := o.rng a (.inr ha)
    obtain ⟨h3, h4, _⟩ := o.rng b (.inr hb)
    exact ap a b h1 h2 h3 h4 h
  · obtain ⟨a, ha, rfl⟩ := List.mem_map.mp hx
    obtain ⟨b, hb, rfl⟩ := List.mem_map.mp hy
    obtain ⟨h1, h2, _⟩ := o.rng a (.inl ha)
    obtain ⟨h3, h4, _⟩ := o.rng b (.inr hb)
    exact ap a b h1 h2 h3 h4 (o.cp a ha b hb)
/-- pairs drawn ahead of (i, j) -/
def ahead (i j : Nat) (p : Nat × Nat) : Prop := (p.1 < p.2 ∧ (p.1 < i ∨ (p.1 = i ∧ p.2 < j))) ∨ (p.2 < p.1 ∧ (p.2 < i ∨ (p.2 = i ∧ p.1 < j)))
theorem ahead.apart {i j : Nat} {p q : Nat × Nat} (h : ahead i j p) (hij : i < j) (hq : q = (i, j) ∨ q = (j, i)) : Lib.apart p q := by
  unfold ahead at h
  unfold Lib.apart
  rcases hq with rfl | rfl <;> dsimp only <;> omega
theorem ahead.next {i j : Nat} {p : Nat × Nat} (h : ahead i j p) : ahead i (j + 1) p := by
  unfold ahead at h ⊢
  omega
theorem ahead.this {i j : Nat} {q : Nat × Nat} (hij : i < j) (hq : q = (i, j) ∨ q = (j, i)) : ahead i (j + 1) q := by
  unfold ahead
  rcases hq with rfl | rfl <;> dsimp only <;> omega
theorem ev_ixOn {ρ : En} {i : Nat} {b : Option Nat} {L : List Nat} {k : Nat} {fe : M S} {v : Nat} (e1 : ρ[i]? = some (some (.o b (.lst (nl L))))) (hb : Ev fe ρ (.int (k : Nat))) (e : L[k]? = some v) : Ev (mIxO i fe) ρ (.int (v : Nat)) := ev_ixO e1 hb (nl_get e)
theorem tr_rest {n i j w : Nat} {C P : List (Nat × Nat)} {q : Nat × Nat} {x0 x1 x2 x5 x6 x7 x10 x11 x12 : Option S} {PF : Fl → En → Prop} (o : OkTrade n C P) (ha : ∀ p, p ∈ C ∨ p ∈ P → ahead i j p) (hij : i < j) (hj : j < n) (hq : q = (i, j) ∨ q = (j, i)) (sz : C.length + P.length ≤ 1000)
    (k : ∀ C' P' : List (Nat × Nat), OkTrade n C' P' → (∀ p, p ∈ C' ∨ p ∈ P' → ahead i (j + 1) p) → C'.length + P'.length ≤ C.length + P.length + 1 → PF .nx [x0, x1, x2, some (.o none (.lst (C'.map arcD))), some (.o none (.lst (P'.map arcD))), x5, x6, x7, some (.d (.int (w : Nat))), some (.d (arcD q)), x10, x11, x12]) :
    OK (mIfS (mTest (mOp gLt (mVar 8) (mC (.int 2)))) (mDrop (mMeth1 3 gApp (mVar 9))) (mIfS (mTest (mOp gEq (mVar 8) (mC (.int 2)))) (mDrop (mMeth1 4 gApp (mVar 9))) mNx) [x0, x1, x2, some (.o none (.lst (C.map arcD))), some (.o none (.lst (P.map arcD))), x5, x6, x7, some (.d (.int (w : Nat))), some (.d (arcD q)), x10, x11, x12]) PF := by
  have hr : q.1 < n ∧ q.2 < n ∧ q.1 ≠ q.2 := by rcases hq with rfl | rfl <;> dsimp only <;> omega
  have ap : ∀ p, p ∈ C ∨ p ∈ P → apart p q := fun p hp => (ha p hp).apart hij hq
  have nx : ∀ p, p ∈ C ∨ p ∈ P → ahead i (j + 1) p := fun p hp => (ha p hp).next
  refine ifB (eb_test (ev_lt (ev_var 8 rfl) ev_c)) (fun _ => ?_) fun _ => ifB (eb_test (ev_eq (ev_var 8 rfl) ev_c)) (fun _ => ?_) fun _ => ?_
  · refine appE rfl (ev_var 9 rfl) (by rw [List.length_map]; omega) ?_
    have := k (C ++ [q]) P (o.addC hr ap) (fun p hp => ?_) (by rw [List.length_append]; simp only [List.length_cons, List.length_nil]; omega)
    · rw [List.map_append] at this
      exact this
    · rcases hp with hp | hp
      · rcases List.mem_append.mp hp with z | z
        · exact nx p (.inl z)
        · rw [List.mem_singleton.mp z]; exact ahead.this hij hq
      · exact nx p (.inr hp)
  · refine appE rfl (ev_var 9 rfl) (by rw [List.length_map]; omega) ?_
    have := k C (P ++ [q]) (o.addP hr ap) (fun p hp => ?_) (by rw [List.length_append]; simp only [List.length_cons, List.length_nil]; omega)
    · rw [List.map_append] at this
      exact this
    · rcases hp with hp | hp
      · exact nx p (.inl hp)
      · rcases List.mem_append.mp hp with z | z
        · exact nx p (.inr z)
        · rw [List.mem_singleton.mp z]; exact ahead.this hij hq
  · rw [ok_nx]
    exact k C P o nx (by omega)
/-- the names of pairs, in a comprehension -/
theorem renE {n : Nat} {N : List Nat} {C : List (Nat × Nat)} {ρ : En} {PL : List D → En → Prop} (hN : N.Perm (List.range n)) (hC : ∀ p ∈ C, p.1 < n ∧ p.2 < n) (hs : C.length ≤ 1000) (h6 : ρ.set 6 none = ρ) (h7 : ρ.set 7 none = ρ) (h11 : ρ[11]? = some (some (.o none (.lst (nl N))))) (q : PL ((C.map (ren N)).map arcD) ρ) :
    OK (mComp (gmTup 2 (gmCons (gmName 6) (gmCons (gmName 7) gmNil))) mYes (mTup (aCons (mIxO 11 (mVar 6)) (aCons (mIxO 11 (mVar 7)) aNil))) [6, 7] (C.map arcD) [] ρ) PL := by
  have l11 := (List.getElem?_eq_some_iff.mp h11).1
  refine lcP (t := fun _ => true) (f := fun p => arcD (ren N p)) (by decide) h6 h7 (fun p _ => ?_) (fun p hp _ => ?_) (by omega) ?_
  · unfold EvB
    rw [ok_yes]
    exact ⟨rfl, rfl⟩
  · obtain ⟨r1, r2⟩ := hC p hp
    have e6 : ((ρ.set 6 (some (.d (.int (p.1 : Nat))))).set 7 (some (.d (.int (p.2 : Nat)))))[6]? = some (some (.d (.int (p.1 : Nat)))) := by
      rw [List.getElem?_set_ne (by decide), List.getElem?_set_self (by omega)]
    have e7 : ((ρ.set 6 (some (.d (.int (p.1 : Nat))))).set 7 (some (.d (.int (p.2 : Nat)))))[7]? = some (some (.d (.int (p.2 : Nat)))) := by
      rw [List.getElem?_set_self (by rw [List.length_set]; omega)]
    have e11 : ((ρ.set 6 (some (.d (.int (p.1 : Nat))))).set 7 (some (.d (.int (p.2 : Nat)))))[11]? = some (some (.o none (.lst (nl N)))) := by
      rw [List.getElem?_set_ne (by decide), List.getElem?_set_ne (by decide), h11]
    exact ev_tup (ea_cons (ev_ixOn e11 (ev_var 6 e6) (ren_get hN r1).1) (ea_cons (ev_ixOn e11 (ev_var 7 e7) (ren_get hN r2).1) ea_nil))
  · have e : C.filter (fun _ => true) = C := List.filter_eq_self.mpr fun _ _ => rfl
    rw [e]
    rw [List.map_map] at q
    exact q
theorem law_trade {ns : List Int} {a b c : Int} {most : Nat} (h : RowOk a b c) (h1 : 2 ≤ most) (h2 : most ≤ 7) :
    OK (f_law_trade [.o (some 0) (rowD ns a b c), .d (.int (most : Nat))]) fun s ρ => ∃ (n : Nat) (C P : List (Nat × Nat)) (a b c : Int), s = .d (.tup [.int (n : Nat), .tup (C.map arcD), .tup (P.map arcD)]) ∧ 2 ≤ n ∧ n ≤ most ∧ OkTrade n C P ∧ C.length + P.length ≤ n * n ∧ RowOk a b c ∧ ∃ ρ', ρ = some (.o (some 0) (rowD ns a b c)) :: ρ' := by
  unfold f_law_trade
  refine ok_runF rfl ?_
  show OK (b_law_trade [rowS (some 0) ns a b c, some (.d (.int (most : Nat))), none, none, none, none, none, none, none, none, none, none, none]) _
  unfold b_law_trade
  refine sq (ok_par3 ?_)
  rw [ok_psCons, ok_op]
  refine ev_c.dv (tk (m := most - 1) rfl h (sub1 (ev_var 1 rfl) (by omega)) (by omega) (by omega) fun v a b c hv h => ⟨_, rfl, ?_⟩)
  rw [ok_psCons, ok_lst]
  refine ea_nil.ok ⟨rfl, ?_⟩
  rw [ok_psCons, ok_lst]
  refine ea_nil.ok ⟨rfl, ?_⟩
  rw [ok_psNil]
  refine ⟨_, _, _, _, _, _, rfl, rfl, rfl, rfl, rfl, ?_⟩
  simp only [List.set_cons_succ, List.set_cons_zero]
  rw [show (2 : Int) + (v : Int) = ((2 + v : Nat) : Int) by omega]
  obtain ⟨n, en⟩ : ∃ n, n = 2 + v := ⟨_, rfl⟩
  rw [← en]
  have n2 : 2 ≤ n := by omega
  have n7 : n ≤ most := by omega
  clear en hv v
  -- is_flat
  refine sq ?_
  rw [ok_asg, ok_dv, ok_op]
  refine tk (m := 3) rfl h ev_c (by decide) (by decide) fun f a b c _ h => ev_c.dv ⟨_, rfl, _, rfl, ?_⟩
  rw [ok_gname]
  refine ⟨rfl, ?_⟩
  simp only [List.set_cons_succ, List.set_cons_zero]
  generalize decide ((0 : Int) < (f : Int)) = flat
  -- pairs
  refine sq (forR (n := n) (I := fun i ρ => ∃ (C P : List (Nat × Nat)) (a b c : Int) (x6 x7 x8 x9 : Option S), RowOk a b c ∧ OkTrade n C P ∧ (∀ p, p ∈ C ∨ p ∈ P → ahead i 0 p) ∧ C.length + P.length ≤ i * n ∧ ρ = [rowS (some 0) ns a b c, some (.d (.int (most : Nat))), some (.d (.int (n : Nat))), some (.o none (.lst (C.map arcD))), some (.o none (.lst (P.map arcD))), some (.d (.bl flat)), x6, x7, x8, x9, none, none, none]) (ea_cons (ev_var 2 rfl) ea_nil) (by omega) ⟨[], [], a, b, c, _, _, _, _, h, .nil, fun p hp => by simp at hp, by simp, rfl⟩ ?_ ?_)
  · clear h a b c
    rintro i _ hi ⟨C, P, a, b, c, x6, x7, x8, x9, h, o, ha, hl, rfl⟩
    simp only [List.set_cons_succ, List.set_cons_zero]
    refine forR2 (lo := i + 1) (hi := n) (I := fun j ρ => ∃ (C P : List (Nat × Nat)) (a b c : Int) (x7 x8 x9 : Option S), RowOk a b c ∧ OkTrade n C P ∧ (∀ p, p ∈ C ∨ p ∈ P → ahead i j p) ∧ C.length + P.length ≤ i * n + j ∧ ρ = [rowS (some 0) ns a b c, some (.d (.int (most : Nat))), some (.d (.int (n : Nat))), some (.o none (.lst (C.map arcD))), some (.o none (.lst (P.map arcD))), some (.d (.bl flat)), some (.d (.int (i : Nat))), x7, x8, x9, none, none, none]) (ea_cons (add1 (ev_var 6 rfl)) (ea_cons (ev_var 2 rfl) ea_nil)) (by omega) (by omega) ⟨C, P, a, b, c, _, _, _, h, o, fun p hp => ?_, by omega, rfl⟩ ?_ ?_
    · have := ha p hp
      unfold ahead at this ⊢
      omega
    · clear h a b c o ha hl C P
      rintro j _ hij hj ⟨C, P, a, b, c, x7, x8, x9, h, o, ha, hl, rfl⟩
      simp only [List.set_cons_succ, List.set_cons_zero]
      have sz : C.length + P.length ≤ 1000 := by
        have : i * n ≤ 7 * 7 := Nat.mul_le_mul (by omega) (by omega)
        omega
      refine sq (tkA (m := 5) rfl h ev_c (by decide) (by decide) fun w a b c hw h => ⟨rfl, ?_⟩)
      simp only [List.set_cons_succ, List.set_cons_zero]
      refine sq ?_
      rw [ok_asg, ok_dv, ok_if, ok_or]
      have tup : ∀ (a b c : Int) (x y : Nat) (k l : Nat), (k = 6 ∧ l = 7 ∧ x = i ∧ y = j ∨ k = 7 ∧ l = 6 ∧ x = j ∧ y = i) → EvA (aCons (mVar k) (aCons (mVar l) aNil)) [rowS (some 0) ns a b c, some (.d (.int (most : Nat))), some (.d (.int (n : Nat))), some (.o none (.lst (C.map arcD))), some (.o none (.lst (P.map arcD))), some (.d (.bl flat)), some (.d (.int (i : Nat))), some (.d (.int (j : Nat))), some (.d (.int (w : Nat))), x9, none, none, none] [.int (x : Nat), .int (y : Nat)] := fun a b c x y k l hk => by
        rcases hk with ⟨rfl, rfl, rfl, rfl⟩ | ⟨rfl, rfl, rfl, rfl⟩
        · exact ea_cons (ev_var 6 rfl) (ea_cons (ev_var 7 rfl) ea_nil)
        · exact ea_cons (ev_var 7 rfl) (ea_cons (ev_var 6 rfl) ea_nil)
      refine (eb_truth (ev_var 5 rfl) rfl).ok ⟨fun e => ⟨fun _ => ?_, fun z => absurd rfl z⟩, fun e => ?_⟩
      · rw [ok_tup]
        refine (tup a b c i j 6 7 (.inl ⟨rfl, rfl, rfl, rfl⟩)).ok ⟨rfl, _, rfl, ?_⟩
        rw [ok_gname]
        exact ⟨rfl, tr_rest (q := (i, j)) o ha (by omega) hj (.inl rfl) sz fun C' P' o' ha' hl' => fin ⟨C', P', a, b, c, _, _, _, h, o', ha', by omega, rfl⟩⟩
      · rw [ok_test, ok_dv, ok_op]
        refine tk (m := 2) rfl h ev_c (by decide) (by decide) fun u a b c _ h => ev_c.dv ⟨_, rfl, _, rfl, _, rfl, fun _ => ?_, fun _ => ?_⟩
        · rw [ok_tup]
          refine (tup a b c i j 6 7 (.inl ⟨rfl, rfl, rfl, rfl⟩)).ok ⟨rfl, _, rfl, ?_⟩
          rw [ok_gname]
          exact ⟨rfl, tr_rest (q := (i, j)) o ha (by omega) hj (.inl rfl) sz fun C' P' o' ha' hl' => fin ⟨C', P', a, b, c, _, _, _, h, o', ha', by omega, rfl⟩⟩
        · rw [ok_tup]
          refine (tup a b c j i 7 6 (.inr ⟨rfl, rfl, rfl, rfl⟩)).ok ⟨rfl, _, rfl, ?_⟩
          rw [ok_gname]
          exact ⟨rfl, tr_rest (q := (j, i)) o ha (by omega) hj (.inr rfl) sz fun C' P' o' ha' hl' => fin ⟨C', P', a, b, c, _, _, _, h, o', ha', by omega, rfl⟩⟩
    · rintro _ ⟨C, P, a, b, c, x7, x8, x9, h, o, ha, hl, rfl⟩
      refine fin ⟨C, P, a, b, c, _, _, _, _, h, o, fun p hp => ?_, by rw [Nat.succ_mul]; exact hl, rfl⟩
      have := ha p hp
      obtain ⟨r1, r2, _⟩ := o.rng p hp
      unfold ahead at this ⊢
      omega
  · clear h a b c
    rintro _ ⟨C, P, a, b, c, x6, x7, x8, x9, h, o, _, hl, rfl⟩
    refine ⟨rfl, ?_⟩
    have sz : C.length + P.length ≤ 1000 := by
      have : n * n ≤ 7 * 7 := Nat.mul_le_mul (by omega) (by omega)
      omega
    refine sq (ok_par2 ?_)
    rw [ok_psCons]
    refine (lstRg (ev_var 2 rfl) (by omega)).imp ?_
    rintro _ _ ⟨rfl, rfl⟩
    rw [ok_psCons, ok_lst]
    refine ea_nil.ok ⟨rfl, ?_⟩
    rw [ok_psNil]
    refine ⟨_, _, _, _, rfl, rfl, rfl, rfl, ?_⟩
    simp only [List.set_cons_succ, List.set_cons_zero]
    -- names
    refine sq (forR (n := n) (I := fun i ρ => ∃ (N L : List Nat) (a b c : Int) (x12 : Option S), RowOk a b c ∧ (N ++ L).Perm (List.range n) ∧ N.length = i ∧ ρ = [rowS (some 0) ns a b c, some (.d (.int (most : Nat))), some (.d (.int (n : Nat))), some (.o none (.lst (C.map arcD))), some (.o none (.lst (P.map arcD))), some (.d (.bl flat)), x6, x7, x8, x9, some (.o none (.lst (nl L))), some (.o none (.lst (nl N))), x12]) (ea_cons (ev_var 2 rfl) ea_nil) (by omega) ⟨[], List.range n, a, b, c, _, h, .refl _, rfl, rfl⟩ ?_ ?_)
    · clear h a b c
      rintro i _ hi ⟨N, L, a, b, c, x12, h, hp, hN, rfl⟩
      simp only [List.set_cons_succ, List.set_cons_zero]
      have hl : N.length + L.length = n := by
        have := hp.length_eq
        rw [List.length_append, List.length_range] at this
        exact this
      refine appM rfl (by rw [nl_len]; omega) ?_
      rw [ok_dv]
      refine popN rfl (by omega) ?_
      refine tk (m := L.length) rfl h (by have := lenO (ρ := [rowS (some 0) ns a b c, some (.d (.int (most : Nat))), some (.d (.int (n : Nat))), some (.o none (.lst (C.map arcD))), some (.o none (.lst (P.map arcD))), some (.d (.bl flat)), x6, x7, x8, x9, some (.o none (.lst (nl L))), some (.o none (.lst (nl N))), some (.d (.int (i : Nat)))]) (i := 10) (xs := nl L) rfl; rw [nl_len] at this; exact this) (by omega) (by omega) fun v a b c hv h => ⟨v, hv, rfl, rfl, _, rfl, rfl, ?_⟩
      refine fin ⟨N ++ [L[v]], L.eraseIdx v, a, b, c, some (.d (.int (i : Nat))), h, perm_pop hp hv, by rw [List.length_append, hN]; rfl, ?_⟩
      rw [nl_app]
      rfl
    · clear h a b c
      rintro _ ⟨N, L, a, b, c, x12, h, hp, hN, rfl⟩
      have eL : L = [] := by
        have := hp.length_eq
        rw [List.length_append, List.length_range] at this
        exact List.eq_nil_of_length_eq_zero (by omega)
      subst eL
      rw [List.append_nil] at hp
      refine ⟨rfl, ?_⟩
      have rC : ∀ p ∈ C, p.1 < n ∧ p.2 < n := fun p hp => ⟨(o.rng p (.inl hp)).1, (o.rng p (.inl hp)).2.1⟩
      have rP : ∀ p ∈ P, p.1 < n ∧ p.2 < n := fun p hp => ⟨(o.rng p (.inr hp)).1, (o.rng p (.inr hp)).2.1⟩
      refine sq ?_
      rw [ok_asgO, ok_cb, ok_cons, ok_dv, ok_lc, ok_iseq, ok_dv]
      refine ok_varZ rfl rfl ⟨_, rfl, _, rfl, ?_⟩
      refine renE hp rC (by omega) rfl rfl rfl ⟨_, rfl, ?_⟩
      rw [ok_nil]
      refine ⟨_, rfl, .inr ⟨_, rfl, rfl, ?_⟩⟩
      rw [ok_ret, ok_tup, ok_cons]
      refine (ev_var 2 rfl).dv ?_
      rw [ok_cons]
      refine (ev_var 3 rfl).dv ?_
      rw [ok_cons, ok_dv, ok_cb, ok_cons, ok_dv, ok_lc, ok_iseq, ok_dv]
      refine ok_varZ rfl rfl ⟨_, rfl, _, rfl, ?_⟩
      refine renE hp rP (by omega) rfl rfl rfl ⟨_, rfl, ?_⟩
      rw [ok_nil]
      refine ⟨_, rfl, _, rfl, ?_⟩
      rw [ok_nil]
      exact ⟨rfl, .inl ⟨_, rfl, n, _, _, a, b, c, rfl, n2, n7, o.ren hp, by rw [List.length_map, List.length_map]; exact hl, h, _, rfl⟩⟩
end Fx.Lib
/-! trades on data: made, their kinds -/
namespace Fx.Lib
open PySem Nl
def tradeD (n : Nat) (C P : List (Nat × Nat)) : D := .ins "Trade" [.int (n : Nat), .tup (C.map arcD), .tup (P.map arcD)]
def srt (p : Nat × Nat) : Nat × Nat := if p.1 ≤ p.2 then p else (p.2, p.1)
def ltD (p : Nat × Nat) : D := .lst [.int p.1, .int p.2]
theorem sort_pair {p : Nat × Nat} : gSortI [arcD p] = some (.o none (ltD (srt p))) := by
  obtain ⟨a, b⟩ := p
  have e : isort [(a : Int), (b : Int)] = [((srt (a, b)).1 : Int), ((srt (a, b)).2 : Int)] := by
    refine (isort_eq ?_ ?_).symm
    · unfold srt
      dsimp only
      split
      · exact .refl _
      · exact .swap _ _ _
    · unfold srt
      dsimp only
      split <;> simp <;> omega
  show (some [(a : Int), (b : Int)]).map (fun ns => S.o none (.lst ((isort ns).map D.int))) = _
  rw [Option.map_some, e]
  rfl
theorem apart_srt {p q : Nat × Nat} (h : apart p q) : srt p ≠ srt q := fun e => by
  unfold srt at e
  unfold apart at h
  obtain ⟨a, b⟩ := p
  obtain ⟨c, d⟩ := q
  dsimp only at *
  split at e <;> split at e <;> simp only [Prod.mk.injEq] at e <;> omega
theorem eqD_lt {p q : Nat × Nat} : eqD (ltD p) (ltD q) = decide (p = q) := by
  obtain ⟨a, b⟩ := p
  obtain ⟨x, y⟩ := q
  have e : eqD (ltD (a, b)) (ltD (x, y)) = (((a : Int) == (x : Int)) && (((b : Int) == (y : Int)) && true)) := by
    show PyData.eqv (toP (.lst [.int a, .int b])) (toP (.lst [.int x, .int y])) = _
    simp [toP, toPs, PyData.eqv, PyData.eqvAll]
  rw [e, Bool.and_true, Bool.eq_iff_iff]
  simp only [Bool.and_eq_true, beq_iff_eq, decide_eq_true_eq, Prod.mk.injEq]
  omega
theorem plA_lt : ∀ (ps : List (Nat × Nat)), plA 60 (ps.map ltD) = true
  | [] => rfl
  | p :: ps => by
    show (pl 60 (ltD p) && plA 60 (ps.map ltD)) = true
    rw [plA_lt ps]
    rfl
theorem in_lt {p : Nat × Nat} {ps : List (Nat × Nat)} : gIn (ltD p) (.lst (ps.map ltD)) = some (.d (.bl (decide (p ∈ ps)))) := by
  have e : inD (ltD p) (ps.map ltD) = decide (p ∈ ps) := by
    unfold inD
    rw [List.any_map, Bool.eq_iff_iff, List.any_eq_true, decide_eq_true_eq]
    constructor
    · rintro ⟨q, hq, h⟩
      have h : eqD (ltD q) (ltD p) = true := h
      rw [eqD_lt, decide_eq_true_eq] at h
      rw [← h]
      exact hq
    · intro h
      refine ⟨p, h, ?_⟩
      show eqD (ltD p) (ltD p) = true
      rw [eqD_lt]
      simp
  show (if (pl60 (ltD p) && plA 60 (ps.map ltD)) = true then ok1 (.bl (inD (ltD p) (ps.map ltD))) else none) = _
  rw [plA_lt, e]
  rfl
theorem is_pair {n : Nat} {p : Nat × Nat} (h1 : p.1 < n) (h2 : p.2 < n) (h3 : p.1 ≠ p.2) : OKF (f_is_pair [.d (.int (n : Nat)), .d (arcD p)]) fun s => s = .d (.bl true) := by
  rw [okF]
  unfold f_is_pair
  refine ok_runF rfl ?_
  show OK (b_is_pair [some (.d (.int (n : Nat))), some (.d (arcD p))]) _
  unfold b_is_pair
  rw [ok_ret]
  have e1 := evNums (L := [(p.1 : Int), (p.2 : Int)]) (lo := 0) (hi := ((n - 1 : Nat) : Int)) (ρ := [some (.d (.int (n : Nat))), some (.d (arcD p))]) (ea_cons (ev_var 1 rfl) (ea_cons ev_c (ea_cons (sub1 (ev_var 0 rfl) (by omega)) ea_nil))) (by simp)
  have t1 : ([(p.1 : Int), (p.2 : Int)].all fun v => decide (0 ≤ v) && decide (v ≤ ((n - 1 : Nat) : Int))) = true := by
    simp only [List.all_cons, List.all_nil, Bool.and_true, Bool.and_eq_true, decide_eq_true_eq]
    omega
  rw [t1] at e1
  have e2 := ev_eq (ev_cb (g := gLen) (z := .int 2) (ea_cons (ev_var (ρ := [some (.d (.int (n : Nat))), some (.d (arcD p))]) 1 rfl) ea_nil) rfl) (ev_c (x := .int 2))
  have e3 := ev_ne (ev_ixT (i := 0) (ev_var (ρ := [some (.d (.int (n : Nat))), some (.d (arcD p))]) (x := arcD p) 1 rfl) (ev_c (x := .int (0 : Nat))) rfl) (ev_ixT (i := 1) (ev_var (x := arcD p) 1 rfl) (ev_c (x := .int (1 : Nat))) rfl)
  have t3 : (!decide ((p.1 : Int) = (p.2 : Int))) = true := by
    rw [Bool.not_eq_true', decide_eq_false_iff_not]
    omega
  rw [t3] at e3
  refine (ev_and e1 (ev_and e2 e3)).raw.imp fun s ρ1 ⟨a, _⟩ => .inl ⟨s, rfl, ?_⟩
  exact toD_back a rfl
theorem madeT {n : Nat} {C P : List (Nat × Nat)} (o : OkTrade n C P) (h1 : 1 ≤ n) (h2 : n ≤ 8) (hC : C.length ≤ 56) (hP : P.length ≤ 56) :
    OK (f_Trade_init [.o (some 0) (.ins "Trade" []), .d (.int (n : Nat)), .d (.tup (C.map arcD)), .d (.tup (P.map arcD))]) fun s ρ => s = .d .non ∧ ρ[0]? = some (some (.o (some 0) (tradeD n C P))) := by
  unfold f_Trade_init
  refine ok_runF rfl ?_
  show OK (b_Trade_init [some (.o (some 0) (.ins "Trade" [])), some (.d (.int (n : Nat))), some (.d (.tup (C.map arcD))), some (.d (.tup (P.map arcD))), none, none, none]) _
  unfold b_Trade_init
  have tt : ∀ {m : Int} {lo hi : Int}, lo ≤ m → m ≤ hi → (decide (lo ≤ m) && decide (m ≤ hi)) = true := fun a b => by rw [decide_eq_true a, decide_eq_true b]; rfl
  refine sq (ifN (eb_not (b := true) (eb_test ?_)) ⟨rfl, ?_⟩)
  · have := evNum (v := (n : Nat)) (lo := 1) (hi := 8) (ρ := [some (.o (some 0) (.ins "Trade" [])), some (.d (.int (n : Nat))), some (.d (.tup (C.map arcD))), some (.d (.tup (P.map arcD))), none, none, none]) (ea_cons (ev_var 1 rfl) (ea_cons ev_c (ea_cons ev_c ea_nil)))
    rw [tt (by omega) (by omega)] at this
    exact this
  refine sq (ifN (eb_or (p := false) (q := false) (eb_not (b := true) (eb_test ?_)) fun _ => eb_not (b := true) (eb_test ?_)) ⟨rfl, ?_⟩)
  · have := evTup (ds := C.map arcD) (lo := 0) (hi := 56) (ρ := [some (.o (some 0) (.ins "Trade" [])), some (.d (.int (n : Nat))), some (.d (.tup (C.map arcD))), some (.d (.tup (P.map arcD))), none, none, none]) (ea_cons (ev_var 2 rfl) (ea_cons ev_c (ea_cons ev_c ea_nil)))
    rw [List.length_map, tt (by omega) (by omega)] at this
    exact this
  · have := evTup (ds := P.map arcD) (lo := 0) (hi := 56) (ρ := [some (.o (some 0) (.ins "Trade" [])), some (.d (.int (n : Nat))), some (.d (.tup (C.map arcD))), some (.d (.tup (P.map arcD))), none, none, none]) (ea_cons (ev_var 3 rfl) (ea_cons ev_c (ea_cons ev_c ea_nil)))
    rw [List.length_map, tt (by omega) (by omega)] at this
    exact this
  refine sq (asgL ea_nil rfl ⟨rfl, ?_⟩)
  simp only [List.set_cons_succ, List.set_cons_zero]
  have pw : (C ++ P).Pairwise apart := List.pairwise_append.mpr ⟨o.c, o.p, o.cp⟩
  have rg : ∀ p ∈ C ++ P, p.1 < n ∧ p.2 < n ∧ p.1 ≠ p.2 := fun p hp => o.rng p (List.mem_append.mp hp)
  have cat : Ev (mOp gAdd (mVar 2) (mVar 3)) [some (.o (some 0) (.ins "Trade" [])), some (.d (.int (n : Nat))), some (.d (.tup (C.map arcD))), some (.d (.tup (P.map arcD))), some (.o none (.lst [])), none, none] (.tup ((C ++ P).map arcD)) := ev_op (ev_var 2 rfl) (ev_var 3 rfl) (by
    show (if small ((C.map arcD).length + (P.map arcD).length) then some (S.d (.tup (C.map arcD ++ P.map arcD))) else none) = _
    rw [if_pos (show small ((C.map arcD).length + (P.map arcD).length) = true from decide_eq_true (by rw [List.length_map, List.length_map]; omega)), List.map_append])
  refine sq (forE (ds := (C ++ P).map arcD) (I := fun k ρ => ∃ x5 x6, ρ = [some (.o (some 0) (.ins "Trade" [])), some (.d (.int (n : Nat))), some (.d (.tup (C.map arcD))), some (.d (.tup (P.map arcD))), some (.o none (.lst ((((C ++ P).take k).map srt).map ltD))), x5, x6]) (ea_cons cat ea_nil) rfl ⟨_, _, rfl⟩ ?_ ?_)
  · rintro k y _ hy ⟨x5, x6, rfl⟩
    rw [List.getElem?_map] at hy
    obtain ⟨p, hp, rfl⟩ := Option.map_eq_some_iff.mp hy
    have hm := List.mem_of_getElem? hp
    have hk : k < (C ++ P).length := (List.getElem?_eq_some_iff.mp hp).1
    obtain ⟨r1, r2, r3⟩ := rg p hm
    simp only [List.set_cons_succ, List.set_cons_zero]
    have hin : srt p ∉ ((C ++ P).take k).map srt := fun hz => by
      obtain ⟨q, hq, e⟩ := List.mem_map.mp hz
      obtain ⟨i, hi⟩ := List.getElem?_of_mem hq
      have hik : i < k := by
        have := (List.getElem?_eq_some_iff.mp hi).1
        rw [List.length_take] at this
        omega
      rw [List.getElem?_take_of_lt hik] at hi
      rw [List.getElem?_eq_some_iff] at hi hp
      obtain ⟨i1, i2⟩ := hi
      obtain ⟨k1, k2⟩ := hp
      have := List.pairwise_iff_getElem.mp pw i k i1 k1 hik
      rw [i2, k2] at this
      exact apart_srt this e
    refine sq (ifN (eb_or (p := false) (q := false) (eb_not (b := true) (eb_test (ev_call (ea_cons (ev_var 1 rfl) (ea_cons (ev_var 6 rfl) ea_nil)) (is_pair r1 r2 r3)))) fun _ => eb_test ?_) ⟨rfl, ?_⟩)
    · have := opR (g := gIn) (i := 4) (fa := mCB gSortI (aCons (mVar 6) aNil)) (x := ltD (srt p)) (ρ := [some (.o (some 0) (.ins "Trade" [])), some (.d (.int (n : Nat))), some (.d (.tup (C.map arcD))), some (.d (.tup (P.map arcD))), some (.o none (.lst ((((C ++ P).take k).map srt).map ltD))), some (.d (.int (k : Nat))), some (.d (arcD p))]) rfl rfl (cbZ (ea_cons (ev_var 6 rfl) ea_nil) sort_pair rfl) in_lt
      rw [decide_eq_false hin] at this
      exact this
    · refine appE rfl (cbZ (ea_cons (ev_var 6 rfl) ea_nil) sort_pair rfl) ?_ (fin ⟨some (.d (.int (k : Nat))), some (.d (arcD p)), ?_⟩)
      · rw [List.length_map, List.length_map, List.length_take]
        have : (C ++ P).length ≤ 112 := by rw [List.length_append]; omega
        omega
      · rw [List.take_add_one, hp, List.map_append, List.map_append]
        rfl
  · rintro _ ⟨x5, x6, rfl⟩
    refine ⟨rfl, ?_⟩
    refine sq (setF (ev_var 1 rfl) rfl rfl ⟨rfl, ?_⟩)
    refine sq (setF (ev_var 2 rfl) rfl rfl ⟨rfl, ?_⟩)
    exact setF (ev_var 3 rfl) rfl rfl (.inr ⟨rfl, trivial, rfl⟩)
end Fx.Lib
/-! dicts from pairs of numbers, as lists of entries -/
namespace Fx.Nl
open PySem Lib
theorem keyEq_pair {p q : Nat × Nat} : keyEq (arcD p) (arcD q) = decide (p = q) := by
  have e : keyEq (arcD p) (arcD q) = NestedKey.beqAll [.num (p.1 : Int), .num (p.2 : Int)] [.num (q.1 : Int), .num (q.2 : Int)] := rfl
  rw [e]
  simp only [NestedKey.beqAll, NestedKey.beq, Bool.and_true]
  rw [Bool.eq_iff_iff]
  simp only [Bool.and_eq_true, decide_eq_true_eq]
  rw [Prod.ext_iff]
  omega
abbrev AL := List ((Nat × Nat) × D)
abbrev aks (kv : AL) : List D := kv.map fun e => arcD e.1
def adD (kv : AL) : D := .dct (aks kv) (kv.map (·.2))
def hasA (kv : AL) (p : Nat × Nat) : Bool := kv.any fun e => decide (p = e.1)
def putA (kv : AL) (p : Nat × Nat) (x : D) : AL := if hasA kv p then kv.map fun e => (e.1, if p = e.1 then x else e.2) else kv ++ [(p, x)]
def getA (kv : AL) (p : Nat × Nat) : Option D := (kv.find? fun e => decide (p = e.1)).map (·.2)
theorem aks_all {kv : AL} : (aks kv).all isKeyT = true := by
  rw [List.all_map, List.all_eq_true]
  exact fun e _ => rfl
theorem homogA {kv : AL} {p : Nat × Nat} : homog (aks kv) (arcD p) = true := homog_of (.inr rfl) aks_all rfl
theorem anyA {kv : AL} {p : Nat × Nat} : hasKey (aks kv) (arcD p) = hasA kv p := by
  unfold hasKey hasA
  rw [List.any_map]
  congr 1
  funext e
  exact keyEq_pair
theorem look_A {kv : AL} {p : Nat × Nat} : look (aks kv) (arcD p) (kv.map (·.2)) = getA kv p := by
  unfold look keyAt getA
  rw [List.findIdx?_map]
  have e : (keyEq (arcD p) ∘ fun e : (Nat × Nat) × D => arcD e.1) = fun e => decide (p = e.1) := by
    funext e
    exact keyEq_pair
  rw [e, find_at]
  cases kv.findIdx? fun e => decide (p = e.1) with
  | none => rfl
  | some i =>
    show (kv.map (·.2))[i]? = (kv[i]?).map (·.2)
    rw [List.getElem?_map]
theorem put_D {kv : AL} {p : Nat × Nat} {x : D} : (putKs (aks kv) (arcD p) (aks kv) (arcD p)) = aks (putA kv p x) ∧ putVs (aks kv) (arcD p) (kv.map (·.2)) x = (putA kv p x).map (·.2) := by
  unfold putKs putVs putA
  rw [anyA]
  cases hasA kv p with
  | true =>
    simp only [if_true, List.map_map]
    refine ⟨rfl, ?_⟩
    rw [List.zipWith_map, List.zipWith_self]
    refine List.map_congr_left fun e _ => ?_
    show (if keyEq (arcD p) (arcD e.1) = true then x else e.2) = if p = e.1 then x else e.2
    rw [keyEq_pair]
    simp only [decide_eq_true_eq]
  | false =>
    simp only [Bool.false_eq_true, if_false, List.map_append]
    exact ⟨rfl, rfl⟩
theorem len_put {kv : AL} {p : Nat × Nat} {x : D} : (putA kv p x).length ≤ kv.length + 1 := by
  unfold putA
  split
  · rw [List.length_map]; omega
  · rw [List.length_append]; simp
theorem get_put {kv : AL} {p q : Nat × Nat} {x : D} : getA (putA kv p x) q = if q = p then some x else getA kv q := by
  unfold putA getA
  split
  · rename_i h
    rw [List.find?_map]
    have e : ((fun e : (Nat × Nat) × D => decide (q = e.1)) ∘ fun e : (Nat × Nat) × D => (e.1, if p = e.1 then x else e.2)) = fun e => decide (q = e.1) := rfl
    rw [e, Option.map_map]
    by_cases hq : q = p
    · subst hq
      rw [if_pos rfl]
      obtain ⟨e, he, hp⟩ := List.any_eq_true.mp h
      cases z : kv.find? (fun e => decide (q = e.1)) with
      | none => exact absurd hp (by simpa using List.find?_eq_none.mp z e he)
      | some e' =>
        have := of_decide_eq_true (List.find?_some (p := fun e : (Nat × Nat) × D => decide (q = e.1)) z)
        show some (if q = e'.1 then x else e'.2) = _
        rw [if_pos this]
    · rw [if_neg hq]
      cases z : kv.find? (fun e => decide (q = e.1)) with
      | none => rfl
      | some e' =>
        have := of_decide_eq_true (List.find?_some (p := fun e : (Nat × Nat) × D => decide (q = e.1)) z)
        show some (if p = e'.1 then x else e'.2) = some e'.2
        rw [if_neg fun k => hq (this.trans k.symm)]
  · rename_i h
    rw [List.find?_append]
    by_cases hq : q = p
    · subst hq
      rw [if_pos rfl]
      have hn : kv.find? (fun e => decide (q = e.1)) = none := by
        rw [List.find?_eq_none]
        intro e he k
        exact h (List.any_eq_true.mpr ⟨e, he, k⟩)
      rw [hn, Option.none_or, List.find?_cons]
      simp
    · rw [if_neg hq, List.find?_cons]
      simp only [decide_eq_false hq, List.find?_nil, Option.or_none]
section
variable {ρ : En} {i : Nat} {b : Option Nat} {fe fx f1 f2 : M S} {x y : D} {kv : AL} {p q : Nat × Nat} {PU : Unit → En → Prop}
theorem gitemA (e1 : ρ[i]? = some (some (.o b (adD kv)))) (hb : Ev fe ρ (arcD p)) (hs : kv.length ≤ 1000000) (k : PU () (ρ.set i (some (.o b (adD (putA kv p x)))))) : OK (gmItemD i fe x ρ) PU := by
  have pk : peekD ρ i = true := by
    unfold peekD peek
    rw [e1]
    rfl
  unfold gmItemD
  rw [if_pos pk, ok_then]
  refine hb.dv ?_
  rw [e1]
  have hz : (homog (aks kv) (arcD p) && small ((aks kv).length + 1)) = true := by
    rw [homogA, List.length_map]
    exact decide_eq_true (by omega)
  show OK (if homog (aks kv) (arcD p) && small ((aks kv).length + 1) then Out.ok () (ρ.set i (some (.o b (.dct (putKs (aks kv) (arcD p) (aks kv) (arcD p)) (putVs (aks kv) (arcD p) (kv.map (·.2)) x))))) else .stuck) PU
  rw [if_pos hz, ok_ok, (put_D (x := x)).1, (put_D (x := x)).2]
  exact k
/-- a[p], a[q] = x, y -/
theorem gitem2A {ρ : En} (h : OK (gmItemD i f1 x ρ) fun _ ρ1 => OK (gmItemD i f2 y ρ1) PU) : OK (gmTup 2 (gmCons (gmItemD i f1) (gmCons (gmItemD i f2) gmNil)) (.tup [x, y]) ρ) PU := by
  show OK ((gmItemD i f1 x ρ).then fun _ ρ1 => (gmItemD i f2 y ρ1).then fun _ ρ2 => .ok () ρ2) PU
  rw [ok_then]
  refine h.imp fun _ ρ1 h => ?_
  rw [ok_then]
  refine h.imp fun _ ρ2 h => ?_
  rw [ok_ok]
  exact h
end
end Fx.Nl
/-! trades on data: their kinds, providers, rings of customers -/
namespace Fx.Lib
open PySem Nl Ring
def cust : D := .str "customer"
def prov : D := .str "provider"
def peer : D := .str "peer"
def putC (u v : D) (kv : AL) (p : Nat × Nat) : AL := putA (putA kv p u) (p.2, p.1) v
theorem len_foldK {u v : D} : ∀ {C : List (Nat × Nat)} {kv : AL}, (C.foldl (putC u v) kv).length ≤ kv.length + 2 * C.length
  | [], kv => by simp
  | p :: C, kv => by
    rw [List.foldl_cons]
    have h1 := len_foldK (u := u) (v := v) (C := C) (kv := putC u v kv p)
    have h2 := len_put (kv := kv) (p := p) (x := u)
    have h3 := len_put (kv := putA kv p u) (p := (p.2, p.1)) (x := v)
    unfold putC at h1
    rw [List.length_cons]
    unfold putC
    omega
theorem get_foldK {u v : D} : ∀ {C : List (Nat × Nat)} {kv : AL} {q : Nat × Nat}, (∀ p ∈ C, p.1 ≠ p.2) → C.Pairwise apart → getA (C.foldl (putC u v) kv) q = if q ∈ C then some u else if (q.2, q.1) ∈ C then some v else getA kv q
  | [], kv, q, _, _ => by simp
  | p :: C, kv, q, hn, hp => by
    rw [List.foldl_cons, get_foldK (fun z hz => hn z (List.mem_cons_of_mem _ hz)) (List.pairwise_cons.mp hp).2]
    have h0 := hn p List.mem_cons_self
    have h1 := (List.pairwise_cons.mp hp).1
    have n1 : p ∉ C := fun hz => (h1 p hz).1 ⟨rfl, rfl⟩
    have n2 : (p.2, p.1) ∉ C := fun hz => (h1 _ hz).2 ⟨rfl, rfl⟩
    unfold putC
    rw [get_put, get_put]
    by_cases e1 : q = p
    · subst e1
      rw [if_neg n1, if_neg n2, if_neg (fun e => h0 (by rw [Prod.ext_iff] at e; exact e.1)), if_pos rfl, if_pos List.mem_cons_self]
    · by_cases e2 : q = (p.2, p.1)
      · subst e2
        rw [if_neg n2, if_pos rfl]
        have m1 : (p.2, p.1) ∉ p :: C := fun hz => by
          rcases List.mem_cons.mp hz with z | z
          · exact e1 z
          · exact n2 z
        rw [if_neg m1, if_pos List.mem_cons_self]
        rw [if_neg (show ((p.2, p.1).2, (p.2, p.1).1) ∉ C from n1)]
      · have m1 : q ∈ p :: C ↔ q ∈ C := by simp [e1]
        have m2 : (q.2, q.1) ∈ p :: C ↔ (q.2, q.1) ∈ C := by
          simp only [List.mem_cons, or_iff_right_iff_imp]
          intro e
          refine absurd ?_ e2
          rw [← e]
        simp only [m1, m2, if_neg e1, if_neg e2]
/-- the dict of kinds -/
def kindsA (C P : List (Nat × Nat)) : AL := P.foldl (putC peer peer) (C.foldl (putC cust prov) [])
theorem kinds_at {n : Nat} {C P : List (Nat × Nat)} (o : OkTrade n C P) (q : Nat × Nat) : getA (kindsA C P) q = if q ∈ C then some cust else if (q.2, q.1) ∈ C then some prov else if q ∈ P ∨ (q.2, q.1) ∈ P then some peer else none := by
  unfold kindsA
  rw [get_foldK (fun p hp => (o.rng p (.inr hp)).2.2) o.p, get_foldK (fun p hp => (o.rng p (.inl hp)).2.2) o.c]
  have g0 : getA [] q = none := rfl
  rw [g0]
  have d1 : q ∈ P → q ∉ C ∧ (q.2, q.1) ∉ C := fun h => ⟨fun z => (o.cp q z q h).1 ⟨rfl, rfl⟩, fun z => (o.cp _ z q h).2 ⟨rfl, rfl⟩⟩
  have d2 : (q.2, q.1) ∈ P → q ∉ C ∧ (q.2, q.1) ∉ C := fun h => ⟨fun z => (o.cp q z _ h).2 ⟨rfl, rfl⟩, fun z => (o.cp _ z _ h).1 ⟨rfl, rfl⟩⟩
  by_cases h1 : q ∈ P
  · rw [if_pos h1, if_neg (d1 h1).1, if_neg (d1 h1).2, if_pos (.inl h1)]
  · by_cases h2 : (q.2, q.1) ∈ P
    · rw [if_neg h1, if_pos h2, if_neg (d2 h2).1, if_neg (d2 h2).2, if_pos (.inr h2)]
    · rw [if_neg h1, if_neg h2]
      split
      · rfl
      · split
        · rfl
        · rw [if_neg (fun z => z.elim h1 h2)]
theorem kind_loop {x0 : D} {u v : String} {C : List (Nat × Nat)} {fs : M S} {kv : AL} {x2 x3 : Option S} {PF : Fl → En → Prop} (hf : ∀ x1 x2 x3 : Option S, Ev fs [some (.d x0), x1, x2, x3] (.tup (C.map arcD))) (hC : C.length ≤ 1000) (hk : kv.length ≤ 10000)
    (q : ∀ x2 x3, PF .nx [some (.d x0), some (.o none (adD (C.foldl (putC (.str u) (.str v)) kv))), x2, x3]) :
    OK (mFor (iSeq fs) (gmTup 2 (gmCons (gmName 2) (gmCons (gmName 3) gmNil))) (mAsg (mTup (aCons (mC (.str u)) (aCons (mC (.str v)) aNil))) (gmTup 2 (gmCons (gmItemD 1 (mTup (aCons (mVar 2) (aCons (mVar 3) aNil)))) (gmCons (gmItemD 1 (mTup (aCons (mVar 3) (aCons (mVar 2) aNil)))) gmNil)))) [some (.d x0), some (.o none (adD kv)), x2, x3]) PF := by
  refine forL (ds := C.map arcD) (I := fun k ρ => ∃ x2 x3, ρ = [some (.d x0), some (.o none (adD ((C.take k).foldl (putC (.str u) (.str v)) kv))), x2, x3]) (hf _ _ _) rfl ⟨_, _, rfl⟩ ?_ ?_
  · rintro k y _ hy ⟨x2, x3, rfl⟩
    rw [List.getElem?_map] at hy
    obtain ⟨p, hp, rfl⟩ := Option.map_eq_some_iff.mp hy
    have hk' : k < C.length := (List.getElem?_eq_some_iff.mp hp).1
    refine @ok_gtup2 _ _ _ _ _ _ ?_
    simp only [List.set_cons_succ, List.set_cons_zero]
    rw [ok_asg]
    have hl := len_foldK (u := .str u) (v := .str v) (C := C.take k) (kv := kv)
    rw [List.length_take] at hl
    refine (ev_tup (ea_cons ev_c (ea_cons ev_c ea_nil))).dv ?_
    refine gitem2A (gitemA (p := p) rfl (ev_tup (ea_cons (ev_var 2 rfl) (ea_cons (ev_var 3 rfl) ea_nil))) (by omega) ?_)
    simp only [List.set_cons_succ, List.set_cons_zero]
    refine gitemA (p := (p.2, p.1)) rfl (ev_tup (ea_cons (ev_var 3 rfl) (ea_cons (ev_var 2 rfl) ea_nil))) ?_ (fin ⟨some (.d (.int (p.1 : Nat))), some (.d (.int (p.2 : Nat))), ?_⟩)
    · have := len_put (kv := (C.take k).foldl (putC (.str u) (.str v)) kv) (p := p) (x := .str u)
      omega
    · rw [List.take_add_one, hp, Option.toList, List.foldl_append]
      rfl
  · rintro _ ⟨x2, x3, rfl⟩
    rw [List.length_map, List.take_length]
    exact q x2 x3
theorem law_kinds {n : Nat} {C P : List (Nat × Nat)} (hC : C.length ≤ 56) (hP : P.length ≤ 56) : OKF (f_law_kinds [.d (.tup [.int (n : Nat), .tup (C.map arcD), .tup (P.map arcD)])]) fun s => s = .o none (adD (kindsA C P)) := by
  rw [okF]
  unfold f_law_kinds
  refine ok_runF rfl ?_
  show OK (b_law_kinds [some (.d (.tup [.int (n : Nat), .tup (C.map arcD), .tup (P.map arcD)])), none, none, none]) _
  unfold b_law_kinds
  refine sq ?_
  rw [ok_asgO]
  refine ok_of (.inl ⟨_, rfl, rfl, ?_⟩)
  simp only [List.set_cons_succ, List.set_cons_zero]
  refine sq (kind_loop (kv := []) (fun x1 x2 x3 => ev_ixT (i := 1) (ev_var 0 rfl) ev_c rfl) (by omega) (by simp) fun x2 x3 => ⟨rfl, ?_⟩)
  refine sq (kind_loop (fun x1 x2 x3 => ev_ixT (i := 2) (ev_var 0 rfl) ev_c rfl) (by omega) ?_ fun x2 x3 => ⟨rfl, ?_⟩)
  · have := len_foldK (u := .str "customer") (v := .str "provider") (C := C) (kv := [])
    rw [List.length_nil] at this
    omega
  · exact ok_of (.inl ⟨_, rfl, rfl⟩)
theorem check_trade {n : Nat} {C P : List (Nat × Nat)} : OKF (f_check_trade [.d (tradeD n C P)]) fun s => s = .d .non :=
  okF_of (by kernel_rfl : f_check_trade [.d (.ins "Trade" [.int (n : Nat), .tup (C.map arcD), .tup (P.map arcD)])] = .ok (.d .non) [some (.d (.ins "Trade" [.int (n : Nat), .tup (C.map arcD), .tup (P.map arcD)]))]) rfl
theorem is_provider {n : Nat} {C P : List (Nat × Nat)} {x y : Nat} (hC : C.length ≤ 1000) : OKF (f_is_provider [.d (tradeD n C P), .d (.int (x : Nat)), .d (.int (y : Nat))]) fun s => s = .d (.bl (decide ((x, y) ∈ C))) := by
  rw [okF]
  unfold f_is_provider
  refine ok_runF rfl ?_
  show OK (b_is_provider [some (.d (tradeD n C P)), some (.d (.int (x : Nat))), some (.d (.int (y : Nat)))]) _
  unfold b_is_provider
  refine retE (ev_op (x := arcD (x, y)) (ev_tup (ea_cons (ev_var 1 rfl) (ea_cons (ev_var 2 rfl) ea_nil))) (ev_of (ok_fld ((ev_var 0 rfl).dv ⟨_, _, rfl, rfl, rfl, rfl⟩))) (in_arcs (by omega))) fun s e => .inl ⟨s, rfl, toD_back e rfl⟩
theorem rngD {ρ : En} {fe : M S} {n : Nat} (h : Ev fe ρ (.rng 0 (n : Nat))) (hn : n ≤ 1000000) : OK (iRngD fe ρ) fun items ρ1 => items = intsFrom 0 n ∧ ρ1 = ρ := by
  unfold iRngD
  rw [ok_then]
  refine h.dv ?_
  dsimp only
  rw [if_pos (by rw [rOk_iff.mpr ⟨by omega, by omega⟩, rOk_iff.mpr ⟨by omega, by omega⟩]; rfl), ok_ok]
  exact ⟨by rw [show ((n : Int) - 0).toNat = n by omega], rfl⟩
end Fx.Lib
/-! defs of the program and of laws, on data -/
namespace Fx.Lib
open PySem PySem.Spec PyProof.Rows L2
def b_are_unlike : M Fl := (mRet (mOp gEq (mUn gSetL (mVar 0)) (mCB gLen (aCons (mVar 0) aNil))))
def f_are_unlike : Fn := runF 1 1 b_are_unlike
def b_rank_of_link : M Fl := (mSeq (mIfS (mTest (mCall f_is_provider (aCons (mVar 0) (aCons (mVar 1) (aCons (mVar 2) aNil))))) (mRet (mC (.int 0))) mNx)
    (mSeq (mIfS (mOr (mTest (mOp gIn (mTup (aCons (mVar 1) (aCons (mVar 2) aNil))) (mFldE "Trade" 2 (mVar 0)))) (mTest (mOp gIn (mTup (aCons (mVar 2) (aCons (mVar 1) aNil))) (mFldE "Trade" 2 (mVar 0))))) (mRet (mC (.int 1))) mNx)
    (mRet (mIf (mTest (mCall f_is_provider (aCons (mVar 0) (aCons (mVar 2) (aCons (mVar 1) aNil))))) (mC (.int 2)) (mC .non)))))
def f_rank_of_link : Fn := runF 3 3 b_rank_of_link
def b_gains : M Fl := (mRet (mCB gAny (aCons (mLc (iSeq (mVar 2)) (gmName 3) mYes (mCall f_is_provider (aCons (mVar 0) (aCons (mVar 1) (aCons (mVar 3) aNil)))) [3]) aNil)))
def f_gains : Fn := runF 3 4 b_gains
def b_is_paid : M Fl := (mSeq (mDrop (mCall f_check_trade (aCons (mVar 0) aNil)))
    (mSeq (mIfS (mOr (mNot (mTest (mCall f_are_numbers (aCons (mVar 1) (aCons (mC (.int 0)) (aCons (mOp gMinus (mFldE "Trade" 0 (mVar 0)) (mC (.int 1))) aNil)))))) (mOr (mTest (mOp gEq (mCB gLen (aCons (mVar 1) aNil)) (mC (.int 0)))) (mNot (mTest (mCall f_are_unlike (aCons (mVar 1) aNil)))))) (mRet (mC (.bl false))) mNx)
    (mSeq (mIfS (mNot (mTest (mCB gAll (aCons (mLc (iZip' (aCons (mVar 1) (aCons (mSl (mVar 1) (oSome (mC (.int 1))) oNone) aNil))) (gmTup 2 (gmCons (gmName 2) (gmCons (gmName 3) gmNil))) mYes (mOp gNotN (mCall f_rank_of_link (aCons (mVar 0) (aCons (mVar 2) (aCons (mVar 3) aNil)))) (mC .non)) [2, 3]) aNil)))) (mRet (mC (.bl false))) mNx)
    (mRet (mCB gAll (aCons (mLc (iRange2 (aCons (mC (.int 1)) (aCons (mOp gMinus (mCB gLen (aCons (mVar 1) aNil)) (mC (.int 1))) aNil))) (gmName 4) mYes (mCall f_gains (aCons (mVar 0) (aCons (mOp gIx (mVar 1) (mVar 4)) (aCons (mTup (aCons (mOp gIx (mVar 1) (mOp gMinus (mVar 4) (mC (.int 1)))) (aCons (mOp gIx (mVar 1) (mOp gAdd (mVar 4) (mC (.int 1)))) aNil))) aNil)))) [4]) aNil))))))
def f_is_paid : Fn := runF 2 5 b_is_paid
def b_law_paid : M Fl := (mSeq (mFor (iRange1 (aCons (mOp gMinus (mCB gLen (aCons (mVar 1) aNil)) (mC (.int 1))) aNil)) (gmName 2) (mIfS (mTest (mInN true (mSl (mVar 1) (oSome (mVar 2)) (oSome (mOp gAdd (mVar 2) (mC (.int 2))))) 0)) (mRet (mC (.bl false))) mNx))
    (mSeq (mFor (iRange2 (aCons (mC (.int 1)) (aCons (mOp gMinus (mCB gLen (aCons (mVar 1) aNil)) (mC (.int 1))) aNil))) (gmName 2) (mIfS (mTest (mOp gNotIn (mC (.str "customer")) (mLst (aCons (mOp gDget (mVar 0) (mTup (aCons (mOp gIx (mVar 1) (mVar 2)) (aCons (mOp gIx (mVar 1) (mOp gMinus (mVar 2) (mC (.int 1)))) aNil)))) (aCons (mOp gDget (mVar 0) (mTup (aCons (mOp gIx (mVar 1) (mVar 2)) (aCons (mOp gIx (mVar 1) (mOp gAdd (mVar 2) (mC (.int 1)))) aNil)))) aNil))))) (mRet (mC (.bl false))) mNx))
    (mRet (mC (.bl true)))))
def f_law_paid : Fn := runF 2 3 b_law_paid
end Fx.Lib
/-! trades on data: paths that are paid -/
namespace Fx.Lib
open PySem Nl
theorem are_unlike {L : List Nat} (nd : L.Nodup) (hl : L.length ≤ 1000) : OKF (f_are_unlike [.d (.tup (nl L))]) fun s => s = .d (.bl true) := by
  rw [okF]
  unfold f_are_unlike
  refine ok_runF rfl ?_
  show OK (b_are_unlike [some (.d (.tup (nl L)))]) _
  unfold b_are_unlike
  have e : nl L = (L.map fun v : Nat => (v : Int)).map D.int := by
    rw [List.map_map]
    rfl
  have e1 : Ev (mUn gSetL (mVar 0)) [some (.d (.tup (nl L)))] (.int (L.length : Nat)) := ev_un (ev_var 0 rfl) (by
    rw [e, setL_ints (by rw [List.length_map]; omega), uniq_nd nd])
  have e2 := ev_eq e1 (lenN (ev_var (ρ := [some (.d (.tup (nl L)))]) 0 rfl))
  rw [decide_eq_true rfl] at e2
  exact retE e2 fun s e => .inl ⟨s, rfl, toD_back e rfl⟩
/-- are two nodes customer, provider or peer -/
def linked (C P : List (Nat × Nat)) (v w : Nat) : Bool := decide ((v, w) ∈ C) || (decide ((v, w) ∈ P) || decide ((w, v) ∈ P)) || decide ((w, v) ∈ C)
theorem rank_of_link {n : Nat} {C P : List (Nat × Nat)} {v w : Nat} (hC : C.length ≤ 1000) (hP : P.length ≤ 1000) : OKF (f_rank_of_link [.d (tradeD n C P), .d (.int (v : Nat)), .d (.int (w : Nat))]) fun s => ∃ r, s = .d r ∧ isN r = !linked C P v w := by
  rw [okF]
  unfold f_rank_of_link
  refine ok_runF rfl ?_
  show OK (b_rank_of_link [some (.d (tradeD n C P)), some (.d (.int (v : Nat))), some (.d (.int (w : Nat)))]) _
  unfold b_rank_of_link
  refine sqI (ifB (eb_test (ev_call (ea_cons (ev_var 0 rfl) (ea_cons (ev_var 1 rfl) (ea_cons (ev_var 2 rfl) ea_nil))) (is_provider hC))) (fun h1 => ?_) fun h1 => ?_)
  · rw [ok_ret, ok_c]
    refine .inr ⟨fun z => (nomatch z), .inl ⟨_, rfl, _, rfl, ?_⟩⟩
    unfold linked
    rw [h1]
    rfl
  rw [ok_nx]
  refine .inl ⟨rfl, ?_⟩
  have f2 : Ev (mFldE "Trade" 2 (mVar 0)) [some (.d (tradeD n C P)), some (.d (.int (v : Nat))), some (.d (.int (w : Nat)))] (.tup (P.map arcD)) := ev_of (ok_fld ((ev_var 0 rfl).dv ⟨_, _, rfl, rfl, rfl, rfl⟩))
  refine sqI (ifB (eb_or (eb_test (ev_op (x := arcD (v, w)) (ev_tup (ea_cons (ev_var 1 rfl) (ea_cons (ev_var 2 rfl) ea_nil))) f2 (in_arcs (by omega)))) fun _ => eb_test (ev_op (x := arcD (w, v)) (ev_tup (ea_cons (ev_var 2 rfl) (ea_cons (ev_var 1 rfl) ea_nil))) f2 (in_arcs (by omega)))) (fun h2 => ?_) fun h2 => ?_)
  · rw [ok_ret, ok_c]
    refine .inr ⟨fun z => (nomatch z), .inl ⟨_, rfl, _, rfl, ?_⟩⟩
    unfold linked
    rw [h2]
    simp [isN]
  rw [ok_nx]
  refine .inl ⟨rfl, ?_⟩
  rw [ok_ret, ok_if]
  refine (eb_test (ev_call (ea_cons (ev_var 0 rfl) (ea_cons (ev_var 2 rfl) (ea_cons (ev_var 1 rfl) ea_nil))) (is_provider hC))).ok ⟨fun h3 => ?_, fun h3 => ?_⟩
  · rw [ok_c]
    refine .inl ⟨_, rfl, _, rfl, ?_⟩
    unfold linked
    rw [h3]
    simp [isN]
  · rw [ok_c]
    refine .inl ⟨_, rfl, _, rfl, ?_⟩
    unfold linked
    rw [h1, h2, show decide ((w, v) ∈ C) = false by simpa using h3]
    rfl
theorem gains {n : Nat} {C P : List (Nat × Nat)} {v a b : Nat} (hC : C.length ≤ 1000) : OKF (f_gains [.d (tradeD n C P), .d (.int (v : Nat)), .d (.tup (nl [a, b]))]) fun s => s = .d (.bl (decide ((v, a) ∈ C) || decide ((v, b) ∈ C))) := by
  rw [okF]
  unfold f_gains
  refine ok_runF rfl ?_
  show OK (b_gains [some (.d (tradeD n C P)), some (.d (.int (v : Nat))), some (.d (.tup (nl [a, b]))), none]) _
  unfold b_gains
  have e1 := mapI (L := [a, b]) (k := 3) (fI := iSeq (mVar 2)) (f := fun w => .bl (decide ((v, w) ∈ C))) (ρ := [some (.d (tradeD n C P)), some (.d (.int (v : Nat))), some (.d (.tup (nl [a, b]))), none]) (fe := mCall f_is_provider (aCons (mVar 0) (aCons (mVar 1) (aCons (mVar 3) aNil)))) (by
    rw [ok_iseq]
    exact (ev_var 2 rfl).dv ⟨_, rfl, rfl, rfl⟩) rfl (fun w _ => ev_call (ea_cons (ev_var 0 rfl) (ea_cons (ev_var 1 rfl) (ea_cons (ev_var 3 rfl) ea_nil))) (is_provider hC)) (by simp)
  have e2 := evAny (bs := [decide ((v, a) ∈ C), decide ((v, b) ∈ C)]) e1
  simp only [List.any_cons, List.any_nil, Bool.or_false, id] at e2
  exact retE e2 fun s e => .inl ⟨s, rfl, toD_back e rfl⟩
/-- each two nodes one after another are linked; each inner node has a customer beside it -/
def allL (C P : List (Nat × Nat)) (L : List Nat) : Bool := (L.zip (L.drop 1)).all fun p => linked C P p.1 p.2
def gainsAt (C : List (Nat × Nat)) (L : List Nat) (i : Nat) : Bool := decide ((L.getD i 0, L.getD (i - 1) 0) ∈ C) || decide ((L.getD i 0, L.getD (i + 1) 0) ∈ C)
def allG (C : List (Nat × Nat)) (L : List Nat) : Bool := (List.range (L.length - 2)).all fun i => gainsAt C L (i + 1)
theorem getD_at {L : List Nat} {i : Nat} (h : i < L.length) : L[i]? = some (L.getD i 0) := by
  rw [List.getD_eq_getElem?_getD, List.getElem?_eq_getElem h]
  rfl
theorem is_paid {n : Nat} {C P : List (Nat × Nat)} {L : List Nat} (hC : C.length ≤ 1000) (hP : P.length ≤ 1000) (n1 : 1 ≤ n) (nd : L.Nodup) (hL : ∀ v ∈ L, v < n) (ne : L ≠ []) (l1 : L.length ≤ 100) :
    OKF (f_is_paid [.d (tradeD n C P), .d (.tup (nl L))]) fun s => s = .d (.bl (allL C P L && allG C L)) := by
  rw [okF]
  unfold f_is_paid
  refine ok_runF rfl ?_
  show OK (b_is_paid [some (.d (tradeD n C P)), some (.d (.tup (nl L))), none, none, none]) _
  unfold b_is_paid
  have l0 : 0 < L.length := by
    cases L with
    | nil => exact absurd rfl ne
    | cons a L => exact Nat.zero_lt_succ _
  refine sq (dropE (ev_call (ea_cons (ev_var 0 rfl) ea_nil) check_trade) ⟨rfl, ?_⟩)
  refine sq (ifN (eb_or (p := false) (q := false) (eb_not (b := true) (eb_test ?_)) fun _ => eb_or (p := false) (q := false) (eb_test ?_) fun _ => eb_not (b := true) (eb_test (ev_call (ea_cons (ev_var 1 rfl) ea_nil) (are_unlike nd (by omega))))) ⟨rfl, ?_⟩)
  · have := evNumsN (L := L) (hi := n - 1) (ρ := [some (.d (tradeD n C P)), some (.d (.tup (nl L))), none, none, none]) (ea_cons (ev_var 1 rfl) (ea_cons (ev_c (x := .int (0 : Nat))) (ea_cons (sub1 (fa := mFldE "Trade" 0 (mVar 0)) (ev_of (ok_fld ((ev_var 0 rfl).dv ⟨_, _, rfl, rfl, rfl, rfl⟩))) n1) ea_nil))) (by omega)
    have e : (L.all fun v => decide (v ≤ n - 1)) = true := List.all_eq_true.mpr fun v hv => decide_eq_true (by have := hL v hv; omega)
    rw [e] at this
    exact this
  · have := ev_eq (lenN (ev_var (ρ := [some (.d (tradeD n C P)), some (.d (.tup (nl L))), none, none, none]) (x := .tup (nl L)) 1 rfl)) (ev_c (x := .int 0))
    rw [decide_eq_false (by omega)] at this
    exact this
  have e1 : Ev (mLc (iZip' (aCons (mVar 1) (aCons (mSl (mVar 1) (oSome (mC (.int 1))) oNone) aNil))) (gmTup 2 (gmCons (gmName 2) (gmCons (gmName 3) gmNil))) mYes (mOp gNotN (mCall f_rank_of_link (aCons (mVar 0) (aCons (mVar 2) (aCons (mVar 3) aNil)))) (mC .non)) [2, 3]) [some (.d (tradeD n C P)), some (.d (.tup (nl L))), none, none, none] (.lst (((L.zip (L.drop 1)).map fun p => linked C P p.1 p.2).map D.bl)) := by
    unfold Ev
    rw [ok_dv, ok_lc]
    refine zipN (ev_var 1 rfl) (tailN (i := 1) (ev_var 1 rfl) ev_c) ?_
    refine lcP (t := fun _ => true) (f := fun p => .bl (linked C P p.1 p.2)) (by decide) rfl rfl (fun p _ => ?_) (fun p _ _ => ?_) (by rw [List.length_zip]; omega) ⟨_, rfl, ?_, rfl⟩
    · unfold EvB
      rw [ok_yes]
      exact ⟨rfl, rfl⟩
    · unfold Ev
      rw [ok_dv, ok_op, ok_dv, ok_call]
      refine (ea_cons (ev_var 0 rfl) (ea_cons (ev_var 2 rfl) (ea_cons (ev_var 3 rfl) ea_nil))).ok ((rank_of_link (n := n) (v := p.1) (w := p.2) hC hP).imp fun s ⟨r, e, h⟩ => ?_)
      subst e
      refine ⟨rfl, _, rfl, ev_c.dv ⟨.d (.bl (!isN r)), rfl, _, rfl, ?_, rfl⟩⟩
      rw [h, Bool.not_not]
    · have e : (L.zip (L.drop 1)).filter (fun _ => true) = L.zip (L.drop 1) := List.filter_eq_self.mpr fun _ _ => rfl
      rw [e, List.map_map]
      rfl
  have e2 := evAll e1
  rw [List.all_map, show ((L.zip (L.drop 1)).all (id ∘ fun p : Nat × Nat => linked C P p.1 p.2)) = allL C P L from rfl] at e2
  refine sqI (ifB (eb_not (eb_test e2)) (fun h1 => ?_) fun h1 => ?_)
  · rw [ok_ret, ok_c]
    refine .inr ⟨fun z => (nomatch z), .inl ⟨_, rfl, ?_⟩⟩
    have : allL C P L = false := by
      cases z : allL C P L with
      | false => rfl
      | true => rw [z] at h1; cases h1
    rw [this]
    rfl
  rw [ok_nx]
  refine .inl ⟨rfl, ?_⟩
  have hL1 : allL C P L = true := by
    cases z : allL C P L with
    | true => rfl
    | false => rw [z] at h1; cases h1
  rw [hL1, Bool.true_and]
  have e3 := mapI (L := (List.range (L.length - 2)).map fun i => 1 + i) (k := 4) (fI := iRange2 (aCons (mC (.int 1)) (aCons (mOp gMinus (mCB gLen (aCons (mVar 1) aNil)) (mC (.int 1))) aNil))) (f := fun i => .bl (gainsAt C L i)) (ρ := [some (.d (tradeD n C P)), some (.d (.tup (nl L))), none, none, none]) (fe := mCall f_gains (aCons (mVar 0) (aCons (mOp gIx (mVar 1) (mVar 4)) (aCons (mTup (aCons (mOp gIx (mVar 1) (mOp gMinus (mVar 4) (mC (.int 1)))) (aCons (mOp gIx (mVar 1) (mOp gAdd (mVar 4) (mC (.int 1)))) aNil))) aNil)))) (range2 (lo := 1) (hi := L.length - 1) (ea_cons ev_c (ea_cons (sub1 (lenN (ev_var 1 rfl)) (by omega)) ea_nil)) (by omega) (by omega) ⟨by rw [ints_from, show L.length - 1 - 1 = L.length - 2 by omega], rfl⟩) rfl (fun i hi => ?_) (by rw [List.length_map, List.length_range]; omega)
  · have e4 := evAll (bs := (List.range (L.length - 2)).map fun i => gainsAt C L (i + 1)) (fa := mLc (iRange2 (aCons (mC (.int 1)) (aCons (mOp gMinus (mCB gLen (aCons (mVar 1) aNil)) (mC (.int 1))) aNil))) (gmName 4) mYes (mCall f_gains (aCons (mVar 0) (aCons (mOp gIx (mVar 1) (mVar 4)) (aCons (mTup (aCons (mOp gIx (mVar 1) (mOp gMinus (mVar 4) (mC (.int 1)))) (aCons (mOp gIx (mVar 1) (mOp gAdd (mVar 4) (mC (.int 1)))) aNil))) aNil)))) [4]) (ρ := [some (.d (tradeD n C P)), some (.d (.tup (nl L))), none, none, none]) (by
      have e : ((List.range (L.length - 2)).map fun i => 1 + i).map (fun i => D.bl (gainsAt C L i)) = ((List.range (L.length - 2)).map fun i => gainsAt C L (i + 1)).map D.bl := by
        rw [List.map_map, List.map_map]
        refine List.map_congr_left fun i _ => ?_
        show D.bl (gainsAt C L (1 + i)) = D.bl (gainsAt C L (i + 1))
        rw [Nat.add_comm]
      rw [← e]
      exact e3)
    rw [List.all_map, show ((List.range (L.length - 2)).all (id ∘ fun i => gainsAt C L (i + 1))) = allG C L from rfl] at e4
    exact retE e4 fun s e => .inl ⟨s, rfl, toD_back e rfl⟩
  · obtain ⟨j, hj, rfl⟩ := List.mem_map.mp hi
    have hj := List.mem_range.mp hj
    exact ev_call (ea_cons (ev_var 0 rfl) (ea_cons (ixN (ev_var 1 rfl) (ev_var 4 rfl) (getD_at (by omega))) (ea_cons (ev_tup (ea_cons (ixN (ev_var 1 rfl) (sub1 (ev_var 4 rfl) (by omega)) (getD_at (by omega))) (ea_cons (ixN (ev_var 1 rfl) (add1 (ev_var 4 rfl)) (getD_at (by omega))) ea_nil))) ea_nil))) (gains hC)
end Fx.Lib
/-! defs of the program and of laws, on data -/
namespace Fx.Lib
open PySem PySem.Spec PyProof.Rows L2
def b_paths_to : M Fl := (mSeq (mAsgO 3 (mLst aNil))
    (mSeq (mAsgO 4 (mLst (aCons (mTup (aCons (mVar 1) aNil)) aNil)))
    (mSeq (mWhile (mTruthO 4) (mSeq (mAsg (mMeth0 4 gPop) (gmName 5))
    (mIfS (mTest (mOp gIn (mOp gIx (mVar 5) (mUn gNeg (mC (.int 1)))) (mVar 2))) (mDrop (mMeth1 3 gApp (mVar 5))) (mDrop (mMeth1 4 gExt (mLc (iRevS (aCons (mOp gDget (mVar 0) (mOp gIx (mVar 5) (mUn gNeg (mC (.int 1))))) aNil)) (gmName 6) (mTest (mOp gNotIn (mVar 6) (mVar 5))) (mTup (aStar (mVar 5) (aCons (mVar 6) aNil))) [6]))))) 1000)
    (mRetO 3))))
def f_paths_to : Fn := runF 3 7 b_paths_to
end Fx.Lib
/-! k01: the program's defs on data -/
namespace Fx.Lib
open PySem
local macro_rules | `(tactic| walk_at "wp") => `(tactic| simp only [okF_runF, okF_runL, ok_seq, ok_ret, ok_retN, ok_andV, ok_orV, ok_notV, ok_cb, ok_cons, ok_nil, ok_test, ok_dv, ok_op, ok_un, ok_c, ok_if, ok_ifS, ok_and, ok_or, ok_not, ok_asg, ok_gname, ok_drop, ok_call, ok_chain, ok_nx, ok_bk, ok_ct, ok_st, ok_yes, ok_tup, ok_ok, ok_stuck, ex_toD, ex_toL, ex_bl, ex_some, ex_bl1, fl_nx, fl_rt, fl_bk, fl_ct, rt_or, nx_or, mVar, ok1, gIsi, mIsi2, gIsi2, isTy2, isTy, Option.bind, bare, e_add, e_sub, e_int, e_lenS, e_lenT, e_lenL, e_lt, e_le, e_gt, e_ge, e_leC, e_ltC, e_isN, e_notN, e_pow,
  List.map_cons, List.map_nil, List.length_cons, List.length_nil, List.replicate_succ, List.replicate_zero, List.cons_append, List.nil_append, List.append_nil, List.getElem?_cons_zero, List.getElem?_cons_succ, List.set_cons_zero, List.set_cons_succ, Nat.reduceAdd, Nat.reduceSub, true_and, and_true, Bool.not_true, Bool.not_false, true_implies, forall_const, not_true_eq_false, false_implies, Bool.false_eq_true, not_false_eq_true, implies_true, eq_self, ne_eq, reduceCtorEq, Fl.rt.injEq, S.d.injEq, D.int.injEq, false_and, exists_false, or_false, false_or, exists_eq_left'])
local macro_rules | `(tactic| walk_at "wt") => `(tactic| simp (config := { contextual := false }) only [ok_row0, ok_row1, ok_row2, ok_row3, ok_put1, ok_put2, ok_put3, e_mod, e_div, e_mul, e_ixS, decide_true, decide_false, *, okF_runF, okF_runL, ok_seq, ok_ret, ok_retN, ok_andV, ok_orV, ok_notV, ok_cb, ok_cons, ok_nil, ok_test, ok_dv, ok_op, ok_un, ok_c, ok_if, ok_ifS, ok_and, ok_or, ok_not, ok_asg, ok_gname, ok_drop, ok_call, ok_chain, ok_nx, ok_bk, ok_ct, ok_st, ok_yes, ok_tup, ok_ok, ok_stuck, ex_toD, ex_toL, ex_bl, ex_some, ex_bl1, fl_nx, fl_rt, fl_bk, fl_ct, rt_or, nx_or, mVar, ok1, gIsi, mIsi2, gIsi2, isTy2, isTy, Option.bind, bare, e_add, e_sub, e_int, e_lenS, e_lenT, e_lenL, e_lt, e_le, e_gt, e_ge, e_leC, e_ltC, e_isN, e_notN, e_pow,
  List.map_cons, List.map_nil, List.length_cons, List.length_nil, List.replicate_succ, List.replicate_zero, List.cons_append, List.nil_append, List.append_nil, List.getElem?_cons_zero, List.getElem?_cons_succ, List.set_cons_zero, List.set_cons_succ, Nat.reduceAdd, Nat.reduceSub, true_and, and_true, Bool.not_true, Bool.not_false, true_implies, forall_const, not_true_eq_false, false_implies, Bool.false_eq_true, not_false_eq_true, implies_true, eq_self, ne_eq, reduceCtorEq, Fl.rt.injEq, S.d.injEq, D.int.injEq, false_and, exists_false, or_false, false_or, exists_eq_left'])
local macro_rules | `(tactic| walk_at "wy") => `(tactic| try walk_at "wp")
local macro_rules | `(tactic| walk_at "we") => `(tactic| first | done | rfl | exact ⟨rfl, rfl⟩ | exact ⟨rfl, rfl, rfl⟩)
/-- the heads of node i, ascending -/
def hd (as : List (Nat × Nat)) (i : Nat) : List Nat := (as.filter fun p => decide (p.1 = i)).map fun p => p.2
def natsD (l : List Nat) : D := .lst (l.map fun i : Nat => D.int i)
def headsD (n : Nat) (as : List (Nat × Nat)) : D := .dct (intsFrom 0 n) ((intsFrom 0 n).map fun x => match x with | .int i => natsD (hd as i.toNat) | _ => .non)
end Fx.Lib
/-! k01: paths_to on data -/
namespace Fx.Lib
open PySem
local macro_rules | `(tactic| walk_at "wp") => `(tactic| simp only [okF_runF, okF_runL, ok_seq, ok_ret, ok_retN, ok_andV, ok_orV, ok_notV, ok_cb, ok_cons, ok_nil, ok_test, ok_dv, ok_op, ok_un, ok_c, ok_if, ok_ifS, ok_and, ok_or, ok_not, ok_asg, ok_gname, ok_drop, ok_call, ok_chain, ok_nx, ok_bk, ok_ct, ok_st, ok_yes, ok_tup, ok_ok, ok_stuck, ex_toD, ex_toL, ex_bl, ex_some, ex_bl1, fl_nx, fl_rt, fl_bk, fl_ct, rt_or, nx_or, mVar, ok1, gIsi, mIsi2, gIsi2, isTy2, isTy, Option.bind, bare, e_add, e_sub, e_int, e_lenS, e_lenT, e_lenL, e_lt, e_le, e_gt, e_ge, e_leC, e_ltC, e_isN, e_notN, e_pow,
  List.map_cons, List.map_nil, List.length_cons, List.length_nil, List.replicate_succ, List.replicate_zero, List.cons_append, List.nil_append, List.append_nil, List.getElem?_cons_zero, List.getElem?_cons_succ, List.set_cons_zero, List.set_cons_succ, Nat.reduceAdd, Nat.reduceSub, true_and, and_true, Bool.not_true, Bool.not_false, true_implies, forall_const, not_true_eq_false, false_implies, Bool.false_eq_true, not_false_eq_true, implies_true, eq_self, ne_eq, reduceCtorEq, Fl.rt.injEq, S.d.injEq, D.int.injEq, false_and, exists_false, or_false, false_or, exists_eq_left'])
local macro_rules | `(tactic| walk_at "wt") => `(tactic| simp (config := { contextual := false }) only [ok_row0, ok_row1, ok_row2, ok_row3, ok_put1, ok_put2, ok_put3, e_mod, e_div, e_mul, e_ixS, decide_true, decide_false, *, okF_runF, okF_runL, ok_seq, ok_ret, ok_retN, ok_andV, ok_orV, ok_notV, ok_cb, ok_cons, ok_nil, ok_test, ok_dv, ok_op, ok_un, ok_c, ok_if, ok_ifS, ok_and, ok_or, ok_not, ok_asg, ok_gname, ok_drop, ok_call, ok_chain, ok_nx, ok_bk, ok_ct, ok_st, ok_yes, ok_tup, ok_ok, ok_stuck, ex_toD, ex_toL, ex_bl, ex_some, ex_bl1, fl_nx, fl_rt, fl_bk, fl_ct, rt_or, nx_or, mVar, ok1, gIsi, mIsi2, gIsi2, isTy2, isTy, Option.bind, bare, e_add, e_sub, e_int, e_lenS, e_lenT, e_lenL, e_lt, e_le, e_gt, e_ge, e_leC, e_ltC, e_isN, e_notN, e_pow,
  List.map_cons, List.map_nil, List.length_cons, List.length_nil, List.replicate_succ, List.replicate_zero, List.cons_append, List.nil_append, List.append_nil, List.getElem?_cons_zero, List.getElem?_cons_succ, List.set_cons_zero, List.set_cons_succ, Nat.reduceAdd, Nat.reduceSub, true_and, and_true, Bool.not_true, Bool.not_false, true_implies, forall_const, not_true_eq_false, false_implies, Bool.false_eq_true, not_false_eq_true, implies_true, eq_self, ne_eq, reduceCtorEq, Fl.rt.injEq, S.d.injEq, D.int.injEq, false_and, exists_false, or_false, false_or, exists_eq_left'])
local macro_rules | `(tactic| walk_at "wy") => `(tactic| try walk_at "wp")
local macro_rules | `(tactic| walk_at "we") => `(tactic| first | done | rfl | exact ⟨rfl, rfl⟩ | exact ⟨rfl, rfl, rfl⟩)
def pathD (p : List Nat) : D := .tup (p.map fun i : Nat => D.int i)
def lst (p : List Nat) : Nat := p.getLast?.getD 0
/-- the paths a step longer -/
def exts (as : List (Nat × Nat)) (p : List Nat) : List (List Nat) := ((hd as (lst p)).filter fun h => !decide (h ∈ p)).map fun h => p ++ [h]
def wt : Nat → Nat
  | 0 => 1
  | k + 1 => 1 + (k + 1) * wt k
def load (n : Nat) (st : List (List Nat)) : Nat := (st.map fun p => wt (n - p.length)).sum
/-- depth first, the stack's top first -/
def dfs (as : List (Nat × Nat)) (g : Nat) : Nat → List (List Nat) → List (List Nat) → List (List Nat)
  | 0, _, acc => acc
  | _ + 1, [], acc => acc
  | f + 1, p :: st, acc => if lst p = g then dfs as g f st (acc ++ [p]) else dfs as g f (exts as p ++ st) acc
structure Good (n : Nat) (p : List Nat) : Prop where
  ne : p ≠ []
  nd : p.Nodup
  lt : ∀ i ∈ p, i < n
theorem nodup_len {n : Nat} {p : List Nat} (h : p.Nodup) (k : ∀ i ∈ p, i < n) : p.length ≤ n := by
  have h1 : (p.map fun i : Nat => (i : Int)).Nodup := by
    unfold List.Nodup at h ⊢
    rw [List.pairwise_map]
    exact h.imp fun h e => h (by omega)
  have h2 := Rw.len_sub (l := p.map fun i : Nat => (i : Int)) (m := (List.range n).map fun i : Nat => (i : Int)) h1 fun x hx => by
    obtain ⟨i, hi, rfl⟩ := List.mem_map.mp hx
    exact List.mem_map.mpr ⟨i, List.mem_range.mpr (k i hi), rfl⟩
  rw [List.length_map, List.length_map, List.length_range] at h2
  exact h2
section
variable {n : Nat} {as : List (Nat × Nat)} (o : OkArcs n as)
include o
theorem hd_nodup (i : Nat) : (hd as i).Nodup := by
  unfold hd List.Nodup
  rw [List.pairwise_map]
  refine List.Pairwise.imp_of_mem (fun {p q} hp hq h => ?_) (o.asc.filter _)
  have h1 := (List.mem_filter.mp hp).2
  have h2 := (List.mem_filter.mp hq).2
  rw [decide_eq_true_eq] at h1 h2
  unfold ltA at h
  omega
theorem hd_lt {i h : Nat} (hm : h ∈ hd as i) : h < n := by
  unfold hd at hm
  obtain ⟨p, hp, rfl⟩ := List.mem_map.mp hm
  exact (o.rng p (List.mem_filter.mp hp).1).2.1
theorem exts_good {p q : List Nat} (gp : Good n p) (hq : q ∈ exts as p) : Good n q ∧ q.length = p.length + 1 := by
  unfold exts at hq
  obtain ⟨h, hh, rfl⟩ := List.mem_map.mp hq
  obtain ⟨h1, h2⟩ := List.mem_filter.mp hh
  have h2 : h ∉ p := by simpa using h2
  refine ⟨⟨by simp, ?_, fun i hi => ?_⟩, by simp⟩
  · rw [List.nodup_append]
    refine ⟨gp.nd, by simp, fun a ha b hb => ?_⟩
    rw [List.mem_singleton.mp hb]
    intro e
    exact h2 (e ▸ ha)
  · rcases List.mem_append.mp hi with hi | hi
    · exact gp.lt i hi
    · rw [List.mem_singleton.mp hi]
      exact hd_lt o h1
theorem exts_len {p : List Nat} (gp : Good n p) : (exts as p).length + p.length ≤ n := by
  unfold exts
  rw [List.length_map]
  have nd : (p ++ (hd as (lst p)).filter fun h => !decide (h ∈ p)).Nodup := by
    rw [List.nodup_append]
    refine ⟨gp.nd, (hd_nodup o _).filter _, fun a ha b hb e => ?_⟩
    have := (List.mem_filter.mp hb).2
    simp at this
    exact this (e ▸ ha)
  have := nodup_len (n := n) nd fun i hi => by
    rcases List.mem_append.mp hi with hi | hi
    · exact gp.lt i hi
    · exact hd_lt o (List.mem_filter.mp hi).1
  rw [List.length_append] at this
  omega
theorem load_exts {p : List Nat} (gp : Good n p) : load n (exts as p) < wt (n - p.length) := by
  have hl := exts_len o gp
  have e : load n (exts as p) = (exts as p).length * wt (n - p.length - 1) := by
    unfold load
    have key : ∀ l : List (List Nat), (∀ q ∈ l, q.length = p.length + 1) → (l.map fun q => wt (n - q.length)).sum = l.length * wt (n - p.length - 1) := by
      intro l
      induction l with
      | nil => simp
      | cons q l ih =>
        intro h
        rw [List.map_cons, List.sum_cons, ih fun r hr => h r (List.mem_cons_of_mem _ hr), h q List.mem_cons_self, List.length_cons, Nat.succ_mul]
        have : n - (p.length + 1) = n - p.length - 1 := by omega
        rw [this]
        omega
    exact key _ fun q hq => (exts_good o gp hq).2
  rw [e]
  cases hk : n - p.length with
  | zero =>
    have : (exts as p).length = 0 := by omega
    rw [this]
    simp [wt]
  | succ k =>
    have h1 : (exts as p).length * wt (k + 1 - 1) ≤ (k + 1) * wt k := by
      rw [Nat.add_sub_cancel]
      exact Nat.mul_le_mul (by omega) (Nat.le_refl _)
    show _ < 1 + (k + 1) * wt k
    omega
end
end Fx.Lib
/-! k01: paths_to keeps dfs -/
namespace Fx.Lib
open PySem
local macro_rules | `(tactic| walk_at "wp") => `(tactic| simp only [okF_runF, okF_runL, ok_seq, ok_ret, ok_retN, ok_andV, ok_orV, ok_notV, ok_cb, ok_cons, ok_nil, ok_test, ok_dv, ok_op, ok_un, ok_c, ok_if, ok_ifS, ok_and, ok_or, ok_not, ok_asg, ok_gname, ok_drop, ok_call, ok_chain, ok_nx, ok_bk, ok_ct, ok_st, ok_yes, ok_tup, ok_ok, ok_stuck, ex_toD, ex_toL, ex_bl, ex_some, ex_bl1, fl_nx, fl_rt, fl_bk, fl_ct, rt_or, nx_or, mVar, ok1, gIsi, mIsi2, gIsi2, isTy2, isTy, Option.bind, bare, e_add, e_sub, e_int, e_lenS, e_lenT, e_lenL, e_lt, e_le, e_gt, e_ge, e_leC, e_ltC, e_isN, e_notN, e_pow,
  List.map_cons, List.map_nil, List.length_cons, List.length_nil, List.replicate_succ, List.replicate_zero, List.cons_append, List.nil_append, List.append_nil, List.getElem?_cons_zero, List.getElem?_cons_succ, List.set_cons_zero, List.set_cons_succ, Nat.reduceAdd, Nat.reduceSub, true_and, and_true, Bool.not_true, Bool.not_false, true_implies, forall_const, not_true_eq_false, false_implies, Bool.false_eq_true, not_false_eq_true, implies_true, eq_self, ne_eq, reduceCtorEq, Fl.rt.injEq, S.d.injEq, D.int.injEq, false_and, exists_false, or_false, false_or, exists_eq_left'])
local macro_rules | `(tactic| walk_at "wt") => `(tactic| simp (config := { contextual := false }) only [ok_row0, ok_row1, ok_row2, ok_row3, ok_put1, ok_put2, ok_put3, e_mod, e_div, e_mul, e_ixS, decide_true, decide_false, *, okF_runF, okF_runL, ok_seq, ok_ret, ok_retN, ok_andV, ok_orV, ok_notV, ok_cb, ok_cons, ok_nil, ok_test, ok_dv, ok_op, ok_un, ok_c, ok_if, ok_ifS, ok_and, ok_or, ok_not, ok_asg, ok_gname, ok_drop, ok_call, ok_chain, ok_nx, ok_bk, ok_ct, ok_st, ok_yes, ok_tup, ok_ok, ok_stuck, ex_toD, ex_toL, ex_bl, ex_some, ex_bl1, fl_nx, fl_rt, fl_bk, fl_ct, rt_or, nx_or, mVar, ok1, gIsi, mIsi2, gIsi2, isTy2, isTy, Option.bind, bare, e_add, e_sub, e_int, e_lenS, e_lenT, e_lenL, e_lt, e_le, e_gt, e_ge, e_leC, e_ltC, e_isN, e_notN, e_pow,
  List.map_cons, List.map_nil, List.length_cons, List.length_nil, List.replicate_succ, List.replicate_zero, List.cons_append, List.nil_append, List.append_nil, List.getElem?_cons_zero, List.getElem?_cons_succ, List.set_cons_zero, List.set_cons_succ, Nat.reduceAdd, Nat.reduceSub, true_and, and_true, Bool.not_true, Bool.not_false, true_implies, forall_const, not_true_eq_false, false_implies, Bool.false_eq_true, not_false_eq_true, implies_true, eq_self, ne_eq, reduceCtorEq, Fl.rt.injEq, S.d.injEq, D.int.injEq, false_and, exists_false, or_false, false_or, exists_eq_left'])
local macro_rules | `(tactic| walk_at "wy") => `(tactic| try walk_at "wp")
local macro_rules | `(tactic| walk_at "we") => `(tactic| first | done | rfl | exact ⟨rfl, rfl⟩ | exact ⟨rfl, rfl, rfl⟩)
section
variable {ρ : En} {fa fe : M S} {x y : D} {ft : M Bool}
theorem ev_last {ds : List D} (ha : Ev fa ρ (.tup (ds ++ [x]))) : Ev (mOp gIx fa (mUn gNeg (mC (.int 1)))) ρ x := ev_op ha (ev_un ev_c rfl) (by
  have e : L2.atI (ds ++ [x]) (-1) = some x := by
    have hi : L2.ixN (ds ++ [x]).length (-1) = some ds.length := by
      rw [List.length_append, List.length_singleton]
      unfold L2.ixN
      simp
      try omega
    unfold L2.atI
    rw [hi]
    simp
  show (L2.atI (ds ++ [x]) (-1)).bind ok1 = _
  rw [e]
  rfl)
theorem ok_pop {i : Nat} {b : Option Nat} {ds : List D} {P : S → En → Prop} (e : ρ[i]? = some (some (.o b (.lst (ds ++ [x]))))) (q : P (.d x) (ρ.set i (some (.o b (.lst ds))))) : OK (mMeth0 i gPop ρ) P := by
  have eg : gPop (ds ++ [x]) = some (x, ds) := by
    have hi : (ds ++ [x])[(ds ++ [x]).length - 1]? = some x := by
      rw [List.length_append, List.length_singleton, Nat.add_sub_cancel]
      simp
    show (match (ds ++ [x])[(ds ++ [x]).length - 1]? with
      | some y => some (y, (ds ++ [x]).dropLast)
      | none => none) = _
    rw [hi]
    simp
  unfold mMeth0
  rw [e]
  dsimp only
  rw [eg]
  dsimp only
  rw [ok_ok]
  exact q
theorem ok_ext {i : Nat} {b : Option Nat} {ds es : List D} {PF : S → En → Prop} (e1 : ρ[i]? = some (some (.o b (.lst ds)))) (hb : Ev fe ρ (.lst es)) (hk : ds.length + es.length ≤ 1000000) (q : PF (.d .non) (ρ.set i (some (.o b (.lst (ds ++ es)))))) : OK (mMeth1 i gExt fe ρ) PF := by
  have hs : small (ds.length + es.length) = true := decide_eq_true (by omega)
  have eg : gExt ds (.lst es) = some (.non, ds ++ es) := if_pos hs
  unfold mMeth1 ownL
  rw [e1]
  dsimp only
  rw [if_pos rfl, ok_then]
  refine hb.dv ?_
  rw [e1]
  dsimp only
  rw [eg]
  dsimp only
  rw [ok_ok]
  exact q
/-- [f(x) for x in reversed(xs) if t] -/
theorem ev_revfm {k : Nat} {items : List D} {t : D → Bool} {f : D → D} {fs : M S} (hk : k < ρ.length) (hw : ρ.set k none = ρ) (hf : Ev fs ρ (.lst items)) (st : ∀ x ∈ items, EvB ft (ρ.set k (some (.d x))) (t x)) (sv : ∀ x ∈ items, Ev fe (ρ.set k (some (.d x))) (f x)) (hs : items.length ≤ 1000000) :
    Ev (mLc (iRevS (aCons fs aNil)) (gmName k) ft fe [k]) ρ (.lst ((items.reverse.filter t).map f)) := by
  have hwipe : ∀ x, wipeE (ρ.set k (some (.d x))) [k] = ρ := fun x => by
    show (ρ.set k (some (.d x))).set k none = ρ
    rw [List.set_set, hw]
  unfold Ev
  rw [ok_dv, ok_lc]
  unfold iRevS
  rw [ok_then]
  refine (ea_cons hf ea_nil).ok ?_
  dsimp only
  rw [ok_ok]
  have ew : wipeE ρ [k] = ρ := hw
  rw [ew]
  refine ok_comp (I := fun i a ρ' => a = ((items.reverse.take i).filter t).map f ∧ ρ' = ρ) (k := 0) ⟨by simp, rfl⟩ ?_ ?_
  · rintro i x a ρ' hx ⟨rfl, rfl⟩
    have hm : x ∈ items := List.mem_reverse.mp (List.mem_of_getElem? hx)
    have hi : i < items.reverse.length := (List.getElem?_eq_some_iff.mp hx).1
    rw [List.length_reverse] at hi
    have hle : ((items.reverse.take i).filter t).length ≤ i := Nat.le_trans (List.length_filter_le _ _) (by rw [List.length_take]; omega)
    have e : ((items.reverse.take (i + 1)).filter t).map f = ((items.reverse.take i).filter t).map f ++ (if t x then [f x] else []) := by
      rw [List.take_add_one, hx, List.filter_append, List.map_append]
      congr 1
      show List.map f (List.filter t [x]) = _
      rw [List.filter_cons, List.filter_nil]
      split <;> rfl
    rw [ok_gname]
    refine (st x hm).ok ⟨fun h => ?_, fun h => ?_⟩
    · refine (sv x hm).dv ⟨?_, ?_, hwipe x⟩
      · rw [List.length_map, Nat.zero_add]
        exact decide_eq_true (by omega)
      · rw [Nat.zero_add, e, if_pos h]
    · refine ⟨?_, hwipe x⟩
      rw [Nat.zero_add, e, if_neg h, List.append_nil]
  · rintro a ρ' ⟨rfl, rfl⟩
    rw [Nat.zero_add, List.take_length]
    exact ⟨_, rfl, rfl, rfl⟩
end
theorem gIn_one {a b : Int} : gIn (.int a) (.tup [.int b]) = some (.d (.bl (decide (b = a)))) := by
  have e : inD (.int a) [.int b] = decide (b = a) := by
    unfold inD
    simp only [List.any_cons, List.any_nil, Bool.or_false]
    rfl
  show (if (pl60 (.int a) && plA 60 [.int b]) = true then ok1 (.bl (inD (.int a) [.int b])) else none) = _
  rw [e]
  rfl
theorem gNotIn_ints {a : Nat} {p : List Nat} (hl : p.length ≤ 1000) : gNotIn (.int a) (pathD p) = some (.d (.bl (!decide (a ∈ p)))) := by
  have hp : plA 60 (p.map fun i : Nat => D.int i) = true := by
    have h : pl 61 (.tup (p.map fun i : Nat => D.int i)) = true := fit_pl (n := 1) (fit_tup (n := 0) (by rw [List.length_map]; omega) fun x hx => by
      obtain ⟨q, _, rfl⟩ := List.mem_map.mp hx
      exact fit_int) (by decide)
    exact h
  have e : inD (.int a) (p.map fun i : Nat => D.int i) = decide (a ∈ p) := by
    unfold inD
    rw [List.any_map, Bool.eq_iff_iff, List.any_eq_true, decide_eq_true_eq]
    constructor
    · rintro ⟨q, hq, h⟩
      have h : decide ((q : Int) = (a : Int)) = true := h
      rw [decide_eq_true_eq] at h
      have : q = a := by omega
      exact this ▸ hq
    · intro h
      refine ⟨a, h, ?_⟩
      show decide ((a : Int) = (a : Int)) = true
      simp
  show (if (pl60 (.int a) && plA 60 (p.map fun i : Nat => D.int i)) = true then ok1 (.bl (!inD (.int a) (p.map fun i : Nat => D.int i))) else none) = _
  rw [hp, e]
  rfl
theorem wt_small : ∀ {k : Nat}, k ≤ 5 → wt k ≤ 326
  | 0, _ => by decide
  | 1, _ => by decide
  | 2, _ => by decide
  | 3, _ => by decide
  | 4, _ => by decide
  | 5, _ => by decide
  | k + 6, h => by omega
theorem wt_pos : ∀ k : Nat, 1 ≤ wt k
  | 0 => Nat.le_refl _
  | k + 1 => by
    show 1 ≤ 1 + (k + 1) * wt k
    omega
theorem load_cons {n : Nat} {p : List Nat} {st : List (List Nat)} : load n (p :: st) = wt (n - p.length) + load n st := by
  unfold load
  rw [List.map_cons, List.sum_cons]
theorem load_app {n : Nat} {a b : List (List Nat)} : load n (a ++ b) = load n a + load n b := by
  unfold load
  rw [List.map_append, List.sum_append]
theorem load_len {n : Nat} : ∀ {st : List (List Nat)}, st.length ≤ load n st
  | [] => Nat.zero_le _
  | p :: st => by
    have := load_len (n := n) (st := st)
    have := wt_pos (n - p.length)
    rw [load_cons, List.length_cons]
    omega
theorem exts_rev {as : List (Nat × Nat)} {p : List Nat} : ((((hd as (lst p)).map fun i : Nat => D.int i).reverse.filter fun x => match x with | .int i => !decide (i.toNat ∈ p) | _ => false).map fun x => match x with | .int i => pathD (p ++ [i.toNat]) | _ => .non) = (exts as p).reverse.map pathD := by
  unfold exts
  rw [← List.map_reverse, List.filter_map, List.map_map, ← List.map_reverse, List.map_map, List.filter_reverse]
  congr 1
theorem paths_to {n node g : Nat} {as : List (Nat × Nat)} (o : OkArcs n as) (hn : n ≤ 6) (h1 : node < n) : OKF (f_paths_to [.d (headsD n as), .d (.int node), .d (.tup [.int g])]) fun s => s = .o none (.lst ((dfs as g (wt (n - 1)) [[node]] []).map pathD)) := by
  have w5 : wt (n - 1) ≤ 326 := wt_small (by omega)
  rw [okF]
  unfold f_paths_to
  refine ok_runF rfl ?_
  show OK (b_paths_to [some (.d (headsD n as)), some (.d (.int node)), some (.d (.tup [.int g])), none, none, none, none]) _
  unfold b_paths_to
  refine ok_seqI (fun ρ => ρ = [some (.d (headsD n as)), some (.d (.int node)), some (.d (.tup [.int g])), some (.o none (.lst [])), none, none, none]) ?_ ?_
  · rw [ok_asgO, ok_lst]
    exact ea_nil.ok ⟨rfl, .inl ⟨_, rfl, rfl, rfl⟩⟩
  rintro _ rfl
  refine ok_seqI (fun ρ => ρ = [some (.d (headsD n as)), some (.d (.int node)), some (.d (.tup [.int g])), some (.o none (.lst [])), some (.o none (.lst [pathD [node]])), none, none]) ?_ ?_
  · rw [ok_asgO, ok_lst]
    exact (ea_cons (ev_tup (ea_cons (ev_var 1 rfl) ea_nil)) ea_nil).ok ⟨rfl, .inl ⟨_, rfl, rfl, rfl⟩⟩
  rintro _ rfl
  generalize hR : dfs as g (wt (n - 1)) [[node]] [] = R
  refine ok_seqI (fun ρ => ∃ x4 x5, ρ = [some (.d (headsD n as)), some (.d (.int node)), some (.d (.tup [.int g])), some (.o none (.lst (R.map pathD))), x4, x5, none]) ?_ ?_
  · refine ok_while (I := fun m ρ => ∃ st acc x5, (∀ p ∈ st, Good n p) ∧ load n st = m ∧ (∃ f, m ≤ f ∧ dfs as g f st acc = R) ∧ acc.length + m ≤ 1000 ∧ ρ = [some (.d (headsD n as)), some (.d (.int node)), some (.d (.tup [.int g])), some (.o none (.lst (acc.map pathD))), some (.o none (.lst (st.reverse.map pathD))), x5, none]) ?_ (m := wt (n - 1)) (by omega) ⟨[[node]], [], none, ?_, ?_, ⟨_, Nat.le_refl _, hR⟩, ?_, rfl⟩
    · rintro m ρ ⟨st, acc, x5, hg, hm, ⟨f, hf, hd'⟩, hl, rfl⟩
      refine (eb_truO rfl).ok ⟨fun hb => ?_, fun hb => ?_⟩
      · cases st with
        | nil => simp at hb
        | cons p st =>
          have gp := hg p List.mem_cons_self
          have gs : ∀ q ∈ st, Good n q := fun q hq => hg q (List.mem_cons_of_mem _ hq)
          obtain ⟨p0, l, rfl⟩ : ∃ p0 l, p = p0 ++ [l] := ⟨p.dropLast, p.getLast gp.ne, (List.dropLast_concat_getLast gp.ne).symm⟩
          have el : lst (p0 ++ [l]) = l := by
            unfold lst
            simp
          have wp := wt_pos (n - (p0 ++ [l]).length)
          rw [load_cons] at hm
          have hplen := nodup_len gp.nd gp.lt
          obtain ⟨f, rfl⟩ : ∃ f', f = f' + 1 := ⟨f - 1, by omega⟩
          refine ok_seqI (fun ρ => ρ = [some (.d (headsD n as)), some (.d (.int node)), some (.d (.tup [.int g])), some (.o none (.lst (acc.map pathD))), some (.o none (.lst (st.reverse.map pathD))), some (.d (pathD (p0 ++ [l]))), none]) ?_ ?_
          · rw [ok_asg, ok_dv]
            have e : ((p0 ++ [l]) :: st).reverse.map pathD = st.reverse.map pathD ++ [pathD (p0 ++ [l])] := by
              rw [List.reverse_cons, List.map_append]
              rfl
            rw [e]
            refine ok_pop rfl ⟨_, rfl, ?_⟩
            rw [ok_gname]
            exact ⟨rfl, rfl⟩
          rintro _ rfl
          have ep : pathD (p0 ++ [l]) = .tup (p0.map (fun i : Nat => D.int i) ++ [.int l]) := by
            unfold pathD
            rw [List.map_append]
            rfl
          have elast : Ev (mOp gIx (mVar 5) (mUn gNeg (mC (.int 1)))) [some (.d (headsD n as)), some (.d (.int node)), some (.d (.tup [.int g])), some (.o none (.lst (acc.map pathD))), some (.o none (.lst (st.reverse.map pathD))), some (.d (pathD (p0 ++ [l]))), none] (.int l) := ev_last (ds := p0.map fun i : Nat => D.int i) (ev_var 5 (by rw [← ep]; rfl))
          rw [ok_ifS]
          refine (eb_test (ev_op elast (ev_var 2 rfl) gIn_one)).ok ⟨fun hb => ?_, fun hb => ?_⟩
          · have hgl : lst (p0 ++ [l]) = g := by
              rw [decide_eq_true_eq] at hb
              rw [el]
              omega
            rw [ok_drop]
            refine ok_appE rfl (ev_var 5 rfl) (by rw [List.length_map]; omega) ⟨rfl, load n st, by omega, st, acc ++ [p0 ++ [l]], some (.d (pathD (p0 ++ [l]))), gs, rfl, ⟨f, by omega, ?_⟩, by rw [List.length_append, List.length_singleton]; omega, ?_⟩
            · rw [← hd']
              show _ = if lst (p0 ++ [l]) = g then _ else _
              rw [if_pos hgl]
            · rw [List.map_append]
              rfl
          · have hgl : ¬lst (p0 ++ [l]) = g := by
              rw [decide_eq_true_eq] at hb
              rw [el]
              omega
            have le := load_exts o gp
            have ln : l < n := gp.lt l (by simp)
            rw [ok_drop]
            have hl1 := load_len (n := n) (st := st)
            have hl2 := exts_len o gp
            have hh : (hd as l).length ≤ n := nodup_len (hd_nodup o l) fun i hi => hd_lt o hi
            have ev : Ev (mLc (iRevS (aCons (mOp gDget (mVar 0) (mOp gIx (mVar 5) (mUn gNeg (mC (.int 1))))) aNil)) (gmName 6) (mTest (mOp gNotIn (mVar 6) (mVar 5))) (mTup (aStar (mVar 5) (aCons (mVar 6) aNil))) [6]) [some (.d (headsD n as)), some (.d (.int node)), some (.d (.tup [.int g])), some (.o none (.lst (acc.map pathD))), some (.o none (.lst (st.reverse.map pathD))), some (.d (pathD (p0 ++ [l]))), none] (.lst ((exts as (p0 ++ [l])).reverse.map pathD)) := by
              rw [← exts_rev, el]
              refine ev_revfm (by show 6 < 7; omega) rfl (ev_dget (i := l) (ev_var 0 rfl) elast homog_ints ?_ ?_) ?_ ?_ (by rw [List.length_map]; omega)
              · have := keyAt_ints (n := n) (i := l) (lo := 0) ln
                rw [Nat.zero_add] at this
                exact this
              · rw [List.getElem?_map, intsFrom_get n 0 l ln]
                show some (natsD (hd as ((0 : Int) + (l : Int)).toNat)) = some (natsD (hd as l))
                rw [Int.zero_add, Int.toNat_natCast]
              · intro x hx
                obtain ⟨i, _, rfl⟩ := List.mem_map.mp hx
                exact eb_test (ev_op (ev_var 6 rfl) (ev_var 5 rfl) (by
                  rw [gNotIn_ints (by omega)]
                  show _ = some (S.d (.bl (!decide (((i : Nat) : Int).toNat ∈ p0 ++ [l]))))
                  rw [Int.toNat_natCast]))
              · intro x hx
                obtain ⟨i, _, rfl⟩ := List.mem_map.mp hx
                have e2 : pathD (p0 ++ [l] ++ [((i : Nat) : Int).toNat]) = .tup ((p0 ++ [l]).map (fun i : Nat => D.int i) ++ [.int i]) := by
                  unfold pathD
                  rw [Int.toNat_natCast, List.map_append]
                  rfl
                show Ev _ _ (pathD (p0 ++ [l] ++ [((i : Nat) : Int).toNat]))
                rw [e2]
                refine ev_tup ?_ (decide_eq_true (by rw [List.length_append, List.length_map, List.length_singleton]; omega))
                unfold EvA aStar
                rw [ok_then]
                refine (ev_var 5 rfl).dv ?_
                show OK (((aCons (mVar 6) aNil) _).then fun es ρ2 => Out.ok ((p0 ++ [l]).map (fun i : Nat => D.int i) ++ es) ρ2) _
                rw [ok_then]
                refine (ea_cons (ev_var 6 rfl) ea_nil).ok ?_
                rw [ok_ok]
                exact ⟨rfl, rfl⟩
            refine ok_ext rfl ev (by rw [List.length_map, List.length_reverse, List.length_map, List.length_reverse]; omega) ⟨rfl, load n (exts as (p0 ++ [l]) ++ st), by rw [load_app]; omega, exts as (p0 ++ [l]) ++ st, acc, some (.d (pathD (p0 ++ [l]))), fun q hq => ?_, rfl, ⟨f, by rw [load_app]; omega, ?_⟩, by rw [load_app]; omega, ?_⟩
            · rcases List.mem_append.mp hq with hq | hq
              · exact (exts_good o gp hq).1
              · exact gs q hq
            · rw [← hd']
              show _ = if lst (p0 ++ [l]) = g then _ else _
              rw [if_neg hgl]
            · rw [List.reverse_append, List.map_append]
              rfl
      · cases st with
        | cons p st => simp at hb
        | nil =>
          have : acc = R := by
            rw [← hd']
            cases f <;> rfl
          rw [← this]
          exact ⟨rfl, _, _, rfl⟩
    · intro p hp
      rw [List.mem_singleton.mp hp]
      exact ⟨by simp, by simp, fun i hi => by rw [List.mem_singleton.mp hi]; exact h1⟩
    · show wt (n - 1) + 0 = _
      rfl
    · show 0 + wt (n - 1) ≤ 1000
      omega
  rintro _ ⟨x4, x5, rfl⟩
  unfold mRetO
  dsimp only [List.getElem?_cons_succ, List.getElem?_cons_zero]
  rw [ok_ok]
  exact .inl ⟨_, rfl, rfl⟩
end Fx.Lib
/-! k01: the tree of simple paths -/
namespace Fx.Lib
open PySem
/-- the paths to g from p on, k steps more at most -/
def tree (as : List (Nat × Nat)) (g : Nat) : Nat → List Nat → List (List Nat)
  | 0, p => if lst p = g then [p] else []
  | k + 1, p => if lst p = g then [p] else (exts as p).flatMap (tree as g k)
theorem tree_goal {as : List (Nat × Nat)} {g k : Nat} {p : List Nat} (h : lst p = g) : tree as g k p = [p] := by
  cases k with
  | zero => exact if_pos h
  | succ k => exact if_pos h
def toI (p : List Nat) : List Int := p.map fun i : Nat => (i : Int)
theorem lexI_split {x y : Int} (h : x < y) : ∀ {a s t : List Int}, lexI (a ++ x :: s) (a ++ y :: t) = true
  | [], s, t => by
    show (if x = y then lexI s t else decide (x < y)) = true
    rw [if_neg (by omega)]
    exact decide_eq_true h
  | b :: a, s, t => by
    show (if b = b then lexI (a ++ x :: s) (a ++ y :: t) else decide (b < b)) = true
    rw [if_pos rfl]
    exact lexI_split h
section
variable {n g : Nat} {as : List (Nat × Nat)} (o : OkArcs n as)
include o
theorem exts_none {p : List Nat} (gp : Good n p) (h : n - p.length = 0) : exts as p = [] := by
  have := exts_len o gp
  exact List.eq_nil_of_length_eq_zero (by omega)
theorem tree_step {p : List Nat} (gp : Good n p) (h : ¬lst p = g) : tree as g (n - p.length) p = (exts as p).flatMap fun q => tree as g (n - q.length) q := by
  have e : (exts as p).flatMap (fun q => tree as g (n - q.length) q) = (exts as p).flatMap (tree as g (n - p.length - 1)) := by
    rw [List.flatMap_def, List.flatMap_def]
    congr 1
    refine List.map_congr_left fun q hq => ?_
    rw [(exts_good o gp hq).2]
    rfl
  rw [e]
  cases hk : n - p.length with
  | zero =>
    rw [exts_none o gp hk]
    exact if_neg h
  | succ k => exact if_neg h
theorem dfs_tree : ∀ {f : Nat} {st acc : List (List Nat)}, load n st ≤ f → (∀ p ∈ st, Good n p) → dfs as g f st acc = acc ++ st.flatMap fun p => tree as g (n - p.length) p
  | 0, st, acc, h, _ => by
    have := load_len (n := n) (st := st)
    have e : st = [] := List.eq_nil_of_length_eq_zero (by omega)
    rw [e]
    simp [dfs]
  | f + 1, [], acc, _, _ => by simp [dfs]
  | f + 1, p :: st, acc, h, hg => by
    have gp := hg p List.mem_cons_self
    have gs : ∀ q ∈ st, Good n q := fun q hq => hg q (List.mem_cons_of_mem _ hq)
    have wp := wt_pos (n - p.length)
    rw [load_cons] at h
    rw [List.flatMap_cons]
    show (if lst p = g then dfs as g f st (acc ++ [p]) else dfs as g f (exts as p ++ st) acc) = _
    by_cases e : lst p = g
    · rw [if_pos e, dfs_tree (by omega) gs, tree_goal e, List.append_assoc]
    · have le := load_exts o gp
      rw [if_neg e, dfs_tree (by rw [load_app]; omega) fun q hq => ?_, List.flatMap_append, tree_step o gp e]
      rcases List.mem_append.mp hq with hq | hq
      · exact (exts_good o gp hq).1
      · exact gs q hq
theorem tree_pre {k : Nat} : ∀ {p q : List Nat}, q ∈ tree as g k p → ∃ s, q = p ++ s := by
  induction k with
  | zero =>
    intro p q h
    unfold tree at h
    split at h
    · exact ⟨[], by rw [List.mem_singleton.mp h, List.append_nil]⟩
    · simp at h
  | succ k ih =>
    intro p q h
    unfold tree at h
    split at h
    · exact ⟨[], by rw [List.mem_singleton.mp h, List.append_nil]⟩
    · obtain ⟨r, hr, hq⟩ := List.mem_flatMap.mp h
      obtain ⟨s, rfl⟩ := ih hq
      unfold exts at hr
      obtain ⟨x, _, rfl⟩ := List.mem_map.mp hr
      exact ⟨[x] ++ s, by rw [List.append_assoc]⟩
theorem tree_asc {k : Nat} : ∀ {p : List Nat}, (tree as g k p).Pairwise fun a b => lexI (toI a) (toI b) = true := by
  induction k with
  | zero =>
    intro p
    unfold tree
    split
    · exact List.pairwise_singleton _ _
    · exact .nil
  | succ k ih =>
    intro p
    unfold tree
    split
    · exact List.pairwise_singleton _ _
    · rw [List.pairwise_flatMap]
      refine ⟨fun q _ => ih, ?_⟩
      unfold exts
      rw [List.pairwise_map]
      have hasc : (hd as (lst p)).Pairwise (· < ·) := by
        unfold hd
        rw [List.pairwise_map]
        refine List.Pairwise.imp_of_mem (fun {a b} ha hb h => ?_) (o.asc.filter _)
        have h1 := (List.mem_filter.mp ha).2
        have h2 := (List.mem_filter.mp hb).2
        rw [decide_eq_true_eq] at h1 h2
        unfold ltA at h
        omega
      refine (hasc.filter _).imp fun {a b} hab x hx y hy => ?_
      obtain ⟨s, rfl⟩ := tree_pre o hx
      obtain ⟨t, rfl⟩ := tree_pre o hy
      unfold toI
      rw [List.map_append, List.map_append, List.map_append, List.map_append, List.append_assoc, List.append_assoc]
      exact lexI_split (x := (a : Int)) (y := (b : Int)) (by omega)
end
end Fx.Lib
/-! k01: simple_paths, and the law's own paths, on data -/
namespace Fx.Lib
open PySem
local macro_rules | `(tactic| walk_at "wp") => `(tactic| simp only [okF_runF, okF_runL, ok_seq, ok_ret, ok_retN, ok_andV, ok_orV, ok_notV, ok_cb, ok_cons, ok_nil, ok_test, ok_dv, ok_op, ok_un, ok_c, ok_if, ok_ifS, ok_and, ok_or, ok_not, ok_asg, ok_gname, ok_drop, ok_call, ok_chain, ok_nx, ok_bk, ok_ct, ok_st, ok_yes, ok_tup, ok_ok, ok_stuck, ex_toD, ex_toL, ex_bl, ex_some, ex_bl1, fl_nx, fl_rt, fl_bk, fl_ct, rt_or, nx_or, mVar, ok1, gIsi, mIsi2, gIsi2, isTy2, isTy, Option.bind, bare, e_add, e_sub, e_int, e_lenS, e_lenT, e_lenL, e_lt, e_le, e_gt, e_ge, e_leC, e_ltC, e_isN, e_notN, e_pow,
  List.map_cons, List.map_nil, List.length_cons, List.length_nil, List.replicate_succ, List.replicate_zero, List.cons_append, List.nil_append, List.append_nil, List.getElem?_cons_zero, List.getElem?_cons_succ, List.set_cons_zero, List.set_cons_succ, Nat.reduceAdd, Nat.reduceSub, true_and, and_true, Bool.not_true, Bool.not_false, true_implies, forall_const, not_true_eq_false, false_implies, Bool.false_eq_true, not_false_eq_true, implies_true, eq_self, ne_eq, reduceCtorEq, Fl.rt.injEq, S.d.injEq, D.int.injEq, false_and, exists_false, or_false, false_or, exists_eq_left'])
local macro_rules | `(tactic| walk_at "wt") => `(tactic| simp (config := { contextual := false }) only [ok_row0, ok_row1, ok_row2, ok_row3, ok_put1, ok_put2, ok_put3, e_mod, e_div, e_mul, e_ixS, decide_true, decide_false, *, okF_runF, okF_runL, ok_seq, ok_ret, ok_retN, ok_andV, ok_orV, ok_notV, ok_cb, ok_cons, ok_nil, ok_test, ok_dv, ok_op, ok_un, ok_c, ok_if, ok_ifS, ok_and, ok_or, ok_not, ok_asg, ok_gname, ok_drop, ok_call, ok_chain, ok_nx, ok_bk, ok_ct, ok_st, ok_yes, ok_tup, ok_ok, ok_stuck, ex_toD, ex_toL, ex_bl, ex_some, ex_bl1, fl_nx, fl_rt, fl_bk, fl_ct, rt_or, nx_or, mVar, ok1, gIsi, mIsi2, gIsi2, isTy2, isTy, Option.bind, bare, e_add, e_sub, e_int, e_lenS, e_lenT, e_lenL, e_lt, e_le, e_gt, e_ge, e_leC, e_ltC, e_isN, e_notN, e_pow,
  List.map_cons, List.map_nil, List.length_cons, List.length_nil, List.replicate_succ, List.replicate_zero, List.cons_append, List.nil_append, List.append_nil, List.getElem?_cons_zero, List.getElem?_cons_succ, List.set_cons_zero, List.set_cons_succ, Nat.reduceAdd, Nat.reduceSub, true_and, and_true, Bool.not_true, Bool.not_false, true_implies, forall_const, not_true_eq_false, false_implies, Bool.false_eq_true, not_false_eq_true, implies_true, eq_self, ne_eq, reduceCtorEq, Fl.rt.injEq, S.d.injEq, D.int.injEq, false_and, exists_false, or_false, false_or, exists_eq_left'])
local macro_rules | `(tactic| walk_at "wy") => `(tactic| try walk_at "wp")
local macro_rules | `(tactic| walk_at "we") => `(tactic| first | done | rfl | exact ⟨rfl, rfl⟩ | exact ⟨rfl, rfl, rfl⟩)
section
variable {n g : Nat} {as : List (Nat × Nat)} (o : OkArcs n as)
include o
theorem tree_len : ∀ {k : Nat} {p : List Nat}, Good n p → n - p.length ≤ k → (tree as g k p).length ≤ wt k
  | 0, p, gp, h => by
    unfold tree
    split
    · exact Nat.le_refl _
    · exact Nat.zero_le _
  | k + 1, p, gp, h => by
    unfold tree
    split
    · exact wt_pos _
    · have key : ∀ l : List (List Nat), (∀ q ∈ l, (tree as g k q).length ≤ wt k) → (l.flatMap (tree as g k)).length ≤ l.length * wt k := by
        intro l
        induction l with
        | nil => simp
        | cons q l ih =>
          intro hl
          rw [List.flatMap_cons, List.length_append, List.length_cons, Nat.succ_mul]
          have := hl q List.mem_cons_self
          have := ih fun r hr => hl r (List.mem_cons_of_mem _ hr)
          omega
      have h1 := key (exts as p) fun q hq => tree_len (exts_good o gp hq).1 (by rw [(exts_good o gp hq).2]; omega)
      have h2 := exts_len o gp
      have h3 : (exts as p).length * wt k ≤ (k + 1) * wt k := Nat.mul_le_mul (by omega) (Nat.le_refl _)
      show _ ≤ 1 + (k + 1) * wt k
      omega
end
end Fx.Lib
/-! the simple paths of a relation among those of all nodes -/
namespace Fx.Lib
open PySem
def arcsL (n : Nat) (R : Nat → Nat → Bool) : List (Nat × Nat) := (List.range n).flatMap fun v => ((List.range n).filter (R v)).map fun w => (v, w)
theorem mem_arcsL {n : Nat} {R : Nat → Nat → Bool} {p : Nat × Nat} : p ∈ arcsL n R ↔ p.1 < n ∧ p.2 < n ∧ R p.1 p.2 = true := by
  unfold arcsL
  rw [List.mem_flatMap]
  constructor
  · rintro ⟨v, hv, h⟩
    obtain ⟨w, hw, rfl⟩ := List.mem_map.mp h
    rw [List.mem_filter] at hw
    exact ⟨List.mem_range.mp hv, List.mem_range.mp hw.1, hw.2⟩
  · rintro ⟨h1, h2, h3⟩
    exact ⟨p.1, List.mem_range.mpr h1, List.mem_map.mpr ⟨p.2, List.mem_filter.mpr ⟨List.mem_range.mpr h2, h3⟩, rfl⟩⟩
theorem arcsL_ok {n : Nat} {R : Nat → Nat → Bool} (hR : ∀ v, R v v = false) : OkArcs n (arcsL n R) where
  rng := fun p hp => by
    obtain ⟨h1, h2, h3⟩ := mem_arcsL.mp hp
    refine ⟨h1, h2, fun e => ?_⟩
    rw [← e, hR] at h3
    cases h3
  asc := by
    unfold arcsL
    rw [List.pairwise_flatMap]
    refine ⟨fun v hv => ?_, ?_⟩
    · rw [List.pairwise_map]
      exact (List.pairwise_lt_range.filter _).imp fun h => .inr ⟨rfl, h⟩
    · refine List.pairwise_lt_range.imp fun {a b} h x hx y hy => ?_
      obtain ⟨_, _, rfl⟩ := List.mem_map.mp hx
      obtain ⟨_, _, rfl⟩ := List.mem_map.mp hy
      exact .inl h
theorem hd_arcsL {n v : Nat} {R : Nat → Nat → Bool} (hv : v < n) : hd (arcsL n R) v = (List.range n).filter (R v) := by
  unfold hd arcsL
  have key : ∀ (l : List Nat), l.Nodup → ((l.flatMap fun u => ((List.range n).filter (R u)).map fun w => (u, w)).filter fun p => decide (p.1 = v)).map (fun p => p.2) = if v ∈ l then (List.range n).filter (R v) else [] := by
    intro l
    induction l with
    | nil => intro _; rfl
    | cons u l ih =>
      intro nd
      rw [List.nodup_cons] at nd
      rw [List.flatMap_cons, List.filter_append, List.map_append, ih nd.2]
      by_cases e : v = u
      · subst e
        rw [if_neg nd.1, if_pos List.mem_cons_self, List.append_nil, List.filter_eq_self.mpr, List.map_map]
        · exact List.map_id _
        · intro p hp
          obtain ⟨_, _, rfl⟩ := List.mem_map.mp hp
          exact decide_eq_true rfl
      · have : (((List.range n).filter (R u)).map fun w => (u, w)).filter (fun p => decide (p.1 = v)) = [] := by
          rw [List.filter_eq_nil_iff]
          intro p hp
          obtain ⟨_, _, rfl⟩ := List.mem_map.mp hp
          simpa using fun z => e z.symm
        rw [this]
        simp only [List.map_nil, List.nil_append, List.mem_cons, e, false_or]
  rw [key _ List.nodup_range, if_pos (List.mem_range.mpr hv)]
theorem mem_hd {as : List (Nat × Nat)} {i h : Nat} : h ∈ hd as i ↔ (i, h) ∈ as := by
  unfold hd
  rw [List.mem_map]
  constructor
  · rintro ⟨p, hp, rfl⟩
    rw [List.mem_filter, decide_eq_true_iff] at hp
    obtain ⟨h1, rfl⟩ := hp
    exact h1
  · intro h1
    exact ⟨_, List.mem_filter.mpr ⟨h1, decide_eq_true rfl⟩, rfl⟩
def isEx (as : List (Nat × Nat)) (g : Nat) : List Nat → List Nat → Prop
  | p, [] => lst p = g
  | p, h :: t => lst p ≠ g ∧ (lst p, h) ∈ as ∧ h ∉ p ∧ isEx as g (p ++ [h]) t
theorem mem_tree {n g : Nat} {as : List (Nat × Nat)} (o : OkArcs n as) : ∀ (k : Nat) {p q : List Nat}, n - p.length = k → Good n p → (q ∈ tree as g (n - p.length) p ↔ ∃ s, q = p ++ s ∧ isEx as g p s) := by
  intro k
  induction k using Nat.strongRecOn with
  | ind k ih =>
    intro p q hk gp
    by_cases e : lst p = g
    · rw [tree_goal e, List.mem_singleton]
      constructor
      · rintro rfl
        exact ⟨[], (List.append_nil _).symm, e⟩
      · rintro ⟨s, rfl, h⟩
        cases s with
        | nil => exact List.append_nil _
        | cons h t => exact absurd e h.1
    · rw [tree_step o gp e, List.mem_flatMap]
      constructor
      · rintro ⟨q', hq', hm⟩
        have gq := exts_good o gp hq'
        have hl := nodup_len gq.1.nd gq.1.lt
        rw [ih (n - q'.length) (by omega) rfl gq.1] at hm
        unfold exts at hq'
        obtain ⟨h, hh, rfl⟩ := List.mem_map.mp hq'
        rw [List.mem_filter] at hh
        obtain ⟨s, rfl, hs⟩ := hm
        exact ⟨h :: s, by rw [List.append_assoc]; rfl, e, mem_hd.mp hh.1, by simpa using hh.2, hs⟩
      · rintro ⟨s, rfl, h⟩
        cases s with
        | nil => exact absurd h e
        | cons h' t =>
          obtain ⟨_, h2, h3, h4⟩ := h
          have hq' : p ++ [h'] ∈ exts as p := List.mem_map.mpr ⟨h', List.mem_filter.mpr ⟨mem_hd.mpr h2, by simpa using h3⟩, rfl⟩
          have gq := exts_good o gp hq'
          have hl := nodup_len gq.1.nd gq.1.lt
          refine ⟨_, hq', ?_⟩
          rw [ih (n - (p ++ [h']).length) (by omega) rfl gq.1]
          exact ⟨t, by rw [List.append_assoc]; rfl, h4⟩
theorem lstA_getD {p : List Nat} (h : p ≠ []) {t : List Nat} : (p ++ t).getD (p.length - 1) 0 = lst p := by
  have hp : 0 < p.length := List.length_pos_iff.mpr h
  unfold lst
  rw [List.getLast?_eq_getElem?, List.getD_eq_getElem?_getD, List.getElem?_append_left (by omega)]
theorem isEx_mono {as bs : List (Nat × Nat)} {g : Nat} (hs : ∀ p ∈ as, p ∈ bs) : ∀ {s p : List Nat}, isEx as g p s → isEx bs g p s
  | [], _, h => h
  | _ :: _, _, ⟨h1, h2, h3, h4⟩ => ⟨h1, hs _ h2, h3, isEx_mono hs h4⟩
theorem isEx_back {as bs : List (Nat × Nat)} {g : Nat} : ∀ {s p : List Nat}, p ≠ [] → (∀ i, i + 1 < (p ++ s).length → ((p ++ s).getD i 0, (p ++ s).getD (i + 1) 0) ∈ as) → isEx bs g p s → isEx as g p s
  | [], _, _, _, h => h
  | h :: t, p, ne, ha, ⟨h1, h2, h3, h4⟩ => by
    have hp : 0 < p.length := List.length_pos_iff.mpr ne
    have e : p ++ h :: t = (p ++ [h]) ++ t := by rw [List.append_assoc]; rfl
    have a := ha (p.length - 1) (by rw [List.length_append, List.length_cons]; omega)
    rw [lstA_getD ne, show p.length - 1 + 1 = p.length by omega] at a
    have eh : (p ++ h :: t).getD p.length 0 = h := by
      rw [List.getD_eq_getElem?_getD, List.getElem?_append_right (Nat.le_refl _), Nat.sub_self]
      rfl
    rw [eh] at a
    refine ⟨h1, a, h3, isEx_back (by simp) (fun i hi => ?_) h4⟩
    rw [← e] at hi ⊢
    exact ha i hi
theorem tree_nodup {n g k : Nat} {as : List (Nat × Nat)} (o : OkArcs n as) {p : List Nat} : (tree as g k p).Nodup := by
  refine (tree_asc o (g := g) (k := k) (p := p)).imp fun {a b} h e => ?_
  subst e
  have := lexI_asym h
  rw [h] at this
  cases this
/-- what passes a test that asks for the arcs is the same among all paths -/
theorem tree_perm {n g v : Nat} {as bs : List (Nat × Nat)} {T : List Nat → Bool} (oa : OkArcs n as) (ob : OkArcs n bs) (hs : ∀ p ∈ as, p ∈ bs) (hv : v < n) (hT : ∀ q, (∀ x ∈ q, x < n) → T q = true → ∀ i, i + 1 < q.length → (q.getD i 0, q.getD (i + 1) 0) ∈ as) : ((tree as g (n - 1) [v]).filter T).Perm ((tree bs g (n - 1) [v]).filter T) := by
  have gv : Good n [v] := ⟨by simp, by simp, fun i hi => by rw [List.mem_singleton.mp hi]; exact hv⟩
  refine (List.perm_ext_iff_of_nodup ((tree_nodup oa).filter _) ((tree_nodup ob).filter _)).mpr fun q => ?_
  have m1 := mem_tree oa (g := g) (q := q) (n - 1) rfl gv
  have m2 := mem_tree ob (g := g) (q := q) (n - 1) rfl gv
  rw [List.mem_filter, List.mem_filter]
  refine and_congr_left fun ht => ?_
  refine m1.trans (Iff.trans ?_ m2.symm)
  constructor
  · rintro ⟨s, rfl, h⟩
    exact ⟨s, rfl, isEx_mono hs h⟩
  · rintro ⟨s, rfl, h⟩
    refine ⟨s, rfl, isEx_back (by simp) (hT _ ?_ ht) h⟩
    -- all its nodes lie below n
    have key : ∀ {s p : List Nat}, (∀ x ∈ p, x < n) → isEx bs g p s → ∀ x ∈ p ++ s, x < n := fun {s} => by
      induction s with
      | nil => intro p hp _ x hx; rw [List.append_nil] at hx; exact hp x hx
      | cons h t ih =>
        rintro p hp ⟨_, h2, _, h4⟩ x hx
        refine ih (p := p ++ [h]) (fun y hy => ?_) h4 x (by rw [List.append_assoc]; exact hx)
        rcases List.mem_append.mp hy with z | z
        · exact hp y z
        · rw [List.mem_singleton.mp z]
          exact (ob.rng _ h2).2.1
    exact key gv.lt h
end Fx.Lib
/-! trades: kinds of links, what the law calls paid; a link's rank -/
namespace Fx.Td
open PySem Lib Nl
/-! ### dicts of kinds -/
theorem has_get {kv : AL} {p : Nat × Nat} : hasA kv p = (getA kv p).isSome := by
  unfold hasA getA
  rw [Option.isSome_map, Bool.eq_iff_iff, List.any_eq_true, List.find?_isSome]
theorem has_linked {n : Nat} {C P : List (Nat × Nat)} (o : OkTrade n C P) (v w : Nat) : hasA (kindsA C P) (v, w) = linked C P v w := by
  rw [has_get, kinds_at o]
  unfold linked
  by_cases h1 : (v, w) ∈ C
  · simp [h1]
  · by_cases h2 : (w, v) ∈ C
    · simp [h1, h2]
    · by_cases h3 : (v, w) ∈ P
      · simp [h1, h2, h3]
      · by_cases h4 : (w, v) ∈ P <;> simp [h1, h2, h3, h4]
theorem linked_symm {C P : List (Nat × Nat)} {v w : Nat} (h : linked C P v w = true) : linked C P w v = true := by
  unfold linked at h ⊢
  simp only [Bool.or_eq_true, decide_eq_true_eq] at h ⊢
  rcases h with (h | h | h) | h
  · exact .inr h
  · exact .inl (.inr (.inr h))
  · exact .inl (.inr (.inl h))
  · exact .inl (.inl h)
def kd (C : List (Nat × Nat)) (q : Nat × Nat) : D := if q ∈ C then cust else if (q.2, q.1) ∈ C then prov else peer
theorem get_kd {n : Nat} {C P : List (Nat × Nat)} (o : OkTrade n C P) {v w : Nat} (h : linked C P v w = true) : getA (kindsA C P) (v, w) = some (kd C (v, w)) := by
  have hs : (getA (kindsA C P) (v, w)).isSome = true := by rw [← has_get, has_linked o, h]
  rw [kinds_at o] at hs ⊢
  unfold kd
  split
  · rfl
  · split
    · rfl
    · split
      · rfl
      · rename_i h1 h2 h3
        rw [if_neg h1, if_neg h2, if_neg h3] at hs
        cases hs
theorem inN {ρ : En} {i : Nat} {neg : Bool} {fe : M S} {kv : AL} {p : Nat × Nat} (e : peek ρ i = some (adD kv)) (h : Ev fe ρ (arcD p)) : Ev (mInN neg fe i) ρ (.bl (if neg then !hasA kv p else hasA kv p)) := ev_of (by
  unfold mInN
  rw [ok_then]
  refine h.dv ?_
  rw [e]
  dsimp only
  have eg : gInD neg (arcD p) (adD kv) = some (.d (.bl (if neg then !hasA kv p else hasA kv p))) := by
    show (if homog (aks kv) (arcD p) then ok1 (.bl (if neg then !hasKey (aks kv) (arcD p) else hasKey (aks kv) (arcD p))) else none) = _
    rw [if_pos homogA, anyA]
    rfl
  rw [eg]
  dsimp only
  rw [ok_ok]
  exact ⟨rfl, rfl⟩)
theorem dget {ρ : En} {fa fb : M S} {kv : AL} {p : Nat × Nat} {x : D} (ha : Ev fa ρ (adD kv)) (hb : Ev fb ρ (arcD p)) (e : getA kv p = some x) : Ev (mOp gDget fa fb) ρ x := ev_op ha hb (by
  show (if homog (aks kv) (arcD p) then (look (aks kv) (arcD p) (kv.map (·.2))).bind ok1 else none) = _
  rw [if_pos homogA, look_A, e]
  rfl)
theorem nin_kd {C : List (Nat × Nat)} {p q : Nat × Nat} : gNotIn (.str "customer") (.lst [kd C p, kd C q]) = some (.d (.bl (!(decide (p ∈ C) || decide (q ∈ C))))) := by
  unfold kd
  by_cases h1 : p ∈ C
  · by_cases h2 : q ∈ C
    · rw [if_pos h1, if_pos h2, decide_eq_true h1, decide_eq_true h2]; kernel_rfl
    · rw [if_pos h1, if_neg h2, decide_eq_true h1, decide_eq_false h2]; split <;> kernel_rfl
  · by_cases h2 : q ∈ C
    · rw [if_neg h1, if_pos h2, decide_eq_false h1, decide_eq_true h2]; split <;> kernel_rfl
    · rw [if_neg h1, if_neg h2, decide_eq_false h1, decide_eq_false h2]; split <;> split <;> kernel_rfl
theorem allL_iff {C P : List (Nat × Nat)} {L : List Nat} : allL C P L = true ↔ ∀ i, i + 1 < L.length → linked C P (L.getD i 0) (L.getD (i + 1) 0) = true := by
  unfold allL
  rw [List.all_eq_true]
  constructor
  · intro h i hi
    refine h (L.getD i 0, L.getD (i + 1) 0) (List.mem_of_getElem? (i := i) ?_)
    rw [List.getElem?_zip_eq_some, List.getElem?_drop, Nat.add_comm 1 i]
    exact ⟨getD_at (by omega), getD_at hi⟩
  · rintro h ⟨v, w⟩ hp
    obtain ⟨i, hi⟩ := List.getElem?_of_mem hp
    rw [List.getElem?_zip_eq_some, List.getElem?_drop, Nat.add_comm 1 i] at hi
    have h2 : i + 1 < L.length := (List.getElem?_eq_some_iff.mp hi.2).1
    have := h i h2
    rw [List.getD_eq_getElem?_getD, List.getD_eq_getElem?_getD, hi.1, hi.2] at this
    exact this
theorem allG_iff {C : List (Nat × Nat)} {L : List Nat} : allG C L = true ↔ ∀ i, 1 ≤ i → i + 1 < L.length → gainsAt C L i = true := by
  unfold allG
  rw [List.all_eq_true]
  constructor
  · intro h i h1 h2
    have := h (i - 1) (List.mem_range.mpr (by omega))
    rw [show i - 1 + 1 = i by omega] at this
    exact this
  · intro h i hi
    have := List.mem_range.mp hi
    exact h (i + 1) (by omega) (by omega)
theorem law_paid {n : Nat} {C P : List (Nat × Nat)} (o : OkTrade n C P) {L : List Nat} (l0 : 0 < L.length) (l1 : L.length ≤ 100) :
    OKF (f_law_paid [.d (adD (kindsA C P)), .d (.tup (nl L))]) fun s => s = .d (.bl (allL C P L && allG C L)) := by
  rw [okF]
  unfold Lib.f_law_paid
  refine ok_runF rfl ?_
  show OK (Lib.b_law_paid [some (.d (adD (kindsA C P))), some (.d (.tup (nl L))), none]) _
  unfold Lib.b_law_paid
  refine sqI (forR (n := L.length - 1) (I := fun k ρ => (∃ x2, ρ = [some (.d (adD (kindsA C P))), some (.d (.tup (nl L))), x2]) ∧ ∀ i, i < k → linked C P (L.getD i 0) (L.getD (i + 1) 0) = true) (ea_cons (sub1 (lenN (ev_var 1 rfl)) (by omega)) ea_nil) (by omega) ⟨⟨_, rfl⟩, fun i hi => absurd hi (Nat.not_lt_zero _)⟩ ?_ ?_)
  · rintro k _ hk ⟨⟨x2, rfl⟩, hI⟩
    simp only [List.set_cons_succ, List.set_cons_zero]
    have e1 := inN (neg := true) (i := 0) (kv := kindsA C P) (p := (L.getD k 0, L.getD (k + 1) 0)) (ρ := [some (.d (adD (kindsA C P))), some (.d (.tup (nl L))), some (.d (.int (k : Nat)))]) rfl (sl2 (ev_var 1 rfl) (ev_var 2 rfl) (addN (c := 2) (ev_var 2 rfl) ev_c) (getD_at (by omega)) (getD_at (by omega)))
    rw [has_linked o] at e1
    refine ifB (eb_test e1) (fun h => ?_) fun h => ?_
    · rw [ok_ret, ok_c]
      refine finR (.inr ⟨fun z => (nomatch z), .inl ⟨_, rfl, ?_⟩⟩)
      have : allL C P L = false := by
        cases z : allL C P L with
        | false => rfl
        | true =>
          have := allL_iff.mp z k (by omega)
          rw [this] at h
          cases h
      rw [this]
      rfl
    · rw [ok_nx]
      refine fin ⟨⟨_, rfl⟩, fun i hi => ?_⟩
      by_cases hik : i = k
      · subst hik
        simpa using h
      · exact hI i (by omega)
  · rintro _ ⟨⟨x2, rfl⟩, hI⟩
    refine .inl ⟨rfl, ?_⟩
    have hA : allL C P L = true := allL_iff.mpr fun i hi => hI i (by omega)
    rw [hA, Bool.true_and]
    refine sqI (forR2g (lo := 1) (hi := L.length - 1) (I := fun k ρ => (∃ x2, ρ = [some (.d (adD (kindsA C P))), some (.d (.tup (nl L))), x2]) ∧ ∀ i, 1 ≤ i → i < k → gainsAt C L i = true) (ea_cons ev_c (ea_cons (sub1 (lenN (ev_var 1 rfl)) (by omega)) ea_nil)) (by omega) (by omega) ⟨⟨_, rfl⟩, fun i h1 h2 => by omega⟩ ?_ ?_)
    · rintro k _ hk1 hk2 ⟨⟨x2, rfl⟩, hG⟩
      simp only [List.set_cons_succ, List.set_cons_zero]
      have g0 : L[k]? = some (L.getD k 0) := getD_at (by omega)
      have g1 : L[k - 1]? = some (L.getD (k - 1) 0) := getD_at (by omega)
      have g2 : L[k + 1]? = some (L.getD (k + 1) 0) := getD_at (by omega)
      have k1 : linked C P (L.getD k 0) (L.getD (k - 1) 0) = true := by
        have := hI (k - 1) (by omega)
        rw [show k - 1 + 1 = k by omega] at this
        exact linked_symm this
      have k2 := hI k (by omega)
      refine ifB (eb_test (ev_op (ev_c (x := .str "customer")) (ev_lst (ea_cons (dget (ev_var 0 rfl) (ev_tup (ea_cons (ixN (ev_var 1 rfl) (ev_var 2 rfl) g0) (ea_cons (ixN (ev_var 1 rfl) (sub1 (ev_var 2 rfl) hk1) g1) ea_nil))) (get_kd o k1)) (ea_cons (dget (ev_var 0 rfl) (ev_tup (ea_cons (ixN (ev_var 1 rfl) (ev_var 2 rfl) g0) (ea_cons (ixN (ev_var 1 rfl) (add1 (ev_var 2 rfl)) g2) ea_nil))) (get_kd o k2)) ea_nil))) nin_kd)) (fun h => ?_) fun h => ?_
      · rw [ok_ret, ok_c]
        refine finR (.inr ⟨fun z => (nomatch z), .inl ⟨_, rfl, ?_⟩⟩)
        have : allG C L = false := by
          cases z : allG C L with
          | false => rfl
          | true =>
            have := allG_iff.mp z k hk1 (by omega)
            unfold gainsAt at this
            rw [this] at h
            cases h
        rw [this]
      · rw [ok_nx]
        refine fin ⟨⟨_, rfl⟩, fun i h1 h2 => ?_⟩
        by_cases hik : i = k
        · subst hik
          unfold gainsAt
          cases z : (decide ((L.getD i 0, L.getD (i - 1) 0) ∈ C) || decide ((L.getD i 0, L.getD (i + 1) 0) ∈ C)) with
          | true => rfl
          | false => rw [z] at h; cases h
        · exact hG i h1 (by omega)
    · rintro _ ⟨⟨x2, rfl⟩, hG⟩
      refine .inl ⟨rfl, ?_⟩
      have hA : allG C L = true := allG_iff.mpr fun i h1 h2 => hG i h1 (by omega)
      rw [ok_ret, ok_c, hA]
      exact .inl ⟨_, rfl, rfl⟩
/-- customer 0, peer 1, provider 2 -/
def rk (C : List (Nat × Nat)) (q : Nat × Nat) : Nat := if q ∈ C then 0 else if (q.2, q.1) ∈ C then 2 else 1
theorem ev_rk {ρ : En} {fb : M S} {C : List (Nat × Nat)} {q : Nat × Nat} (hb : Ev fb ρ (kd C q)) : Ev (mIdxL (mLst (aCons (mC (.str "customer")) (aCons (mC (.str "peer")) (aCons (mC (.str "provider")) aNil)))) fb) ρ (.int (rk C q : Nat)) := ev_of (by
  have ha : Ev (mLst (aCons (mC (.str "customer")) (aCons (mC (.str "peer")) (aCons (mC (.str "provider")) aNil)))) ρ (.lst [cust, peer, prov]) := ev_lst (ea_cons ev_c (ea_cons ev_c (ea_cons ev_c ea_nil)))
  unfold mIdxL
  rw [ok_then]
  refine ha.dv ?_
  dsimp only
  rw [ok_then]
  refine hb.dv ?_
  have e1 : (pl60 (kd C q) && plA 60 [cust, peer, prov] && small [cust, peer, prov].length) = true := by
    unfold kd
    split
    · kernel_rfl
    · split <;> kernel_rfl
  have e2 : placeD [cust, peer, prov] (kd C q) = some (rk C q) := by
    unfold kd rk
    split
    · kernel_rfl
    · split <;> kernel_rfl
  rw [if_pos e1, e2]
  dsimp only
  rw [ok_ok]
  exact ⟨rfl, rfl⟩)
def rkD (C P : List (Nat × Nat)) (v w : Nat) : D := if linked C P v w then .int (rk C (v, w) : Nat) else .non
theorem rank_is {n : Nat} {C P : List (Nat × Nat)} {v w : Nat} (o : OkTrade n C P) (hC : C.length ≤ 1000) (hP : P.length ≤ 1000) : OKF (f_rank_of_link [.d (tradeD n C P), .d (.int (v : Nat)), .d (.int (w : Nat))]) fun s => s = .d (rkD C P v w) := by
  rw [okF]
  unfold f_rank_of_link
  refine ok_runF rfl ?_
  show OK (b_rank_of_link [some (.d (tradeD n C P)), some (.d (.int (v : Nat))), some (.d (.int (w : Nat)))]) _
  unfold b_rank_of_link
  refine sqI (ifB (eb_test (ev_call (ea_cons (ev_var 0 rfl) (ea_cons (ev_var 1 rfl) (ea_cons (ev_var 2 rfl) ea_nil))) (is_provider hC))) (fun h1 => ?_) fun h1 => ?_)
  · rw [ok_ret, ok_c]
    refine .inr ⟨fun z => (nomatch z), .inl ⟨_, rfl, ?_⟩⟩
    unfold rkD linked rk
    rw [h1, if_pos (of_decide_eq_true h1)]
    rfl
  rw [ok_nx]
  refine .inl ⟨rfl, ?_⟩
  have n1 : (v, w) ∉ C := of_decide_eq_false h1
  have f2 : Ev (mFldE "Trade" 2 (mVar 0)) [some (.d (tradeD n C P)), some (.d (.int (v : Nat))), some (.d (.int (w : Nat)))] (.tup (P.map arcD)) := ev_of (ok_fld ((ev_var 0 rfl).dv ⟨_, _, rfl, rfl, rfl, rfl⟩))
  refine sqI (ifB (eb_or (eb_test (ev_op (x := arcD (v, w)) (ev_tup (ea_cons (ev_var 1 rfl) (ea_cons (ev_var 2 rfl) ea_nil))) f2 (in_arcs (by omega)))) fun _ => eb_test (ev_op (x := arcD (w, v)) (ev_tup (ea_cons (ev_var 2 rfl) (ea_cons (ev_var 1 rfl) ea_nil))) f2 (in_arcs (by omega)))) (fun h2 => ?_) fun h2 => ?_)
  · rw [ok_ret, ok_c]
    refine .inr ⟨fun z => (nomatch z), .inl ⟨_, rfl, ?_⟩⟩
    have n2 : (w, v) ∉ C := fun z => by
      rw [Bool.or_eq_true, decide_eq_true_iff, decide_eq_true_iff] at h2
      rcases h2 with h | h
      · exact (o.cp _ z _ h).2 ⟨rfl, rfl⟩
      · exact (o.cp _ z _ h).1 ⟨rfl, rfl⟩
    unfold rkD linked rk
    rw [h2, if_neg n1, if_neg n2]
    simp
  rw [ok_nx]
  refine .inl ⟨rfl, ?_⟩
  rw [ok_ret, ok_if]
  refine (eb_test (ev_call (ea_cons (ev_var 0 rfl) (ea_cons (ev_var 2 rfl) (ea_cons (ev_var 1 rfl) ea_nil))) (is_provider hC))).ok ⟨fun h3 => ?_, fun h3 => ?_⟩
  · rw [ok_c]
    refine .inl ⟨_, rfl, ?_⟩
    unfold rkD linked rk
    rw [h3, if_neg n1, if_pos (of_decide_eq_true h3)]
    simp
  · rw [ok_c]
    refine .inl ⟨_, rfl, ?_⟩
    unfold rkD linked
    rw [h1, h2, show decide ((w, v) ∈ C) = false by simpa using h3]
    rfl
end Fx.Td
/-! data of numbers, texts, None alone (no True or False): what is equal is the same -/
namespace Fx
open PySem
mutual
def nb : Nat → D → Bool
  | _, .non => true
  | _, .int _ => true
  | _, .str _ => true
  | n + 1, .tup ds => nbA n ds
  | n + 1, .lst ds => nbA n ds
  | _, _ => false
def nbA : Nat → List D → Bool
  | _, [] => true
  | n, d :: ds => nb n d && nbA n ds
end
mutual
theorem nb_pl : ∀ {n : Nat} {d : D}, nb n d = true → pl n d = true
  | n, .non, _ => by cases n <;> rfl
  | n, .int i, _ => by cases n <;> rfl
  | n, .str x, _ => by cases n <;> rfl
  | n + 1, .tup ds, h => by
    simp only [nb] at h
    simp only [pl]
    exact nbA_plA h
  | n + 1, .lst ds, h => by
    simp only [nb] at h
    simp only [pl]
    exact nbA_plA h
  | 0, .tup ds, h => by simp [nb] at h
  | 0, .lst ds, h => by simp [nb] at h
  | n, .bl b, h => by cases n <;> simp [nb] at h
  | n, .ty x, h => by cases n <;> simp [nb] at h
  | n, .ins x y, h => by cases n <;> simp [nb] at h
  | n, .dct x y, h => by cases n <;> simp [nb] at h
  | n, .dcq x y, h => by cases n <;> simp [nb] at h
  | n, .scr x, h => by cases n <;> simp [nb] at h
  | n, .fn x, h => by cases n <;> simp [nb] at h
  | n, .xo x y, h => by cases n <;> simp [nb] at h
  | n, .exc, h => by cases n <;> simp [nb] at h
  | n, .rng x y, h => by cases n <;> simp [nb] at h
theorem nbA_plA : ∀ {n : Nat} {ds : List D}, nbA n ds = true → plA n ds = true
  | n, [], _ => by cases n <;> rfl
  | n, d :: ds, h => by
    simp only [nbA, Bool.and_eq_true] at h
    simp only [plA, Bool.and_eq_true]
    exact ⟨nb_pl h.1, nbA_plA h.2⟩
end
mutual
theorem nb_mono : ∀ {n m : Nat} {d : D}, n ≤ m → nb n d = true → nb m d = true
  | n, m, .non, _, _ => by cases m <;> rfl
  | n, m, .int i, _, _ => by cases m <;> rfl
  | n, m, .str x, _, _ => by cases m <;> rfl
  | n + 1, m + 1, .tup ds, e, h => by
    simp only [nb] at h ⊢
    exact nbA_mono (Nat.le_of_succ_le_succ e) h
  | n + 1, m + 1, .lst ds, e, h => by
    simp only [nb] at h ⊢
    exact nbA_mono (Nat.le_of_succ_le_succ e) h
  | n + 1, 0, .tup ds, e, h => by omega
  | n + 1, 0, .lst ds, e, h => by omega
  | 0, m, .tup ds, _, h => by simp [nb] at h
  | 0, m, .lst ds, _, h => by simp [nb] at h
  | n, m, .bl b, _, h => by cases n <;> simp [nb] at h
  | n, m, .ty x, _, h => by cases n <;> simp [nb] at h
  | n, m, .ins x y, _, h => by cases n <;> simp [nb] at h
  | n, m, .dct x y, _, h => by cases n <;> simp [nb] at h
  | n, m, .dcq x y, _, h => by cases n <;> simp [nb] at h
  | n, m, .scr x, _, h => by cases n <;> simp [nb] at h
  | n, m, .fn x, _, h => by cases n <;> simp [nb] at h
  | n, m, .xo x y, _, h => by cases n <;> simp [nb] at h
  | n, m, .exc, _, h => by cases n <;> simp [nb] at h
  | n, m, .rng x y, _, h => by cases n <;> simp [nb] at h
theorem nbA_mono : ∀ {n m : Nat} {ds : List D}, n ≤ m → nbA n ds = true → nbA m ds = true
  | n, m, [], _, _ => by cases m <;> rfl
  | n, m, d :: ds, e, h => by
    simp only [nbA, Bool.and_eq_true] at h ⊢
    exact ⟨nb_mono e h.1, nbA_mono e h.2⟩
end
mutual
theorem eqv_nb : ∀ {n m : Nat} {d e : D}, nb n d = true → nb m e = true → (PyData.eqv (toP d) (toP e) = true ↔ d = e)
  | n, m, .non, e, h, k => by cases e <;> cases m <;> simp [toP, nb, PyData.eqv] at k ⊢
  | n, m, .int i, e, h, k => by cases e <;> cases m <;> simp [toP, nb, PyData.eqv] at k ⊢
  | n, m, .str x, e, h, k => by cases e <;> cases m <;> simp [toP, nb, PyData.eqv] at k ⊢
  | n + 1, m, .tup ds, e, h, k => by
    simp only [nb] at h
    cases e <;> cases m <;> simp [toP, nb, PyData.eqv] at k ⊢
    exact eqvA_nb h k
  | n + 1, m, .lst ds, e, h, k => by
    simp only [nb] at h
    cases e <;> cases m <;> simp [toP, nb, PyData.eqv] at k ⊢
    exact eqvA_nb h k
  | 0, m, .tup ds, e, h, k => by simp [nb] at h
  | 0, m, .lst ds, e, h, k => by simp [nb] at h
  | n, m, .bl b, e, h, k => by cases n <;> simp [nb] at h
  | n, m, .ty x, e, h, k => by cases n <;> simp [nb] at h
  | n, m, .ins x y, e, h, k => by cases n <;> simp [nb] at h
  | n, m, .dct x y, e, h, k => by cases n <;> simp [nb] at h
  | n, m, .dcq x y, e, h, k => by cases n <;> simp [nb] at h
  | n, m, .scr x, e, h, k => by cases n <;> simp [nb] at h
  | n, m, .fn x, e, h, k => by cases n <;> simp [nb] at h
  | n, m, .xo x y, e, h, k => by cases n <;> simp [nb] at h
  | n, m, .exc, e, h, k => by cases n <;> simp [nb] at h
  | n, m, .rng x y, e, h, k => by cases n <;> simp [nb] at h
theorem eqvA_nb : ∀ {n m : Nat} {ds es : List D}, nbA n ds = true → nbA m es = true → (PyData.eqvAll (toPs ds) (toPs es) = true ↔ ds = es)
  | _, _, [], [], _, _ => by simp [toPs, PyData.eqvAll]
  | _, _, [], _ :: _, _, _ => by simp [toPs, PyData.eqvAll]
  | _, _, _ :: _, [], _, _ => by simp [toPs, PyData.eqvAll]
  | n, m, d :: ds, e :: es, h, k => by
    simp only [nbA, Bool.and_eq_true] at h k
    simp only [toPs, PyData.eqvAll, Bool.and_eq_true, List.cons.injEq]
    rw [eqv_nb h.1 k.1, eqvA_nb h.2 k.2]
end
theorem nbA_iff {n : Nat} {ds : List D} : nbA n ds = true ↔ ∀ d ∈ ds, nb n d = true := by
  induction ds with
  | nil => cases n <;> simp [nbA]
  | cons d ds ih => simp [nbA, ih]
theorem nb_tup {n : Nat} {ds : List D} (h : ∀ d ∈ ds, nb n d = true) : nb (n + 1) (.tup ds) = true := by
  simp only [nb]
  exact nbA_iff.mpr h
theorem nb_nl {L : List Nat} : nb 1 (.tup (L.map fun i : Nat => D.int i)) = true := nb_tup fun d hd => by
  obtain ⟨i, _, rfl⟩ := List.mem_map.mp hd
  rfl
end Fx
/-! two orders of the same data are sorted alike -/
namespace Fx
open PySem PyProof.Rows
open PySem.W
theorem eqv_of_toks {x y : PyData} (h : alike x y = true) (e : keyToks x = keyToks y) : PyData.eqv x y = true := by
  cases q : PyData.eqv x y with
  | true => rfl
  | false =>
    exfalso
    have h1 := (toks_eqv x y h).2 q [] [Sum.inl 0]
    rw [e, lex_pre] at h1
    have h2 : PyProof.Rows.lexLt itemOrd (keyToks y) (keyToks y) = false := (listOrd itemOrd).irrefl (keyToks y)
    rw [h2] at h1
    exact absurd h1 (by decide)
theorem sortD_perm {n : Nat} {l1 l2 : List D} (hp : l1.Perm l2) (hn : ∀ d ∈ l1, nb n d = true) (al : ∀ d ∈ l1, ∀ e ∈ l1, alike (toP d) (toP e) = true) : l1.mergeSort (dataLe false toP) = l2.mergeSort (dataLe false toP) := by
  have tot := sortLe_total (listOrd itemOrd) false fun b : D => keyToks (toP b)
  refine List.Perm.eq_of_pairwise (le := fun a b => dataLe false toP a b = true) (fun a b ha hb h1 h2 => ?_) (sort_pairwise tot l1) (sort_pairwise tot l2) ((List.mergeSort_perm _ _).trans (hp.trans (List.mergeSort_perm _ _).symm))
  have ha := (List.mem_mergeSort.mp ha)
  have hb := hp.symm.subset (List.mem_mergeSort.mp hb)
  have h1 : (!(listOrd itemOrd).blt (keyToks (toP b)) (keyToks (toP a))) = true := h1
  have h2 : (!(listOrd itemOrd).blt (keyToks (toP a)) (keyToks (toP b))) = true := h2
  have e := (listOrd itemOrd).total _ _ (by simpa using h2) (by simpa using h1)
  exact (eqv_nb (hn a ha) (hn b hb)).mp (eqv_of_toks (al a ha b hb) e)
theorem alikeAll_nl : ∀ (p q : List Nat), alikeAll (toPs (p.map fun i : Nat => D.int i)) (toPs (q.map fun i : Nat => D.int i)) = true
  | [], q => by simp [toPs, alikeAll]
  | a :: p, [] => by simp [toPs, alikeAll]
  | a :: p, b :: q => by
    simp only [List.map_cons, toPs, alikeAll, Bool.and_eq_true]
    exact ⟨by simp [toP, alike], alikeAll_nl p q⟩
end Fx
/-! C(..), C's __init__ raising; try: one statement / except X as e -/
/-! what ends in an error, on data -/
/-! k01: the law's own paths on data -/
namespace Fx.Lib
open PySem
local macro_rules | `(tactic| walk_at "wp") => `(tactic| simp only [okF_runF, okF_runL, ok_seq, ok_ret, ok_retN, ok_andV, ok_orV, ok_notV, ok_cb, ok_cons, ok_nil, ok_test, ok_dv, ok_op, ok_un, ok_c, ok_if, ok_ifS, ok_and, ok_or, ok_not, ok_asg, ok_gname, ok_drop, ok_call, ok_chain, ok_nx, ok_bk, ok_ct, ok_st, ok_yes, ok_tup, ok_ok, ok_stuck, ex_toD, ex_toL, ex_bl, ex_some, ex_bl1, fl_nx, fl_rt, fl_bk, fl_ct, rt_or, nx_or, mVar, ok1, gIsi, mIsi2, gIsi2, isTy2, isTy, Option.bind, bare, e_add, e_sub, e_int, e_lenS, e_lenT, e_lenL, e_lt, e_le, e_gt, e_ge, e_leC, e_ltC, e_isN, e_notN, e_pow,
  List.map_cons, List.map_nil, List.length_cons, List.length_nil, List.replicate_succ, List.replicate_zero, List.cons_append, List.nil_append, List.append_nil, List.getElem?_cons_zero, List.getElem?_cons_succ, List.set_cons_zero, List.set_cons_succ, Nat.reduceAdd, Nat.reduceSub, true_and, and_true, Bool.not_true, Bool.not_false, true_implies, forall_const, not_true_eq_false, false_implies, Bool.false_eq_true, not_false_eq_true, implies_true, eq_self, ne_eq, reduceCtorEq, Fl.rt.injEq, S.d.injEq, D.int.injEq, false_and, exists_false, or_false, false_or, exists_eq_left'])
local macro_rules | `(tactic| walk_at "wt") => `(tactic| simp (config := { contextual := false }) only [ok_row0, ok_row1, ok_row2, ok_row3, ok_put1, ok_put2, ok_put3, e_mod, e_div, e_mul, e_ixS, decide_true, decide_false, *, okF_runF, okF_runL, ok_seq, ok_ret, ok_retN, ok_andV, ok_orV, ok_notV, ok_cb, ok_cons, ok_nil, ok_test, ok_dv, ok_op, ok_un, ok_c, ok_if, ok_ifS, ok_and, ok_or, ok_not, ok_asg, ok_gname, ok_drop, ok_call, ok_chain, ok_nx, ok_bk, ok_ct, ok_st, ok_yes, ok_tup, ok_ok, ok_stuck, ex_toD, ex_toL, ex_bl, ex_some, ex_bl1, fl_nx, fl_rt, fl_bk, fl_ct, rt_or, nx_or, mVar, ok1, gIsi, mIsi2, gIsi2, isTy2, isTy, Option.bind, bare, e_add, e_sub, e_int, e_lenS, e_lenT, e_lenL, e_lt, e_le, e_gt, e_ge, e_leC, e_ltC, e_isN, e_notN, e_pow,
  List.map_cons, List.map_nil, List.length_cons, List.length_nil, List.replicate_succ, List.replicate_zero, List.cons_append, List.nil_append, List.append_nil, List.getElem?_cons_zero, List.getElem?_cons_succ, List.set_cons_zero, List.set_cons_succ, Nat.reduceAdd, Nat.reduceSub, true_and, and_true, Bool.not_true, Bool.not_false, true_implies, forall_const, not_true_eq_false, false_implies, Bool.false_eq_true, not_false_eq_true, implies_true, eq_self, ne_eq, reduceCtorEq, Fl.rt.injEq, S.d.injEq, D.int.injEq, false_and, exists_false, or_false, false_or, exists_eq_left'])
local macro_rules | `(tactic| walk_at "wy") => `(tactic| try walk_at "wp")
local macro_rules | `(tactic| walk_at "we") => `(tactic| first | done | rfl | exact ⟨rfl, rfl⟩ | exact ⟨rfl, rfl, rfl⟩)
end Fx.Lib
/-! distances on data -/
namespace Fx
open PySem
local macro_rules | `(tactic| walk_at "wp") => `(tactic| simp only [okF_runF, okF_runL, ok_seq, ok_ret, ok_retN, ok_andV, ok_orV, ok_notV, ok_cb, ok_cons, ok_nil, ok_test, ok_dv, ok_op, ok_un, ok_c, ok_if, ok_ifS, ok_and, ok_or, ok_not, ok_asg, ok_gname, ok_drop, ok_call, ok_chain, ok_nx, ok_bk, ok_ct, ok_st, ok_yes, ok_tup, ok_ok, ok_stuck, ex_toD, ex_toL, ex_bl, ex_some, ex_bl1, fl_nx, fl_rt, fl_bk, fl_ct, rt_or, nx_or, mVar, ok1, gIsi, mIsi2, gIsi2, isTy2, isTy, Option.bind, bare, e_add, e_sub, e_int, e_lenS, e_lenT, e_lenL, e_lt, e_le, e_gt, e_ge, e_leC, e_ltC, e_isN, e_notN, e_pow,
  List.map_cons, List.map_nil, List.length_cons, List.length_nil, List.replicate_succ, List.replicate_zero, List.cons_append, List.nil_append, List.append_nil, List.getElem?_cons_zero, List.getElem?_cons_succ, List.set_cons_zero, List.set_cons_succ, Nat.reduceAdd, Nat.reduceSub, true_and, and_true, Bool.not_true, Bool.not_false, true_implies, forall_const, not_true_eq_false, false_implies, Bool.false_eq_true, not_false_eq_true, implies_true, eq_self, ne_eq, reduceCtorEq, Fl.rt.injEq, S.d.injEq, D.int.injEq, false_and, exists_false, or_false, false_or, exists_eq_left'])
local macro_rules | `(tactic| walk_at "wt") => `(tactic| simp (config := { contextual := false }) only [ok_row0, ok_row1, ok_row2, ok_row3, ok_put1, ok_put2, ok_put3, e_mod, e_div, e_mul, e_ixS, decide_true, decide_false, *, okF_runF, okF_runL, ok_seq, ok_ret, ok_retN, ok_andV, ok_orV, ok_notV, ok_cb, ok_cons, ok_nil, ok_test, ok_dv, ok_op, ok_un, ok_c, ok_if, ok_ifS, ok_and, ok_or, ok_not, ok_asg, ok_gname, ok_drop, ok_call, ok_chain, ok_nx, ok_bk, ok_ct, ok_st, ok_yes, ok_tup, ok_ok, ok_stuck, ex_toD, ex_toL, ex_bl, ex_some, ex_bl1, fl_nx, fl_rt, fl_bk, fl_ct, rt_or, nx_or, mVar, ok1, gIsi, mIsi2, gIsi2, isTy2, isTy, Option.bind, bare, e_add, e_sub, e_int, e_lenS, e_lenT, e_lenL, e_lt, e_le, e_gt, e_ge, e_leC, e_ltC, e_isN, e_notN, e_pow,
  List.map_cons, List.map_nil, List.length_cons, List.length_nil, List.replicate_succ, List.replicate_zero, List.cons_append, List.nil_append, List.append_nil, List.getElem?_cons_zero, List.getElem?_cons_succ, List.set_cons_zero, List.set_cons_succ, Nat.reduceAdd, Nat.reduceSub, true_and, and_true, Bool.not_true, Bool.not_false, true_implies, forall_const, not_true_eq_false, false_implies, Bool.false_eq_true, not_false_eq_true, implies_true, eq_self, ne_eq, reduceCtorEq, Fl.rt.injEq, S.d.injEq, D.int.injEq, false_and, exists_false, or_false, false_or, exists_eq_left'])
local macro_rules | `(tactic| walk_at "wy") => `(tactic| try walk_at "wp")
local macro_rules | `(tactic| walk_at "we") => `(tactic| first | done | rfl | exact ⟨rfl, rfl⟩ | exact ⟨rfl, rfl, rfl⟩)
theorem sum_set : ∀ {l : List Nat} {i a b : Nat}, l[i]? = some a → (l.set i b).sum + a = l.sum + b
  | [], _, _, _, e => by simp at e
  | x :: l, 0, a, b, e => by
    simp at e
    subst e
    simp only [List.set_cons_zero, List.sum_cons]
    omega
  | x :: l, i + 1, a, b, e => by
    have := sum_set (l := l) (i := i) (a := a) (b := b) (by simpa using e)
    simp only [List.set_cons_succ, List.sum_cons]
    omega
theorem sum_le {k : Nat} : ∀ {l : List Nat}, (∀ x ∈ l, x ≤ k) → l.sum ≤ k * l.length
  | [], _ => by simp
  | x :: l, h => by
    have := sum_le (l := l) fun y hy => h y (List.mem_cons_of_mem _ hy)
    have := h x List.mem_cons_self
    simp only [List.sum_cons, List.length_cons, Nat.mul_succ]
    omega
namespace Lib
/-- a walk to g, its weight -/
inductive Way (as : List (Nat × Nat)) (ws : List Int) (g : Nat) : Nat → Int → Prop
  | nil : Way as ws g g 0
  | step {v h : Nat} {w x : Int} : ((v, h), w) ∈ as.zip ws → Way as ws g h x → Way as ws g v (x + w)
structure Dist (n g : Nat) (as : List (Nat × Nat)) (ws : List Int) (ds : List (Option Int)) : Prop where
  len : ds.length = n
  goal : ds[g]? = some (some 0)
  fix : ∀ t h w, ((t, h), w) ∈ as.zip ws → ∀ x, ds[h]? = some (some x) → ∃ y, ds[t]? = some (some y) ∧ y ≤ x + w
  way : ∀ v x, ds[v]? = some (some x) → Way as ws g v x
def one : Option Int → Nat
  | some _ => 1
  | none => 0
def cnt (ds : List (Option Int)) : Nat := (ds.map one).sum
def pv : Option Int → Nat
  | some x => x.toNat
  | none => 1000
def pot (ds : List (Option Int)) : Nat := (ds.map pv).sum
structure Relax (n g : Nat) (as : List (Nat × Nat)) (ws : List Int) (ds : List (Option Int)) : Prop where
  len : ds.length = n
  goal : ds[g]? = some (some 0)
  way : ∀ (v : Nat) (x : Int), ds[v]? = some (some x) → Way as ws g v x
  bnd : ∀ (v : Nat) (x : Int), ds[v]? = some (some x) → 0 ≤ x ∧ x + 100 ≤ 100 * (cnt ds : Int)
theorem cnt_set {ds : List (Option Int)} {t : Nat} {o : Option Int} {y : Int} (e : ds[t]? = some o) : cnt (ds.set t (some y)) + one o = cnt ds + 1 := by
  unfold cnt
  rw [List.map_set]
  exact sum_set (by rw [List.getElem?_map, e]; rfl)
theorem pot_set {ds : List (Option Int)} {t : Nat} {o : Option Int} {y : Int} (e : ds[t]? = some o) : pot (ds.set t (some y)) + pv o = pot ds + y.toNat := by
  unfold pot
  rw [List.map_set]
  exact sum_set (by rw [List.getElem?_map, e]; rfl)
theorem cnt_le {ds : List (Option Int)} : cnt ds ≤ ds.length := by
  unfold cnt
  have := sum_le (k := 1) (l := ds.map one) fun x hx => by
    obtain ⟨o, _, rfl⟩ := List.mem_map.mp hx
    cases o <;> simp [one]
  rw [List.length_map] at this
  omega
theorem Relax.step {n g t h : Nat} {w x : Int} {as : List (Nat × Nat)} {ws : List Int} {ds : List (Option Int)} {o : Option Int} (r : Relax n g as ws ds) (hn : n ≤ 8) (hz : ((t, h), w) ∈ as.zip ws) (w1 : 1 ≤ w) (w2 : w ≤ 100) (eh : ds[h]? = some (some x)) (et : ds[t]? = some o) (ho : ∀ y, o = some y → x + w < y) :
    Relax n g as ws (ds.set t (some (x + w))) ∧ pot (ds.set t (some (x + w))) < pot ds := by
  obtain ⟨b1, b2⟩ := r.bnd h x eh
  have ht : t < ds.length := (List.getElem?_eq_some_iff.mp et).1
  have hc := cnt_set (y := x + w) et
  have hp := pot_set (y := x + w) et
  have hl := cnt_le (ds := ds)
  rw [r.len] at hl
  have htg : t ≠ g := fun z => by
    subst z
    rw [r.goal] at et
    cases et
    have := ho 0 rfl
    omega
  have mono : cnt ds ≤ cnt (ds.set t (some (x + w))) := by
    cases o <;> (simp only [one] at hc; omega)
  have hb : 0 ≤ x + w ∧ x + w + 100 ≤ 100 * (cnt (ds.set t (some (x + w))) : Int) := by
    cases o with
    | none => simp only [one] at hc; omega
    | some y =>
      have := ho y rfl
      have := r.bnd t y et
      simp only [one] at hc
      omega
  refine ⟨⟨by rw [List.length_set]; exact r.len, by rw [List.getElem?_set_ne htg]; exact r.goal, fun v y e => ?_, fun v y e => ?_⟩, ?_⟩
  · by_cases hv : t = v
    · subst hv
      rw [List.getElem?_set_self ht] at e
      cases e
      exact .step hz (r.way h x eh)
    · rw [List.getElem?_set_ne hv] at e
      exact r.way v y e
  · by_cases hv : t = v
    · subst hv
      rw [List.getElem?_set_self ht] at e
      cases e
      exact hb
    · rw [List.getElem?_set_ne hv] at e
      have := r.bnd v y e
      omega
  · cases o with
    | none =>
      have hp : pot (ds.set t (some (x + w))) + 1000 = pot ds + (x + w).toNat := hp
      omega
    | some y =>
      have := ho y rfl
      have := (r.bnd t y et).1
      have hp : pot (ds.set t (some (x + w))) + y.toNat = pot ds + (x + w).toNat := hp
      omega
end Lib
end Fx
/-! graphs refused, on data -/
/-! next hops on data -/
namespace Fx
open PySem
local macro_rules | `(tactic| walk_at "wp") => `(tactic| simp only [okF_runF, okF_runL, ok_seq, ok_ret, ok_retN, ok_andV, ok_orV, ok_notV, ok_cb, ok_cons, ok_nil, ok_test, ok_dv, ok_op, ok_un, ok_c, ok_if, ok_ifS, ok_and, ok_or, ok_not, ok_asg, ok_gname, ok_drop, ok_call, ok_chain, ok_nx, ok_bk, ok_ct, ok_st, ok_yes, ok_tup, ok_ok, ok_stuck, ex_toD, ex_toL, ex_bl, ex_some, ex_bl1, fl_nx, fl_rt, fl_bk, fl_ct, rt_or, nx_or, mVar, ok1, gIsi, mIsi2, gIsi2, isTy2, isTy, Option.bind, bare, e_add, e_sub, e_int, e_lenS, e_lenT, e_lenL, e_lt, e_le, e_gt, e_ge, e_leC, e_ltC, e_isN, e_notN, e_pow,
  List.map_cons, List.map_nil, List.length_cons, List.length_nil, List.replicate_succ, List.replicate_zero, List.cons_append, List.nil_append, List.append_nil, List.getElem?_cons_zero, List.getElem?_cons_succ, List.set_cons_zero, List.set_cons_succ, Nat.reduceAdd, Nat.reduceSub, true_and, and_true, Bool.not_true, Bool.not_false, true_implies, forall_const, not_true_eq_false, false_implies, Bool.false_eq_true, not_false_eq_true, implies_true, eq_self, ne_eq, reduceCtorEq, Fl.rt.injEq, S.d.injEq, D.int.injEq, false_and, exists_false, or_false, false_or, exists_eq_left'])
local macro_rules | `(tactic| walk_at "wt") => `(tactic| simp (config := { contextual := false }) only [ok_row0, ok_row1, ok_row2, ok_row3, ok_put1, ok_put2, ok_put3, e_mod, e_div, e_mul, e_ixS, decide_true, decide_false, *, okF_runF, okF_runL, ok_seq, ok_ret, ok_retN, ok_andV, ok_orV, ok_notV, ok_cb, ok_cons, ok_nil, ok_test, ok_dv, ok_op, ok_un, ok_c, ok_if, ok_ifS, ok_and, ok_or, ok_not, ok_asg, ok_gname, ok_drop, ok_call, ok_chain, ok_nx, ok_bk, ok_ct, ok_st, ok_yes, ok_tup, ok_ok, ok_stuck, ex_toD, ex_toL, ex_bl, ex_some, ex_bl1, fl_nx, fl_rt, fl_bk, fl_ct, rt_or, nx_or, mVar, ok1, gIsi, mIsi2, gIsi2, isTy2, isTy, Option.bind, bare, e_add, e_sub, e_int, e_lenS, e_lenT, e_lenL, e_lt, e_le, e_gt, e_ge, e_leC, e_ltC, e_isN, e_notN, e_pow,
  List.map_cons, List.map_nil, List.length_cons, List.length_nil, List.replicate_succ, List.replicate_zero, List.cons_append, List.nil_append, List.append_nil, List.getElem?_cons_zero, List.getElem?_cons_succ, List.set_cons_zero, List.set_cons_succ, Nat.reduceAdd, Nat.reduceSub, true_and, and_true, Bool.not_true, Bool.not_false, true_implies, forall_const, not_true_eq_false, false_implies, Bool.false_eq_true, not_false_eq_true, implies_true, eq_self, ne_eq, reduceCtorEq, Fl.rt.injEq, S.d.injEq, D.int.injEq, false_and, exists_false, or_false, false_or, exists_eq_left'])
local macro_rules | `(tactic| walk_at "wy") => `(tactic| try walk_at "wp")
local macro_rules | `(tactic| walk_at "we") => `(tactic| first | done | rfl | exact ⟨rfl, rfl⟩ | exact ⟨rfl, rfl, rfl⟩)
theorem intsFrom_map (n : Nat) : intsFrom 0 n = (List.range n).map fun i : Nat => D.int i := by
  refine List.ext_getElem? fun i => ?_
  rw [List.getElem?_map]
  by_cases h : i < n
  · rw [intsFrom_get n 0 i h, List.getElem?_range h]
    show some (D.int ((0 : Int) + (i : Int))) = some (D.int (i : Int))
    rw [Int.zero_add]
  · rw [List.getElem?_eq_none (by rw [intsFrom_length]; omega), List.getElem?_eq_none (by rw [List.length_range]; omega)]
    rfl
section
variable {k : Nat} {fk : M S} {ρ0 : En} {PD : List D × List (List D) → En → Prop}
theorem ints_apart (n : Nat) : (intsFrom 0 n).Pairwise (fun x y => keyEq y x = false) := by
  rw [List.pairwise_iff_getElem]
  intro a b ha hb hab
  rw [intsFrom_length] at ha hb
  have e1 := intsFrom_get n 0 a ha
  have e2 := intsFrom_get n 0 b hb
  rw [List.getElem?_eq_getElem (by rw [intsFrom_length]; exact ha)] at e1
  rw [List.getElem?_eq_getElem (by rw [intsFrom_length]; exact hb)] at e2
  rw [Option.some.inj e1, Option.some.inj e2]
  show decide ((0 : Int) + (b : Int) = 0 + (a : Int)) = false
  rw [decide_eq_false_iff_not]
  omega
end
namespace Lib
/-! distances are one -/
theorem Way.le {n g : Nat} {as : List (Nat × Nat)} {ws ws' : List Int} {ds : List (Option Int)} (d : Dist n g as ws ds) (h : ∀ p w', (p, w') ∈ as.zip ws' → ∃ w, w ≤ w' ∧ (p, w) ∈ as.zip ws) : ∀ {v : Nat} {x' : Int}, Way as ws' g v x' → ∃ x, x ≤ x' ∧ ds[v]? = some (some x) := by
  intro v x' hw
  induction hw with
  | nil => exact ⟨0, Int.le_refl _, d.goal⟩
  | step hz _ ih =>
    obtain ⟨x, h1, h2⟩ := ih
    obtain ⟨w, h3, h4⟩ := h _ _ hz
    obtain ⟨y, h5, h6⟩ := d.fix _ _ _ h4 x h2
    exact ⟨y, by omega, h5⟩
theorem Way.some {n g : Nat} {as : List (Nat × Nat)} {ws ws' : List Int} {ds : List (Option Int)} (d : Dist n g as ws ds) (h : ∀ p w', (p, w') ∈ as.zip ws' → ∃ w, (p, w) ∈ as.zip ws) : ∀ {v : Nat} {x' : Int}, Way as ws' g v x' → ∃ x, ds[v]? = .some (.some x) := by
  intro v x' hw
  induction hw with
  | nil => exact ⟨0, d.goal⟩
  | step hz _ ih =>
    obtain ⟨x, h2⟩ := ih
    obtain ⟨w, h4⟩ := h _ _ hz
    obtain ⟨y, h5, _⟩ := d.fix _ _ _ h4 x h2
    exact ⟨y, h5⟩
theorem Dist.one {n g : Nat} {as : List (Nat × Nat)} {ws : List Int} {ds ds' : List (Option Int)} (d : Dist n g as ws ds) (d' : Dist n g as ws ds') : ds' = ds := by
  have key : ∀ {a b : List (Option Int)}, Dist n g as ws a → Dist n g as ws b → ∀ (v : Nat) (x : Int), a[v]? = some (some x) → b[v]? = some (some x) := by
    intro a b da db v x e
    obtain ⟨y, h1, h2⟩ := (da.way v x e).le db fun p w h => ⟨w, Int.le_refl _, h⟩
    obtain ⟨z, h3, h4⟩ := (db.way v y h2).le da fun p w h => ⟨w, Int.le_refl _, h⟩
    rw [e] at h4
    cases h4
    have : x = y := by omega
    rw [this]
    exact h2
  refine List.ext_getElem? fun v => ?_
  by_cases hv : v < n
  · obtain ⟨a, ea⟩ : ∃ a, ds[v]? = some a := ⟨_, List.getElem?_eq_getElem (by rw [d.len]; exact hv)⟩
    obtain ⟨b, eb⟩ : ∃ b, ds'[v]? = some b := ⟨_, List.getElem?_eq_getElem (by rw [d'.len]; exact hv)⟩
    cases b with
    | some x => rw [eb, key d' d v x eb]
    | none =>
      cases a with
      | none => rw [ea, eb]
      | some x =>
        rw [key d d' v x ea] at eb
        cases eb
  · rw [List.getElem?_eq_none (by rw [d'.len]; omega), List.getElem?_eq_none (by rw [d.len]; omega)]
end Lib
end Fx
/-! paths by their weights: paths_to over arcs that need not be few; nearest_paths -/
namespace Fx.Lib
open PySem
local macro_rules | `(tactic| walk_at "wp") => `(tactic| simp only [okF_runF, okF_runL, ok_seq, ok_ret, ok_retN, ok_andV, ok_orV, ok_notV, ok_cb, ok_cons, ok_nil, ok_test, ok_dv, ok_op, ok_un, ok_c, ok_if, ok_ifS, ok_and, ok_or, ok_not, ok_asg, ok_gname, ok_drop, ok_call, ok_chain, ok_nx, ok_bk, ok_ct, ok_st, ok_yes, ok_tup, ok_ok, ok_stuck, ex_toD, ex_toL, ex_bl, ex_some, ex_bl1, fl_nx, fl_rt, fl_bk, fl_ct, rt_or, nx_or, mVar, ok1, gIsi, mIsi2, gIsi2, isTy2, isTy, Option.bind, bare, e_add, e_sub, e_int, e_lenS, e_lenT, e_lenL, e_lt, e_le, e_gt, e_ge, e_leC, e_ltC, e_isN, e_notN, e_pow,
  List.map_cons, List.map_nil, List.length_cons, List.length_nil, List.replicate_succ, List.replicate_zero, List.cons_append, List.nil_append, List.append_nil, List.getElem?_cons_zero, List.getElem?_cons_succ, List.set_cons_zero, List.set_cons_succ, Nat.reduceAdd, Nat.reduceSub, true_and, and_true, Bool.not_true, Bool.not_false, true_implies, forall_const, not_true_eq_false, false_implies, Bool.false_eq_true, not_false_eq_true, implies_true, eq_self, ne_eq, reduceCtorEq, Fl.rt.injEq, S.d.injEq, D.int.injEq, false_and, exists_false, or_false, false_or, exists_eq_left'])
local macro_rules | `(tactic| walk_at "wt") => `(tactic| simp (config := { contextual := false }) only [ok_row0, ok_row1, ok_row2, ok_row3, ok_put1, ok_put2, ok_put3, e_mod, e_div, e_mul, e_ixS, decide_true, decide_false, *, okF_runF, okF_runL, ok_seq, ok_ret, ok_retN, ok_andV, ok_orV, ok_notV, ok_cb, ok_cons, ok_nil, ok_test, ok_dv, ok_op, ok_un, ok_c, ok_if, ok_ifS, ok_and, ok_or, ok_not, ok_asg, ok_gname, ok_drop, ok_call, ok_chain, ok_nx, ok_bk, ok_ct, ok_st, ok_yes, ok_tup, ok_ok, ok_stuck, ex_toD, ex_toL, ex_bl, ex_some, ex_bl1, fl_nx, fl_rt, fl_bk, fl_ct, rt_or, nx_or, mVar, ok1, gIsi, mIsi2, gIsi2, isTy2, isTy, Option.bind, bare, e_add, e_sub, e_int, e_lenS, e_lenT, e_lenL, e_lt, e_le, e_gt, e_ge, e_leC, e_ltC, e_isN, e_notN, e_pow,
  List.map_cons, List.map_nil, List.length_cons, List.length_nil, List.replicate_succ, List.replicate_zero, List.cons_append, List.nil_append, List.append_nil, List.getElem?_cons_zero, List.getElem?_cons_succ, List.set_cons_zero, List.set_cons_succ, Nat.reduceAdd, Nat.reduceSub, true_and, and_true, Bool.not_true, Bool.not_false, true_implies, forall_const, not_true_eq_false, false_implies, Bool.false_eq_true, not_false_eq_true, implies_true, eq_self, ne_eq, reduceCtorEq, Fl.rt.injEq, S.d.injEq, D.int.injEq, false_and, exists_false, or_false, false_or, exists_eq_left'])
local macro_rules | `(tactic| walk_at "wy") => `(tactic| try walk_at "wp")
local macro_rules | `(tactic| walk_at "we") => `(tactic| first | done | rfl | exact ⟨rfl, rfl⟩ | exact ⟨rfl, rfl, rfl⟩)
/-! ranks -/
/-- nearer, or as near and of a lower number -/
def nearer (ds : List (Option Int)) (u v : Nat) : Bool := match ds[u]?, ds[v]? with
  | some (some x), some (some y) => decide (x < y ∨ (x = y ∧ u < v))
  | _, _ => false
def rk (ds : List (Option Int)) (v : Nat) : Nat := ((List.range ds.length).filter fun u => nearer ds u v).length
theorem OkArcs.sub {n : Nat} {as bs : List (Nat × Nat)} (o : OkArcs n as) (h : bs.Sublist as) : OkArcs n bs := ⟨fun p hp => o.rng p (h.subset hp), o.asc.sublist h⟩
end Fx.Lib
/-! spares on data; ways by next hops -/
namespace Fx
open PySem
local macro_rules | `(tactic| walk_at "wp") => `(tactic| simp only [okF_runF, okF_runL, ok_seq, ok_ret, ok_retN, ok_andV, ok_orV, ok_notV, ok_cb, ok_cons, ok_nil, ok_test, ok_dv, ok_op, ok_un, ok_c, ok_if, ok_ifS, ok_and, ok_or, ok_not, ok_asg, ok_gname, ok_drop, ok_call, ok_chain, ok_nx, ok_bk, ok_ct, ok_st, ok_yes, ok_tup, ok_ok, ok_stuck, ex_toD, ex_toL, ex_bl, ex_some, ex_bl1, fl_nx, fl_rt, fl_bk, fl_ct, rt_or, nx_or, mVar, ok1, gIsi, mIsi2, gIsi2, isTy2, isTy, Option.bind, bare, e_add, e_sub, e_int, e_lenS, e_lenT, e_lenL, e_lt, e_le, e_gt, e_ge, e_leC, e_ltC, e_isN, e_notN, e_pow,
  List.map_cons, List.map_nil, List.length_cons, List.length_nil, List.replicate_succ, List.replicate_zero, List.cons_append, List.nil_append, List.append_nil, List.getElem?_cons_zero, List.getElem?_cons_succ, List.set_cons_zero, List.set_cons_succ, Nat.reduceAdd, Nat.reduceSub, true_and, and_true, Bool.not_true, Bool.not_false, true_implies, forall_const, not_true_eq_false, false_implies, Bool.false_eq_true, not_false_eq_true, implies_true, eq_self, ne_eq, reduceCtorEq, Fl.rt.injEq, S.d.injEq, D.int.injEq, false_and, exists_false, or_false, false_or, exists_eq_left'])
local macro_rules | `(tactic| walk_at "wt") => `(tactic| simp (config := { contextual := false }) only [ok_row0, ok_row1, ok_row2, ok_row3, ok_put1, ok_put2, ok_put3, e_mod, e_div, e_mul, e_ixS, decide_true, decide_false, *, okF_runF, okF_runL, ok_seq, ok_ret, ok_retN, ok_andV, ok_orV, ok_notV, ok_cb, ok_cons, ok_nil, ok_test, ok_dv, ok_op, ok_un, ok_c, ok_if, ok_ifS, ok_and, ok_or, ok_not, ok_asg, ok_gname, ok_drop, ok_call, ok_chain, ok_nx, ok_bk, ok_ct, ok_st, ok_yes, ok_tup, ok_ok, ok_stuck, ex_toD, ex_toL, ex_bl, ex_some, ex_bl1, fl_nx, fl_rt, fl_bk, fl_ct, rt_or, nx_or, mVar, ok1, gIsi, mIsi2, gIsi2, isTy2, isTy, Option.bind, bare, e_add, e_sub, e_int, e_lenS, e_lenT, e_lenL, e_lt, e_le, e_gt, e_ge, e_leC, e_ltC, e_isN, e_notN, e_pow,
  List.map_cons, List.map_nil, List.length_cons, List.length_nil, List.replicate_succ, List.replicate_zero, List.cons_append, List.nil_append, List.append_nil, List.getElem?_cons_zero, List.getElem?_cons_succ, List.set_cons_zero, List.set_cons_succ, Nat.reduceAdd, Nat.reduceSub, true_and, and_true, Bool.not_true, Bool.not_false, true_implies, forall_const, not_true_eq_false, false_implies, Bool.false_eq_true, not_false_eq_true, implies_true, eq_self, ne_eq, reduceCtorEq, Fl.rt.injEq, S.d.injEq, D.int.injEq, false_and, exists_false, or_false, false_or, exists_eq_left'])
local macro_rules | `(tactic| walk_at "wy") => `(tactic| try walk_at "wp")
local macro_rules | `(tactic| walk_at "we") => `(tactic| first | done | rfl | exact ⟨rfl, rfl⟩ | exact ⟨rfl, rfl, rfl⟩)
namespace Lib
/-! ways along arcs of least ways -/
/-! the program's spares -/
end Lib
end Fx
/-! the weight of a path, the least ones among the simple paths -/
namespace Fx.Lib
open PySem
/-- the weight of an arc -/
def wof (as : List (Nat × Nat)) (ws : List Int) (a : Nat × Nat) : Int := match as.findIdx? fun p => decide (p = a) with
  | some j => ws.getD j 0
  | none => 0
def cost (as : List (Nat × Nat)) (ws : List Int) (p : List Nat) : Int := ((List.range (p.length - 1)).map fun i => wof as ws (p.getD i 0, p.getD (i + 1) 0)).sum
end Fx.Lib
/-! the laws' least paths, on data -/
namespace Fx
open PySem
open PySem.W (dataLt dataLt_pair dataLt_int alike alike_ints)
local macro_rules | `(tactic| walk_at "wp") => `(tactic| simp only [okF_runF, okF_runL, ok_seq, ok_ret, ok_retN, ok_andV, ok_orV, ok_notV, ok_cb, ok_cons, ok_nil, ok_test, ok_dv, ok_op, ok_un, ok_c, ok_if, ok_ifS, ok_and, ok_or, ok_not, ok_asg, ok_gname, ok_drop, ok_call, ok_chain, ok_nx, ok_bk, ok_ct, ok_st, ok_yes, ok_tup, ok_ok, ok_stuck, ex_toD, ex_toL, ex_bl, ex_some, ex_bl1, fl_nx, fl_rt, fl_bk, fl_ct, rt_or, nx_or, mVar, ok1, gIsi, mIsi2, gIsi2, isTy2, isTy, Option.bind, bare, e_add, e_sub, e_int, e_lenS, e_lenT, e_lenL, e_lt, e_le, e_gt, e_ge, e_leC, e_ltC, e_isN, e_notN, e_pow,
  List.map_cons, List.map_nil, List.length_cons, List.length_nil, List.replicate_succ, List.replicate_zero, List.cons_append, List.nil_append, List.append_nil, List.getElem?_cons_zero, List.getElem?_cons_succ, List.set_cons_zero, List.set_cons_succ, Nat.reduceAdd, Nat.reduceSub, true_and, and_true, Bool.not_true, Bool.not_false, true_implies, forall_const, not_true_eq_false, false_implies, Bool.false_eq_true, not_false_eq_true, implies_true, eq_self, ne_eq, reduceCtorEq, Fl.rt.injEq, S.d.injEq, D.int.injEq, false_and, exists_false, or_false, false_or, exists_eq_left'])
local macro_rules | `(tactic| walk_at "wt") => `(tactic| simp (config := { contextual := false }) only [ok_row0, ok_row1, ok_row2, ok_row3, ok_put1, ok_put2, ok_put3, e_mod, e_div, e_mul, e_ixS, decide_true, decide_false, *, okF_runF, okF_runL, ok_seq, ok_ret, ok_retN, ok_andV, ok_orV, ok_notV, ok_cb, ok_cons, ok_nil, ok_test, ok_dv, ok_op, ok_un, ok_c, ok_if, ok_ifS, ok_and, ok_or, ok_not, ok_asg, ok_gname, ok_drop, ok_call, ok_chain, ok_nx, ok_bk, ok_ct, ok_st, ok_yes, ok_tup, ok_ok, ok_stuck, ex_toD, ex_toL, ex_bl, ex_some, ex_bl1, fl_nx, fl_rt, fl_bk, fl_ct, rt_or, nx_or, mVar, ok1, gIsi, mIsi2, gIsi2, isTy2, isTy, Option.bind, bare, e_add, e_sub, e_int, e_lenS, e_lenT, e_lenL, e_lt, e_le, e_gt, e_ge, e_leC, e_ltC, e_isN, e_notN, e_pow,
  List.map_cons, List.map_nil, List.length_cons, List.length_nil, List.replicate_succ, List.replicate_zero, List.cons_append, List.nil_append, List.append_nil, List.getElem?_cons_zero, List.getElem?_cons_succ, List.set_cons_zero, List.set_cons_succ, Nat.reduceAdd, Nat.reduceSub, true_and, and_true, Bool.not_true, Bool.not_false, true_implies, forall_const, not_true_eq_false, false_implies, Bool.false_eq_true, not_false_eq_true, implies_true, eq_self, ne_eq, reduceCtorEq, Fl.rt.injEq, S.d.injEq, D.int.injEq, false_and, exists_false, or_false, false_or, exists_eq_left'])
local macro_rules | `(tactic| walk_at "wy") => `(tactic| try walk_at "wp")
local macro_rules | `(tactic| walk_at "we") => `(tactic| first | done | rfl | exact ⟨rfl, rfl⟩ | exact ⟨rfl, rfl, rfl⟩)
end Fx
namespace Fx.Lib
open PySem
open PySem.W (dataLt dataLt_pair dataLt_int alike alike_ints)
local macro_rules | `(tactic| walk_at "wp") => `(tactic| simp only [okF_runF, okF_runL, ok_seq, ok_ret, ok_retN, ok_andV, ok_orV, ok_notV, ok_cb, ok_cons, ok_nil, ok_test, ok_dv, ok_op, ok_un, ok_c, ok_if, ok_ifS, ok_and, ok_or, ok_not, ok_asg, ok_gname, ok_drop, ok_call, ok_chain, ok_nx, ok_bk, ok_ct, ok_st, ok_yes, ok_tup, ok_ok, ok_stuck, ex_toD, ex_toL, ex_bl, ex_some, ex_bl1, fl_nx, fl_rt, fl_bk, fl_ct, rt_or, nx_or, mVar, ok1, gIsi, mIsi2, gIsi2, isTy2, isTy, Option.bind, bare, e_add, e_sub, e_int, e_lenS, e_lenT, e_lenL, e_lt, e_le, e_gt, e_ge, e_leC, e_ltC, e_isN, e_notN, e_pow,
  List.map_cons, List.map_nil, List.length_cons, List.length_nil, List.replicate_succ, List.replicate_zero, List.cons_append, List.nil_append, List.append_nil, List.getElem?_cons_zero, List.getElem?_cons_succ, List.set_cons_zero, List.set_cons_succ, Nat.reduceAdd, Nat.reduceSub, true_and, and_true, Bool.not_true, Bool.not_false, true_implies, forall_const, not_true_eq_false, false_implies, Bool.false_eq_true, not_false_eq_true, implies_true, eq_self, ne_eq, reduceCtorEq, Fl.rt.injEq, S.d.injEq, D.int.injEq, false_and, exists_false, or_false, false_or, exists_eq_left'])
local macro_rules | `(tactic| walk_at "wt") => `(tactic| simp (config := { contextual := false }) only [ok_row0, ok_row1, ok_row2, ok_row3, ok_put1, ok_put2, ok_put3, e_mod, e_div, e_mul, e_ixS, decide_true, decide_false, *, okF_runF, okF_runL, ok_seq, ok_ret, ok_retN, ok_andV, ok_orV, ok_notV, ok_cb, ok_cons, ok_nil, ok_test, ok_dv, ok_op, ok_un, ok_c, ok_if, ok_ifS, ok_and, ok_or, ok_not, ok_asg, ok_gname, ok_drop, ok_call, ok_chain, ok_nx, ok_bk, ok_ct, ok_st, ok_yes, ok_tup, ok_ok, ok_stuck, ex_toD, ex_toL, ex_bl, ex_some, ex_bl1, fl_nx, fl_rt, fl_bk, fl_ct, rt_or, nx_or, mVar, ok1, gIsi, mIsi2, gIsi2, isTy2, isTy, Option.bind, bare, e_add, e_sub, e_int, e_lenS, e_lenT, e_lenL, e_lt, e_le, e_gt, e_ge, e_leC, e_ltC, e_isN, e_notN, e_pow,
  List.map_cons, List.map_nil, List.length_cons, List.length_nil, List.replicate_succ, List.replicate_zero, List.cons_append, List.nil_append, List.append_nil, List.getElem?_cons_zero, List.getElem?_cons_succ, List.set_cons_zero, List.set_cons_succ, Nat.reduceAdd, Nat.reduceSub, true_and, and_true, Bool.not_true, Bool.not_false, true_implies, forall_const, not_true_eq_false, false_implies, Bool.false_eq_true, not_false_eq_true, implies_true, eq_self, ne_eq, reduceCtorEq, Fl.rt.injEq, S.d.injEq, D.int.injEq, false_and, exists_false, or_false, false_or, exists_eq_left'])
local macro_rules | `(tactic| walk_at "wy") => `(tactic| try walk_at "wp")
local macro_rules | `(tactic| walk_at "we") => `(tactic| first | done | rfl | exact ⟨rfl, rfl⟩ | exact ⟨rfl, rfl, rfl⟩)
end Fx.Lib
/-! what a taker gives, on data; slices of tuples -/
namespace Fx
open PySem Lib
def got : Out S → Option D
  | .ok (.d x) _ => some x
  | _ => none
end Fx
/-! graphs drawn, in the style of FxNl; costs of two numbers -/
namespace Fx.Nl
open PySem Lib
end Fx.Nl
namespace Fx.Lib
open PySem Nl
end Fx.Lib
/-! paths by their two sums; what is unbeaten -/
namespace Fx.Lib
open PySem Nl PySem.W
/-! ### the sums of a path -/
def s1 (cs : List (Int × Int)) : List Int := cs.map (·.1)
def s2 (cs : List (Int × Int)) : List Int := cs.map (·.2)
/-- both sums -/
def sm (as : List (Nat × Nat)) (cs : List (Int × Int)) (p : List Nat) : Nat × Nat := ((cost as (s1 cs) p).toNat, (cost as (s2 cs) p).toNat)
/-! ### what is unbeaten -/
structure Front (M : Nat × Nat → Prop) (U : List (Nat × Nat)) : Prop where
  sub : ∀ u ∈ U, M u
  all : ∀ t, M t → ∃ u ∈ U, u.1 ≤ t.1 ∧ u.2 ≤ t.2
  pw : U.Pairwise fun u v => u.1 < v.1 ∧ v.2 < u.2
def leN (u t : Nat × Nat) : Prop := u.1 < t.1 ∨ (u.1 = t.1 ∧ u.2 ≤ t.2)
theorem Front.nil : Front (fun _ => False) [] := ⟨fun u h => by simp at h, fun t h => h.elim, .nil⟩
theorem Front.step {M : Nat × Nat → Prop} {U : List (Nat × Nat)} (f : Front M U) {t : Nat × Nat} (hs : ∀ u, M u → leN u t) : (U = [] ∨ ∃ l, U.getLast? = some l ∧ t.2 < l.2) → Front (fun x => M x ∨ x = t) (U ++ [t]) := by
  intro h
  have lo : ∀ u ∈ U, t.2 < u.2 := by
    rcases h with rfl | ⟨l, hl, ht⟩
    · intro u hu; simp at hu
    · intro u hu
      obtain ⟨V, rfl⟩ : ∃ V, U = V ++ [l] := by
        obtain ⟨V, hV⟩ := List.getLast?_eq_some_iff.mp hl
        exact ⟨V, hV⟩
      rcases List.mem_append.mp hu with hu | hu
      · have := (List.pairwise_append.mp f.pw).2.2 u hu l (List.mem_singleton.mpr rfl)
        omega
      · rw [List.mem_singleton.mp hu]; exact ht
  refine ⟨fun u hu => ?_, fun x hx => ?_, ?_⟩
  · rcases List.mem_append.mp hu with hu | hu
    · exact .inl (f.sub u hu)
    · exact .inr (List.mem_singleton.mp hu)
  · rcases hx with hx | rfl
    · obtain ⟨u, hu, h1⟩ := f.all x hx
      exact ⟨u, List.mem_append_left _ hu, h1⟩
    · exact ⟨x, List.mem_append_right _ (List.mem_singleton.mpr rfl), Nat.le_refl _, Nat.le_refl _⟩
  · refine List.pairwise_append.mpr ⟨f.pw, List.pairwise_singleton _ _, fun u hu v hv => ?_⟩
    rw [List.mem_singleton.mp hv]
    have h1 := lo u hu
    refine ⟨?_, h1⟩
    rcases hs u (f.sub u hu) with z | ⟨_, z⟩
    · exact z
    · omega
theorem Front.skip {M : Nat × Nat → Prop} {U : List (Nat × Nat)} (f : Front M U) {t l : Nat × Nat} (hs : ∀ u, M u → leN u t) (hl : U.getLast? = some l) (h : ¬t.2 < l.2) : Front (fun x => M x ∨ x = t) U := by
  refine ⟨fun u hu => .inl (f.sub u hu), fun x hx => ?_, f.pw⟩
  rcases hx with hx | rfl
  · exact f.all x hx
  · have hm := List.mem_of_getLast? hl
    refine ⟨l, hm, ?_, by omega⟩
    rcases hs l (f.sub l hm) with z | ⟨z, _⟩
    · omega
    · omega
theorem Front.empty {M : Nat × Nat → Prop} {U : List (Nat × Nat)} (f : Front M U) : U = [] ↔ ∀ x, ¬M x := by
  constructor
  · rintro rfl x hx
    obtain ⟨u, hu, _⟩ := f.all x hx
    simp at hu
  · intro h
    cases U with
    | nil => rfl
    | cons u U => exact (h u (f.sub u List.mem_cons_self)).elim
/-! ### the least number of a list -/
end Fx.Lib
/-! for x in zip(t, u), x a name, t and u tuples -/
/-! readings of pairs of costs -/
namespace Fx.Nl
open PySem Lib
end Fx.Nl
namespace Fx.Lib
open PySem Nl
/-- a list of pairs in order -/
def fI (p : Nat × Nat) : List Int := [(p.1 : Int), (p.2 : Int)]
end Fx.Lib
/-! comprehensions and loops over data of any kind -/
namespace Fx.Nl
open PySem Lib
def EvI (f : M (List D)) (ρ : En) (xs : List D) : Prop := OK (f ρ) fun ys ρ1 => ys = xs ∧ ρ1 = ρ
def EvG (g : D → M Unit) (x : D) (ρ ρ1 : En) : Prop := OK (g x ρ) fun _ ρ2 => ρ2 = ρ1
section
variable {α β : Type} {ρ ρ1 : En} {i j k l : Nat} {x y z : D} {xs : List D} {fs fe fk fv fa fb : M S} {fA : M (List D)} {fI fI1 : M (List D)} {ft ft1 : M Bool} {gm gm1 : D → M Unit} {F : M Fl} {own own1 : List Nat} {PF : Fl → En → Prop}
theorem EvI.ok (h : EvI fI ρ xs) {P : List D → En → Prop} (q : P xs ρ) : OK (fI ρ) P := h.imp fun _ _ ⟨e1, e2⟩ => by rw [e1, e2]; exact q
theorem EvG.ok (h : EvG gm x ρ ρ1) {P : Unit → En → Prop} (q : P () ρ1) : OK (gm x ρ) P := h.imp fun _ _ e => by rw [e]; exact q
theorem ei_seq (h : Ev fs ρ x) (hx : itemsD x = some xs) : EvI (iSeq fs) ρ xs := by
  unfold EvI
  rw [ok_iseq]
  exact h.dv ⟨_, hx, rfl, rfl⟩
theorem eg_name : EvG (gmName i) x ρ (ρ.set i (some (.d x))) := by
  unfold EvG
  rw [ok_gname]
/-- [e for x in xs if t] -/
theorem lcG {emb : α → D} {ls : List α} {t : α → Bool} {f : α → D} {E : α → En} (hI : EvI fI ρ (ls.map emb)) (hw : wipeE ρ own = ρ) (hg : ∀ a ∈ ls, EvG gm (emb a) ρ (E a)) (tt : ∀ a ∈ ls, EvB ft (E a) (t a)) (ff : ∀ a ∈ ls, t a = true → Ev fe (E a) (f a)) (ww : ∀ a ∈ ls, wipeE (E a) own = ρ) (hs : ls.length ≤ 1000000) :
    Ev (mLc fI gm ft fe own) ρ (.lst ((ls.filter t).map f)) := by
  unfold Ev
  rw [ok_dv, ok_lc]
  refine hI.ok ?_
  rw [hw]
  refine ok_comp (I := fun k a ρ' => a = ((ls.take k).filter t).map f ∧ ρ' = ρ) (k := 0) ⟨by simp, rfl⟩ ?_ ?_
  · rintro k x a ρ' hx ⟨rfl, rfl⟩
    rw [Nat.zero_add]
    obtain ⟨p, hp, rfl⟩ : ∃ p, ls[k]? = some p ∧ emb p = x := by
      rw [List.getElem?_map] at hx
      exact Option.map_eq_some_iff.mp hx
    have hk : k < ls.length := (List.getElem?_eq_some_iff.mp hp).1
    have hle : ((ls.take k).filter t).length ≤ k := Nat.le_trans (List.length_filter_le _ _) (by rw [List.length_take]; omega)
    have e : ((ls.take (k + 1)).filter t).map f = ((ls.take k).filter t).map f ++ (if t p then [f p] else []) := by
      rw [List.take_add_one, hp, List.filter_append, List.map_append]
      congr 1
      show (List.filter t [p]).map f = _
      rw [List.filter_cons, List.filter_nil]
      split <;> rfl
    have hm := List.mem_of_getElem? hp
    refine (hg p hm).ok ((tt p hm).ok ⟨fun h => ?_, fun h => ?_⟩)
    · refine (ff p hm h).dv ⟨?_, ?_, ww p hm⟩
      · rw [List.length_map]
        exact decide_eq_true (by omega)
      · rw [e, if_pos h]
    · refine ⟨?_, ww p hm⟩
      rw [e, if_neg h, List.append_nil]
  · rintro a ρ' ⟨rfl, rfl⟩
    rw [Nat.zero_add, List.length_map, List.take_length]
    exact ⟨_, rfl, rfl, rfl⟩
/-- for x in xs: .. -/
theorem forG {emb : α → D} {ls : List α} {I : Nat → En → Prop} (hI : EvI fI ρ (ls.map emb)) (i0 : I 0 ρ) (st : ∀ k a ρ, ls[k]? = some a → I k ρ → ∃ ρ1, EvG gm (emb a) ρ ρ1 ∧ OK (F ρ1) (LP (I (k + 1)) PF)) (e : ∀ ρ, I ls.length ρ → PF .nx ρ) : OK (mFor fI gm F ρ) PF := by
  rw [ok_for]
  refine hI.ok (ok_loop (I := I) (k := 0) i0 (fun q x ρ hx hI => ?_) fun ρ hI => e ρ (by rw [Nat.zero_add, List.length_map] at hI; exact hI))
  rw [Nat.zero_add] at hI ⊢
  rw [List.getElem?_map] at hx
  obtain ⟨a, ha, rfl⟩ := Option.map_eq_some_iff.mp hx
  obtain ⟨ρ1, g, h⟩ := st q a ρ ha hI
  exact g.ok h
theorem headT {L : List D} {i : Nat} (ha : Ev fa ρ (.tup L)) (hb : Ev fb ρ (.int (i : Nat))) : Ev (mSl fa oNone (oSome fb)) ρ (.tup (L.take i)) := ev_of (by
  refine ok_sl (ha.dv ?_)
  rw [ok_onone]
  refine ok_osome (hb.dv ⟨_, rfl, .d (.tup (L.take i)), ?_, rfl, rfl⟩)
  show some (S.d (.tup (cutD L none (some (i : Nat))))) = _
  rw [cutD_to (by omega), Int.toNat_natCast])
theorem headN {L : List Nat} {i : Nat} (ha : Ev fa ρ (.tup (nl L))) (hb : Ev fb ρ (.int (i : Nat))) : Ev (mSl fa oNone (oSome fb)) ρ (.tup (nl (L.take i))) := by
  have := headT ha hb
  rw [← List.map_take] at this
  exact this
end
end Fx.Nl
/-! dict(d), keys numbers or texts -/
/-! {**d, k: v}, keys numbers or texts -/
/-! dicts whose keys stand for something, as lists of entries -/
namespace Fx.Nl
open PySem Lib
/-! keys: numbers; nested tuples -/
end Fx.Nl
/-! nested tuples as keys of dicts -/
namespace Fx.Nl
open PySem
end Fx.Nl
/-! a tuple, once or more often -/
/-! t * k -/
/-! x == y, x an instance whose class has its own __eq__, y one of the same class or a tuple -/
/-! for i, x in enumerate(t, start=k), t a tuple, k written -/
/-! defs of choices and of their laws, on data (as k30 has them) -/
/-! choices: paths, lists of paths, choices on data -/
namespace Fx.Ch
open PySem Lib Nl
structure OkPath (m v : Nat) (p : List Nat) : Prop where
  two : 2 ≤ p.length
  hd : p[0]? = some v
  lst : p.getLast? = some 0
  nd : p.Nodup
  le : ∀ x ∈ p, x ≤ m
def OkAt (m i : Nat) (P : List (List Nat)) : Prop := P.length ≤ 10 ∧ P.Nodup ∧ ∀ p ∈ P, OkPath m (i + 1) p
structure Fine (m : Nat) (L : List (List (List Nat))) : Prop where
  len : L.length = m
  at_ : ∀ i P, L[i]? = some P → OkAt m i P
theorem OkPath.len {m v : Nat} {p : List Nat} (h : OkPath m v p) : p.length ≤ m + 1 := nodup_len h.nd fun i hi => by have := h.le i hi; omega
/-! ### is_path -/
/-! ### enumerate from a start on -/
end Fx.Ch
/-! choices: choices made, refused -/
/-! choices: states, what a node takes -/
namespace Fx.Ch
open PySem Lib Nl
structure OkSt (L : List (List (List Nat))) (st : List (Option (List Nat))) : Prop where
  len : st.length = L.length
  at_ : ∀ (i : Nat) (p : List Nat), st[i]? = some (some p) → ∃ P : List (List Nat), L[i]? = some P ∧ p ∈ P
def fits (st : List (Option (List Nat))) (p : List Nat) : Bool := decide (p.getD 1 0 = 0) || decide (st.getD (p.getD 1 0 - 1) none = some (p.drop 1))
def takes (st : List (Option (List Nat))) (P : List (List Nat)) : Option (List Nat) := P.find? (fits st)
end Fx.Ch
/-! choices: lists drawn -/
/-! choices: a state drawn, own == -/
/-! disputes, numberings, runs of choices: numbers and lists alone -/
namespace Fx.Ch
abbrev Ls := List (List (List Nat))
abbrev St := List (Option (List Nat))
def at1 (L : Ls) (v : Nat) : List (List Nat) := L.getD (v - 1) []
/-- the disputes of one better path -/
def dispOf (L : Ls) (R : List Nat) : List (Nat × List Nat × List Nat) := ((List.range (R.length - 2)).filter fun c => decide (R.drop (c + 1) ∈ at1 L (R.getD (c + 1) 0))).map fun c => (R.getD (c + 1) 0, R.drop (c + 1), R.take (c + 2))
def disp (L : Ls) (v : Nat) (p : List Nat) : List (Nat × List Nat × List Nat) := ((at1 L v).take ((at1 L v).idxOf p + 1)).flatMap (dispOf L)
def Listed (L : Ls) (v : Nat) (p : List Nat) : Prop := 1 ≤ v ∧ v ≤ L.length ∧ p ∈ at1 L v
section
variable {m : Nat} {L : Ls} {order : List (Nat × List Nat)} {a b st : St}
theorem mem_at1 {i : Nat} {P : List (List Nat)} (e : L[i]? = some P) : at1 L (i + 1) = P := by
  unfold at1
  rw [Nat.add_sub_cancel, List.getD_eq_getElem?_getD, e]
  rfl
theorem Listed.get {v : Nat} {p : List Nat} (h : Listed L v p) : ∃ P, L[v - 1]? = some P ∧ p ∈ P ∧ at1 L v = P := by
  obtain ⟨h1, h2, h3⟩ := h
  refine ⟨L[v - 1]'(by omega), List.getElem?_eq_getElem _, ?_, ?_⟩
  · unfold at1 at h3
    rw [List.getD_eq_getElem?_getD, List.getElem?_eq_getElem (by omega)] at h3
    exact h3
  · unfold at1
    rw [List.getD_eq_getElem?_getD, List.getElem?_eq_getElem (by omega)]
    rfl
theorem Listed.ok (f : Fine m L) {v : Nat} {p : List Nat} (h : Listed L v p) : OkPath m v p := by
  obtain ⟨P, e, hp, _⟩ := h.get
  have := (f.at_ _ _ e).2.2 p hp
  rw [show v - 1 + 1 = v by have := h.1; omega] at this
  exact this
theorem OkSt.getD (h : OkSt L a) {i : Nat} {p : List Nat} (e : a.getD i none = some p) : Listed L (i + 1) p := by
  rw [List.getD_eq_getElem?_getD] at e
  cases ha : a[i]? with
  | none => rw [ha] at e; cases e
  | some o =>
    rw [ha] at e
    have e : o = some p := e
    subst e
    obtain ⟨P, e1, e2⟩ := h.at_ _ _ ha
    refine ⟨by omega, ?_, ?_⟩
    · have := (List.getElem?_eq_some_iff.mp e1).1
      omega
    · rw [mem_at1 e1]
      exact e2
theorem mem_dispOf {R : List Nat} {t : Nat × List Nat × List Nat} : t ∈ dispOf L R ↔ ∃ c, c + 2 < R.length ∧ R.drop (c + 1) ∈ at1 L (R.getD (c + 1) 0) ∧ t = (R.getD (c + 1) 0, R.drop (c + 1), R.take (c + 2)) := by
  unfold dispOf
  simp only [List.mem_map, List.mem_filter, List.mem_range, decide_eq_true_eq]
  constructor
  · rintro ⟨c, ⟨h1, h2⟩, rfl⟩
    exact ⟨c, by omega, h2, rfl⟩
  · rintro ⟨c, h1, h2, rfl⟩
    exact ⟨c, ⟨by omega, h2⟩, rfl⟩
/-- the inner nodes of a path are nodes that take paths -/
theorem inner_pos {v : Nat} {R : List Nat} (h : OkPath m v R) {c : Nat} (hc : c + 2 < R.length) : 1 ≤ R.getD (c + 1) 0 ∧ R.getD (c + 1) 0 ≤ m := by
  have e : R[c + 1]? = some (R.getD (c + 1) 0) := by
    rw [List.getD_eq_getElem?_getD, List.getElem?_eq_getElem (by omega)]
    rfl
  refine ⟨?_, h.le _ (List.mem_of_getElem? e)⟩
  rcases Nat.eq_zero_or_pos (R.getD (c + 1) 0) with h0 | h0
  · rw [h0] at e
    have el : R[R.length - 1]? = some 0 := by
      rw [← List.getLast?_eq_getElem?]
      exact h.lst
    have := (List.getElem?_inj (by omega) h.nd).mp (e.trans el.symm)
    omega
  · exact h0
theorem disp_listed (f : Fine m L) {v : Nat} {p : List Nat} {t : Nat × List Nat × List Nat} (hv : Listed L v p) (h : t ∈ disp L v p) : Listed L t.1 t.2.1 := by
  obtain ⟨P, e, hp, eP⟩ := hv.get
  unfold disp at h
  obtain ⟨R, hR, ht⟩ := List.mem_flatMap.mp h
  have hR' : Listed L v R := ⟨hv.1, hv.2.1, List.mem_of_mem_take hR⟩
  obtain ⟨c, h1, h2, rfl⟩ := mem_dispOf.mp ht
  have := inner_pos (hR'.ok f) h1
  exact ⟨this.1, by rw [f.len]; exact this.2, h2⟩
end
end Fx.Ch
/-! all states of choices in order, and what a search by fixed paths finds: numbers and lists alone -/
namespace Fx.Ch
def opts (P : List (List Nat)) : List (Option (List Nat)) := P.map some ++ [none]
def prodL : Ls → List St
  | [] => [[]]
  | P :: L => (opts P).flatMap fun o => (prodL L).map (o :: ·)
theorem opts_nd {P : List (List Nat)} (h : P.Nodup) : (opts P).Nodup := by
  unfold opts
  rw [List.nodup_append]
  refine ⟨List.nodup_iff_pairwise_ne.mpr ((List.pairwise_map).mpr ((List.nodup_iff_pairwise_ne.mp h).imp fun h e => h (Option.some.inj e))), by simp, fun a ha b hb e => ?_⟩
  obtain ⟨p, _, rfl⟩ := List.mem_map.mp ha
  rw [List.mem_singleton.mp hb] at e
  cases e
/-- of a flatMap over different things only one is left -/
theorem flatMap_one {α β : Type} [DecidableEq α] {g : α → List β} {a : α} : ∀ {l : List α}, l.Nodup → a ∈ l → (∀ x ∈ l, x ≠ a → g x = []) → l.flatMap g = g a
  | [], _, h, _ => by cases h
  | x :: l, nd, h, hg => by
    rw [List.nodup_cons] at nd
    rw [List.flatMap_cons]
    by_cases e : x = a
    · subst e
      rw [List.flatMap_eq_nil_iff.mpr fun y hy => hg y (List.mem_cons_of_mem _ hy) fun z => nd.1 (z ▸ hy), List.append_nil]
    · rw [hg x List.mem_cons_self e, List.nil_append]
      exact flatMap_one nd.2 ((List.mem_cons.mp h).resolve_left fun z => e z.symm) fun y hy => hg y (List.mem_cons_of_mem _ hy)
theorem flatMap_nilL {α β : Type} {g : α → List β} {l : List α} (h : ∀ x ∈ l, g x = []) : l.flatMap g = [] := List.flatMap_eq_nil_iff.mpr h
theorem flatMap_congrL {α β : Type} {f g : α → List β} {l : List α} (h : ∀ x ∈ l, f x = g x) : l.flatMap f = l.flatMap g := by
  induction l with
  | nil => rfl
  | cons x l ih =>
    rw [List.flatMap_cons, List.flatMap_cons, h x List.mem_cons_self, ih fun y hy => h y (List.mem_cons_of_mem _ hy)]
theorem split0 {P : List (List Nat)} {L : Ls} (nd : P.Nodup) (F : St → Bool) {o : Option (List Nat)} (ho : o ∈ opts P) : (prodL (P :: L)).filter (fun s => F s && (s.getD 0 none == o)) = ((prodL L).map (o :: ·)).filter F := by
  show ((opts P).flatMap _).filter _ = _
  rw [List.filter_flatMap, flatMap_one (a := o) (opts_nd nd) ho]
  · refine List.filter_congr fun s hs => ?_
    obtain ⟨t, _, rfl⟩ := List.mem_map.mp hs
    show (F (o :: t) && (o == o)) = _
    rw [beq_self_eq_true, Bool.and_true]
  · intro x _ hx
    refine List.filter_eq_nil_iff.mpr fun s hs e => ?_
    obtain ⟨t, _, rfl⟩ := List.mem_map.mp hs
    have e : (F (x :: t) && (x == o)) = true := e
    rw [Bool.and_eq_true] at e
    exact hx (eq_of_beq e.2)
theorem split : ∀ (i : Nat) {L : Ls} (F : St → Bool), i < L.length → (∀ P ∈ L, P.Nodup) → (∀ s ∈ prodL L, ∀ t ∈ prodL L, F s = true → F t = true → ∀ j, j < i → s.getD j none = t.getD j none) → (prodL L).filter F = (opts (L.getD i [])).flatMap fun o => (prodL L).filter fun s => F s && (s.getD i none == o)
  | _, [], _, hi, _, _ => absurd hi (Nat.not_lt_zero _)
  | 0, P :: L, F, _, nd, _ => by
    show ((opts P).flatMap _).filter F = (opts P).flatMap _
    rw [List.filter_flatMap]
    exact flatMap_congrL fun o ho => (split0 (nd P List.mem_cons_self) F ho).symm
  | i + 1, P :: L, F, hi, nd, h => by
    have hP := nd P List.mem_cons_self
    rw [show (P :: L).getD (i + 1) [] = L.getD i [] from rfl]
    by_cases hx : ∃ s ∈ prodL (P :: L), F s = true
    · obtain ⟨s, hs, hF⟩ := hx
      obtain ⟨c, hc, hs'⟩ := List.mem_flatMap.mp (show s ∈ (opts P).flatMap _ from hs)
      obtain ⟨t, ht, rfl⟩ := List.mem_map.mp hs'
      have one : ∀ G : St → Bool, (∀ u, G u = true → F u = true) → (prodL (P :: L)).filter G = ((prodL L).filter fun u => G (c :: u)).map (c :: ·) := fun G hG => by
        have e1 : (prodL (P :: L)).filter G = (prodL (P :: L)).filter fun u => G u && (u.getD 0 none == c) := List.filter_congr fun u hu => by
          cases hg : G u with
          | false => rfl
          | true =>
            rw [Bool.true_and]
            exact (beq_iff_eq.mpr (h u hu _ hs (hG u hg) hF 0 (by omega))).symm
        rw [e1, split0 hP G hc, List.filter_map]
        rfl
      rw [one F fun u hu => hu]
      have ih := split i (L := L) (fun u => F (c :: u)) (by simpa using hi) (fun Q hQ => nd Q (List.mem_cons_of_mem _ hQ)) fun u hu v hv hFu hFv j hj => by
        have := h (c :: u) (List.mem_flatMap.mpr ⟨c, hc, List.mem_map.mpr ⟨u, hu, rfl⟩⟩) (c :: v) (List.mem_flatMap.mpr ⟨c, hc, List.mem_map.mpr ⟨v, hv, rfl⟩⟩) hFu hFv (j + 1) (by omega)
        exact this
      rw [ih, List.map_flatMap]
      refine flatMap_congrL fun o _ => ?_
      rw [one (fun s => F s && (s.getD (i + 1) none == o)) fun u hu => (Bool.and_eq_true_iff.mp hu).1]
      rfl
    · have e1 : ∀ G : St → Bool, (∀ u, G u = true → F u = true) → (prodL (P :: L)).filter G = [] := fun G hG => List.filter_eq_nil_iff.mpr fun u hu e => hx ⟨u, hu, hG u e⟩
      rw [e1 F fun u hu => hu]
      exact (flatMap_nilL fun o _ => e1 _ fun u hu => (Bool.and_eq_true_iff.mp hu).1).symm
/-! fixed paths -/
abbrev Fxd := List (Nat × Option (List Nat))
def lkp (v : Nat) : Fxd → Option (Option (List Nat))
  | [] => none
  | (u, o) :: f => if u = v then some o else lkp v f
theorem lkp_app : ∀ {f g : Fxd} {v : Nat}, lkp v (f ++ g) = (match lkp v f with | some o => some o | none => lkp v g)
  | [], _, _ => rfl
  | (u, x) :: f, g, v => by
    show (if u = v then some x else lkp v (f ++ g)) = (match (if u = v then some x else lkp v f) with | some o => some o | none => lkp v g)
    by_cases e : u = v
    · rw [if_pos e, if_pos e]
    · rw [if_neg e, if_neg e]
      exact lkp_app
def val (s : St) (v : Nat) : Option (List Nat) := s.getD (v - 1) none
structure Good (L : Ls) (f : Fxd) : Prop where
  nd : (f.map (·.1)).Nodup
  rng : ∀ v o, (v, o) ∈ f → 1 ≤ v ∧ v ≤ L.length
  ls : ∀ v p, (v, some p) ∈ f → p ∈ at1 L v
  cl : ∀ v p, (v, some p) ∈ f → p.getD 1 0 = 0 ∨ lkp (p.getD 1 0) f = some (some (p.drop 1))
section
variable {m : Nat} {L : Ls} {f g : Fxd} {s : St}
theorem Good.nil : Good L [] := ⟨List.nodup_nil, fun _ _ h => (nomatch h), fun _ _ h => (nomatch h), fun _ _ h => (nomatch h)⟩
theorem Good.none {v : Nat} (h : Good L f) (h1 : 1 ≤ v) (h2 : v ≤ L.length) (hv : v ∉ f.map (·.1)) : Good L (f ++ [(v, none)]) := by
  refine ⟨?_, fun u o hu => ?_, fun u p hu => ?_, fun u p hu => ?_⟩
  · rw [List.map_append, List.nodup_append]
    refine ⟨h.nd, by simp, fun x hx y hy e => ?_⟩
    simp only [List.map_cons, List.map_nil, List.mem_singleton] at hy
    rw [e, hy] at hx
    exact hv hx
  · rcases List.mem_append.mp hu with q | q
    · exact h.rng u o q
    · cases List.mem_singleton.mp q
      exact ⟨h1, h2⟩
  · rcases List.mem_append.mp hu with q | q
    · exact h.ls u p q
    · cases List.mem_singleton.mp q
  · rcases List.mem_append.mp hu with q | q
    · refine (h.cl u p q).imp_right fun e => ?_
      rw [lkp_app, e]
    · cases List.mem_singleton.mp q
end
end Fx.Ch
/-! the search, step by step -/
namespace Fx.Ch
def stB (L : Ls) (s : St) : Bool := (List.range L.length).all fun i => takes s (L.getD i []) == s.getD i none
def extB (f : Fxd) (s : St) : Bool := f.all fun x => val s x.1 == x.2
def goal (L : Ls) (f : Fxd) : List St := (prodL L).filter fun s => extB f s && stB L s
section
variable {m : Nat} {L : Ls} {f g : Fxd} {s : St}
theorem Fine.nd (fi : Fine m L) : ∀ P ∈ L, P.Nodup := fun P hP => by
  obtain ⟨i, e⟩ := List.getElem?_of_mem hP
  exact (fi.at_ _ _ e).2.1
/-! how far a search goes -/
def free (m : Nat) (f : Fxd) : List Nat := (List.range m).filterMap fun i => if i + 1 ∈ f.map (·.1) then none else some (i + 1)
end
end Fx.Ch
/-! xs[::-1] of a list -/
/-! t[::-1] of a tuple -/
/-! more defs of choices and of their laws, on data -/
/-! disputes, on data -/
/-! the stripping of pairs without a dispute: lists alone -/
namespace Fx.Ch
abbrev Pr := Nat × List Nat
def enumL : Nat → Ls → List (Nat × List (List Nat))
  | _, [] => []
  | k, P :: L => (k, P) :: enumL (k + 1) L
def prs (L : Ls) : List Pr := (enumL 1 L).flatMap fun q => q.2.map fun p => (q.1, p)
def goes (L : Ls) (S : List Pr) (q : Pr) : List (Nat × List Nat × List Nat) := (disp L q.1 q.2).filter fun t => decide ((t.1, t.2.1) ∈ S)
def rdy (L : Ls) (S : List Pr) : List Pr := S.filter fun q => (goes L S q).isEmpty
def stay (L : Ls) (S : List Pr) : List Pr := S.filter fun q => !decide (q ∈ rdy L S)
theorem mem_enumL : ∀ {L : Ls} {k v : Nat} {P : List (List Nat)}, (v, P) ∈ enumL k L ↔ k ≤ v ∧ L[v - k]? = some P
  | [], k, v, P => by simp [enumL]
  | Q :: L, k, v, P => by
    unfold enumL
    rw [List.mem_cons, mem_enumL]
    constructor
    · rintro (e | ⟨h1, h2⟩)
      · cases e
        refine ⟨Nat.le_refl _, ?_⟩
        rw [Nat.sub_self]
        rfl
      · refine ⟨by omega, ?_⟩
        rw [show v - k = v - (k + 1) + 1 by omega]
        exact h2
    · rintro ⟨h1, h2⟩
      rcases Nat.eq_or_lt_of_le h1 with e | e
      · left
        subst e
        rw [Nat.sub_self] at h2
        cases h2
        rfl
      · right
        refine ⟨e, ?_⟩
        rw [show v - k = v - (k + 1) + 1 by omega] at h2
        exact h2
theorem mem_prs {L : Ls} {v : Nat} {p : List Nat} : (v, p) ∈ prs L ↔ Listed L v p := by
  unfold prs
  rw [List.mem_flatMap]
  constructor
  · rintro ⟨⟨u, P⟩, h1, h2⟩
    obtain ⟨q, hq, e⟩ := List.mem_map.mp h2
    cases e
    obtain ⟨h3, h4⟩ := mem_enumL.mp h1
    have hl := (List.getElem?_eq_some_iff.mp h4).1
    refine ⟨h3, by omega, ?_⟩
    unfold at1
    rw [List.getD_eq_getElem?_getD, h4]
    exact hq
  · intro h
    obtain ⟨P, e, hp, _⟩ := h.get
    exact ⟨(v, P), mem_enumL.mpr ⟨h.1, e⟩, List.mem_map.mpr ⟨p, hp, rfl⟩⟩
theorem enumL_lt : ∀ {L : Ls} {k : Nat}, (enumL k L).Pairwise fun a b => a.1 < b.1
  | [], _ => List.Pairwise.nil
  | P :: L, k => by
    unfold enumL
    refine List.Pairwise.cons (fun b hb => ?_) enumL_lt
    have := (mem_enumL.mp (show (b.1, b.2) ∈ _ from hb)).1
    exact this
theorem prs_nd {m : Nat} {L : Ls} (f : Fine m L) : (prs L).Nodup := by
  unfold prs
  rw [List.nodup_iff_pairwise_ne, List.pairwise_flatMap]
  refine ⟨fun q hq => List.pairwise_map.mpr ?_, enumL_lt.imp fun {a b} hab x hx y hy e => ?_⟩
  · have h4 := (mem_enumL.mp (show (q.1, q.2) ∈ _ from hq)).2
    exact (List.nodup_iff_pairwise_ne.mp (f.at_ _ _ h4).2.1).imp fun h e => h (Prod.ext_iff.mp e).2
  · obtain ⟨_, _, rfl⟩ := List.mem_map.mp hx
    obtain ⟨_, _, rfl⟩ := List.mem_map.mp hy
    have := (Prod.ext_iff.mp e).1
    dsimp only at this
    omega
theorem mem_rdy {L : Ls} {S : List Pr} {q : Pr} : q ∈ rdy L S ↔ q ∈ S ∧ ∀ t ∈ disp L q.1 q.2, (t.1, t.2.1) ∉ S := by
  unfold rdy goes
  rw [List.mem_filter, List.isEmpty_iff, List.filter_eq_nil_iff]
  simp
structure Str (L : Ls) (S o : List Pr) : Prop where
  nd : (o ++ S).Nodup
  mem : ∀ q, q ∈ o ++ S ↔ q ∈ prs L
  back : ∀ (k v : Nat) (p : List Nat), o[k]? = some (v, p) → ∀ t ∈ disp L v p, ∃ j : Nat, j < k ∧ o[j]? = some (t.1, t.2.1)
  sub : S.Sublist (prs L)
theorem Str.step {m : Nat} {L : Ls} {S o : List Pr} (f : Fine m L) (h : Str L S o) : Str L (stay L S) (o ++ rdy L S) := by
  have nd := List.nodup_append.mp h.nd
  have hmem : ∀ q, q ∈ rdy L S ∨ q ∈ stay L S ↔ q ∈ S := fun q => by
    unfold stay
    rw [List.mem_filter]
    constructor
    · rintro (a | a)
      · exact (mem_rdy.mp a).1
      · exact a.1
    · intro a
      by_cases b : q ∈ rdy L S
      · exact .inl b
      · exact .inr ⟨a, by simp [b]⟩
  refine ⟨?_, fun q => ?_, fun k v p hk t ht => ?_, List.Sublist.trans List.filter_sublist h.sub⟩
  · rw [List.append_assoc, List.nodup_append, List.nodup_append]
    refine ⟨nd.1, ⟨List.Nodup.sublist List.filter_sublist nd.2.1, List.Nodup.sublist List.filter_sublist nd.2.1, fun x hx y hy e => ?_⟩, fun x hx y hy => nd.2.2 x hx y ((hmem y).mp (List.mem_append.mp hy))⟩
    subst e
    have := (List.mem_filter.mp hy).2
    simp [hx] at this
  · rw [List.append_assoc, List.mem_append, List.mem_append, hmem, ← h.mem q, List.mem_append]
  · have hin : ∀ k' v' p', o[k']? = some (v', p') → (o ++ rdy L S)[k']? = some (v', p') := fun k' v' p' e => by
      rw [List.getElem?_append_left (List.getElem?_eq_some_iff.mp e).1]
      exact e
    by_cases hlt : k < o.length
    · rw [List.getElem?_append_left hlt] at hk
      obtain ⟨j, hj, e⟩ := h.back k v p hk t ht
      exact ⟨j, hj, hin _ _ _ e⟩
    · rw [List.getElem?_append_right (by omega)] at hk
      obtain ⟨hS, hn⟩ := mem_rdy.mp (List.mem_of_getElem? hk)
      have hl : Listed L v p := mem_prs.mp ((h.mem _).mp (List.mem_append_right _ hS))
      have ht' := disp_listed f hl ht
      have := (h.mem _).mpr (mem_prs.mpr ht')
      rcases List.mem_append.mp this with z | z
      · obtain ⟨j, hj⟩ := List.getElem?_of_mem z
        exact ⟨j, by have := (List.getElem?_eq_some_iff.mp hj).1; omega, hin _ _ _ hj⟩
      · exact absurd z (hn t ht)
theorem Str.one {m : Nat} {L : Ls} (f : Fine m L) : Str L (prs L) [] := ⟨prs_nd f, fun q => by rw [List.nil_append], fun k v p e => by simp at e, List.Sublist.refl _⟩
end Fx.Ch
/-! pairs and their numbering, on data -/
namespace Fx.Nl
open PySem
/-- what is answered, as a value -/
def Ret (o : Out S) (x : D) : Prop := OKF o fun s => toD s = some x
theorem Ret.d {o : Out S} {x : D} (h : OKF o fun s => s = .d x) : Ret o x := h.imp fun s e => by rw [e]; rfl
theorem Ret.o {o : Out S} {x : D} (h : OKF o fun s => s = .o none x) (hc : canFz x = true) : Ret o x := h.imp fun s e => by
  rw [e]
  show (if canFz x then some x else none) = _
  rw [if_pos hc]
theorem bare_toD {s : S} {x : D} (h : toD s = some x) : bare s = true := by
  cases s with
  | d y => rfl
  | o b y =>
    cases b with
    | none => rfl
    | some p => cases h
  | q ks ds => cases h
section
variable {ρ : En} {fA : M (List D)} {xs : List D} {x : D} {F : Fn} {ft : M Bool} {B : M Fl} {PF : Fl → En → Prop} {i : Nat} {b : Option Nat} {fe : M S} {ds es : List D}
theorem evRet (h : EvA fA ρ xs) (k : Ret (F (xs.map .d)) x) : Ev (mCall F fA) ρ x := by
  unfold Ev
  rw [ok_dv, ok_call]
  refine h.ok ?_
  exact OKF.imp k fun s e => ⟨bare_toD e, x, e, rfl, rfl⟩
end
end Fx.Nl
/-! the paid paths of a node, sorted by a link's rank, length, path -/
namespace Fx.Td
open PySem Lib Nl
def b_paid_paths : M Fl := (mSeq (mDrop (mCall f_check_trade (aCons (mVar 0) aNil)))
    (mSeq (mIfS (mNot (mTest (mCall f_is_number (aCons (mVar 1) (aCons (mC (.int 0)) (aCons (mOp gMinus (mFldE "Trade" 0 (mVar 0)) (mC (.int 1))) aNil)))))) mSt mNx)
    (mSeq (mAsg (mCB gRngV (aCons (mFldE "Trade" 0 (mVar 0)) aNil)) (gmName 2))
    (mSeq (mAsg (mDc (iRngD (mVar 2)) (gmName 5) mYes (mVar 5) (mLc (iRngD (mVar 2)) (gmName 4) (mTest (mOp gNotN (mCall f_rank_of_link (aCons (mVar 0) (aCons (mVar 5) (aCons (mVar 4) aNil)))) (mC .non))) (mVar 4) [4]) [5]) (gmName 3))
    (mSeq (mAsg (mLc (iSeq (mCall f_paths_to (aCons (mVar 3) (aCons (mVar 1) (aCons (mTup (aCons (mC (.int 0)) aNil)) aNil))))) (gmName 7) (mAnd (mTest (mOp gGt (mCB gLen (aCons (mVar 7) aNil)) (mC (.int 1)))) (mTest (mCall f_is_paid (aCons (mVar 0) (aCons (mVar 7) aNil))))) (mVar 7) [7]) (gmName 6))
    (mRet (mSortL 7 (mTup (aCons (mCall f_rank_of_link (aCons (mVar 0) (aCons (mOp gIx (mVar 7) (mC (.int 0))) (aCons (mOp gIx (mVar 7) (mC (.int 1))) aNil)))) (aCons (mCB gLen (aCons (mVar 7) aNil)) (aCons (mVar 7) aNil)))) (mVar 6))))))))
def f_paid_paths : Fn := runF 2 8 b_paid_paths
def kD (C : List (Nat × Nat)) (p : List Nat) : D := .tup [.int (rk C (p.getD 0 0, p.getD 1 0) : Nat), .int (p.length : Nat), pathD p]
def third : D → D
  | .tup [_, _, x] => x
  | _ => .non
theorem nb_kD {C : List (Nat × Nat)} {p : List Nat} : nb 2 (kD C p) = true := nb_tup fun d hd => by
  simp only [List.mem_cons, List.not_mem_nil, or_false] at hd
  rcases hd with rfl | rfl | rfl
  · rfl
  · rfl
  · exact nb_nl
theorem alike_kD (C : List (Nat × Nat)) (p q : List Nat) : PySem.W.alike (toP (kD C p)) (toP (kD C q)) = true := by
  show PySem.W.alikeAll [.int _, .int _, .tuple (toPs (p.map fun i : Nat => D.int i))] [.int _, .int _, .tuple (toPs (q.map fun i : Nat => D.int i))] = true
  simp only [PySem.W.alikeAll, PySem.W.alike, Bool.true_and, Bool.and_true]
  exact alikeAll_nl p q
theorem keys_ok {C : List (Nat × Nat)} (Q : List (List Nat)) : plA 60 (Q.map (kD C)) = true ∧ alikeB (Q.map (kD C)) = true ∧ tupsB (Q.map (kD C)) = true := by
  refine ⟨nbA_plA (nbA_mono (by decide : 2 ≤ 60) (nbA_iff.mpr fun d hd => ?_)), ?_, ?_⟩
  · obtain ⟨p, _, rfl⟩ := List.mem_map.mp hd
    exact nb_kD
  · unfold alikeB
    rw [List.all_eq_true]
    intro d hd
    obtain ⟨a, _, rfl⟩ := List.mem_map.mp hd
    rw [Bool.and_eq_true]
    refine ⟨rfl, List.all_eq_true.mpr fun e he => ?_⟩
    obtain ⟨b, _, rfl⟩ := List.mem_map.mp he
    exact alike_kD C a b
  · unfold tupsB
    rw [List.all_eq_true]
    intro d hd
    obtain ⟨a, _, rfl⟩ := List.mem_map.mp hd
    rfl
def sortP (C : List (Nat × Nat)) (Q : List (List Nat)) : List (List Nat) := Q.mergeSort (PySem.W.dataLe false fun p => toP (kD C p))
theorem sort_rows {C : List (Nat × Nat)} (Q : List (List Nat)) : (Q.map (kD C)).mergeSort (PySem.W.dataLe false toP) = (sortP C Q).map (kD C) := (List.map_mergeSort (r := PySem.W.dataLe false fun p => toP (kD C p)) (s := PySem.W.dataLe false toP) (f := kD C) fun a _ b _ => rfl).symm
theorem sort_keyed {C : List (Nat × Nat)} (Q : List (List Nat)) : sortBy (Q.map pathD) (Q.map (kD C)) = (sortP C Q).map pathD := by
  unfold sortBy
  rw [← dataSort_isB, List.zip_map']
  have := (List.map_mergeSort (r := PySem.W.dataLe false fun p => toP (kD C p)) (s := PySem.W.dataLe false fun b : D × D => toP b.2) (f := fun p => (pathD p, kD C p)) (l := Q) fun a _ b _ => rfl).symm
  rw [this, List.map_map]
  rfl
theorem third_k {C : List (Nat × Nat)} (Q : List (List Nat)) : (Q.map (kD C)).map third = Q.map pathD := by
  rw [List.map_map]
  rfl
theorem sort_perm {C : List (Nat × Nat)} {Q R : List (List Nat)} (h : Q.Perm R) : (sortP C Q).map pathD = (sortP C R).map pathD := by
  have : (sortP C Q).map (kD C) = (sortP C R).map (kD C) := by
    rw [← sort_rows, ← sort_rows]
    refine sortD_perm (h.map (kD C)) (n := 2) (fun d hd => ?_) fun d hd e he => ?_
    · obtain ⟨p, _, rfl⟩ := List.mem_map.mp hd
      exact nb_kD
    · obtain ⟨a, _, rfl⟩ := List.mem_map.mp hd
      obtain ⟨b, _, rfl⟩ := List.mem_map.mp he
      exact alike_kD C a b
  rw [← third_k, this, third_k]
theorem keysOf_of {j : Nat} {fb : M S} {ρ : En} {α : Type} {e k : α → D} : ∀ {Q : List α}, (∀ p ∈ Q, Ev fb ((ρ.map dOnly).set j (some (.d (e p)))) (k p)) → keysOf (lamF j fb ρ) (Q.map e) = some (Q.map k)
  | [], _ => rfl
  | p :: Q, h => by
    have h1 := h p List.mem_cons_self
    unfold Ev at h1
    rw [ok_dv, ok_eq] at h1
    obtain ⟨s, ρ', e1, x, e2, e3, _⟩ := R.OKr.at h1
    show (match lamF j fb ρ [.d (e p)] with
      | .ok s _ => match toD s with
        | some k => (keysOf (lamF j fb ρ) (Q.map e)).map (k :: ·)
        | none => none
      | _ => none) = _
    have e4 : lamF j fb ρ [.d (e p)] = .ok s ρ' := e1
    rw [e4]
    dsimp only
    rw [e2]
    dsimp only
    rw [keysOf_of fun q hq => h q (List.mem_cons_of_mem _ hq), e3]
    rfl
theorem ev_sortL {j : Nat} {fb fe : M S} {ρ : En} {α : Type} {e k : α → D} {Q : List α} (he : Ev fe ρ (.lst (Q.map e))) (hb : ∀ p ∈ Q, Ev fb ((ρ.map dOnly).set j (some (.d (e p)))) (k p)) (ok : keysOkB (Q.map k) = true) : OK (mSortL j fb fe ρ) fun s ρ1 => s = .o none (.lst (sortBy (Q.map e) (Q.map k))) ∧ ρ1 = ρ := by
  unfold mSortL
  rw [ok_then]
  refine he.dv ?_
  dsimp only
  rw [keysOf_of hb]
  dsimp only
  rw [if_pos ok, ok_ok]
  exact ⟨rfl, rfl⟩
/-- the arcs of a trade -/
abbrev arcsT (n : Nat) (C P : List (Nat × Nat)) : List (Nat × Nat) := arcsL n (linked C P)
theorem arcsT_ok {n : Nat} {C P : List (Nat × Nat)} (o : OkTrade n C P) : OkArcs n (arcsT n C P) := arcsL_ok fun v => by
  unfold linked
  have h1 : (v, v) ∉ C := fun h => (o.rng _ (.inl h)).2.2 rfl
  have h2 : (v, v) ∉ P := fun h => (o.rng _ (.inr h)).2.2 rfl
  simp [h1, h2]
def paidB (C P : List (Nat × Nat)) (q : List Nat) : Bool := decide (1 < q.length) && (allL C P q && allG C q)
def paidL (n : Nat) (C P : List (Nat × Nat)) (v : Nat) : List (List Nat) := (tree (arcsT n C P) 0 (n - 1) [v]).filter (paidB C P)
theorem tree_good {n g : Nat} {as : List (Nat × Nat)} (o : OkArcs n as) {v : Nat} (hv : v < n) : ∀ q ∈ tree as g (n - 1) [v], Good n q := by
  intro q hq
  have gv : Good n [v] := ⟨by simp, by simp, fun i hi => by rw [List.mem_singleton.mp hi]; exact hv⟩
  obtain ⟨s, rfl, h⟩ := (mem_tree o (g := g) (q := q) (n - 1) rfl gv).mp hq
  have key : ∀ {s p : List Nat}, Good n p → isEx as g p s → Good n (p ++ s) := fun {s} => by
    induction s with
    | nil => intro p gp _; rw [List.append_nil]; exact gp
    | cons h t ih =>
      rintro p gp ⟨_, h2, h3, h4⟩
      have := ih (exts_good o gp (List.mem_map.mpr ⟨h, List.mem_filter.mpr ⟨mem_hd.mpr h2, by simpa using h3⟩, rfl⟩)).1 h4
      rw [List.append_assoc] at this
      exact this
  exact key gv h
theorem heads_eq {n : Nat} {C P : List (Nat × Nat)} : D.dct (intsFrom 0 n) ((List.range n).map fun v => D.lst (nl ((List.range n).filter (linked C P v)))) = headsD n (arcsT n C P) := by
  unfold headsD
  rw [intsFrom_map, List.map_map]
  congr 1
  refine List.map_congr_left fun v hv => ?_
  show _ = natsD (hd (arcsT n C P) (v : Int).toNat)
  rw [Int.toNat_natCast, hd_arcsL (List.mem_range.mp hv)]
  rfl
theorem paths_t {n v : Nat} {C P : List (Nat × Nat)} (o : OkTrade n C P) (n6 : n ≤ 6) (hv : v < n) : OKF (f_paths_to [.d (headsD n (arcsT n C P)), .d (.int (v : Nat)), .d (.tup [.int 0])]) fun s => s = .o none (.lst ((tree (arcsT n C P) 0 (n - 1) [v]).map pathD)) := by
  have h := paths_to (g := 0) (arcsT_ok o) n6 hv
  have gv : Good n [v] := ⟨by simp, by simp, fun i hi => by rw [List.mem_singleton.mp hi]; exact hv⟩
  rw [dfs_tree (arcsT_ok o) (n := n) (by show (wt (n - 1) + 0) ≤ _; omega) (fun p hp => by rw [List.mem_singleton.mp hp]; exact gv), List.nil_append, List.flatMap_cons, List.flatMap_nil, List.append_nil] at h
  exact h
theorem paid_paths {n v : Nat} {C P : List (Nat × Nat)} (o : OkTrade n C P) (n6 : n ≤ 6) (hv : v < n) (hC : C.length ≤ 1000) (hP : P.length ≤ 1000) : OKF (f_paid_paths [.d (tradeD n C P), .d (.int (v : Nat))]) fun s => s = .o none (.lst ((sortP C (paidL n C P v)).map pathD)) := by
  rw [okF]
  unfold f_paid_paths
  refine ok_runF rfl ?_
  show OK (b_paid_paths [some (.d (tradeD n C P)), some (.d (.int (v : Nat))), none, none, none, none, none, none]) _
  unfold b_paid_paths
  have fld : ∀ (x1 x2 x3 x4 x5 x6 x7 : Option S), Ev (mFldE "Trade" 0 (mVar 0)) [some (.d (tradeD n C P)), x1, x2, x3, x4, x5, x6, x7] (.int (n : Nat)) := fun _ _ _ _ _ _ _ => ev_of (ok_fld ((ev_var 0 rfl).dv ⟨_, _, rfl, rfl, rfl, rfl⟩))
  refine sq (dropE (ev_call (ea_cons (ev_var 0 rfl) ea_nil) check_trade) ⟨rfl, ?_⟩)
  refine sq (ifN (by
    have := eb_not (eb_test (evNum (v := (v : Nat)) (lo := 0) (hi := ((n - 1 : Nat) : Int)) (ρ := [some (.d (tradeD n C P)), some (.d (.int (v : Nat))), none, none, none, none, none, none]) (ea_cons (ev_var 1 rfl) (ea_cons ev_c (ea_cons (sub1 (fld _ _ _ _ _ _ _) (by omega)) ea_nil)))))
    rw [decide_eq_true (by omega : (0 : Int) ≤ (v : Nat)), decide_eq_true (by omega : ((v : Nat) : Int) ≤ ((n - 1 : Nat) : Int))] at this
    exact this) ⟨rfl, ?_⟩)
  refine sq (asg (x := .rng 0 (n : Nat)) (ev_cb (ea_cons (fld _ _ _ _ _ _ _) ea_nil) rfl) ⟨rfl, ?_⟩)
  simp only [List.set_cons_succ, List.set_cons_zero]
  have hd := dcN (n := n) (k := 5) (fI := iRngD (mVar 2)) (fv := mLc (iRngD (mVar 2)) (gmName 4) (mTest (mOp gNotN (mCall f_rank_of_link (aCons (mVar 0) (aCons (mVar 5) (aCons (mVar 4) aNil)))) (mC .non))) (mVar 4) [4]) (f := fun v => .lst (nl ((List.range n).filter (linked C P v)))) (ρ := [some (.d (tradeD n C P)), some (.d (.int (v : Nat))), some (.d (.rng 0 (n : Nat))), none, none, none, none, none]) (rngD (ev_var 2 rfl) (by omega)) (by omega) rfl (by show 5 < 8; decide) fun u hu =>
    filtI (L := List.range n) (t := linked C P u) ((rngD (ev_var 2 rfl) (by omega)).imp fun items ρ1 ⟨e1, e2⟩ => ⟨by rw [e1, ints_nl], e2⟩) (by show 4 < 8; decide) rfl (fun w hw => by
      have := eb_test (ev_notN (ev_call (ρ := [some (.d (tradeD n C P)), some (.d (.int (v : Nat))), some (.d (.rng 0 (n : Nat))), none, some (.d (.int (w : Nat))), some (.d (.int (u : Nat))), none, none]) (ea_cons (ev_var (x := tradeD n C P) 0 rfl) (ea_cons (ev_var 5 rfl) (ea_cons (ev_var 4 rfl) ea_nil))) (rank_is o hC hP)))
      have e : (!isN (rkD C P u w)) = linked C P u w := by
        unfold rkD
        cases linked C P u w <;> rfl
      rw [e] at this
      exact this) (by rw [List.length_range]; omega)
  rw [heads_eq] at hd
  refine sq (asg hd ⟨rfl, ?_⟩)
  simp only [List.set_cons_succ, List.set_cons_zero]
  have gd := tree_good (g := 0) (arcsT_ok o) hv
  have gl : ∀ q ∈ tree (arcsT n C P) 0 (n - 1) [v], 0 < q.length ∧ q.length ≤ n := fun q hq => ⟨List.length_pos_iff.mpr (gd q hq).ne, nodup_len (gd q hq).nd (gd q hq).lt⟩
  have tl : (tree (arcsT n C P) 0 (n - 1) [v]).length ≤ 326 := by
    have gv : Good n [v] := ⟨by simp, by simp, fun i hi => by rw [List.mem_singleton.mp hi]; exact hv⟩
    exact Nat.le_trans (tree_len (arcsT_ok o) gv (Nat.le_refl _)) (wt_small (by show n - 1 ≤ 5; omega))
  have hp := lcG (emb := pathD) (ls := tree (arcsT n C P) 0 (n - 1) [v]) (t := paidB C P) (f := pathD) (own := [7]) (gm := gmName 7) (fI := iSeq (mCall f_paths_to (aCons (mVar 3) (aCons (mVar 1) (aCons (mTup (aCons (mC (.int 0)) aNil)) aNil))))) (ft := mAnd (mTest (mOp gGt (mCB gLen (aCons (mVar 7) aNil)) (mC (.int 1)))) (mTest (mCall f_is_paid (aCons (mVar 0) (aCons (mVar 7) aNil))))) (fe := mVar 7)
    (ρ := [some (.d (tradeD n C P)), some (.d (.int (v : Nat))), some (.d (.rng 0 (n : Nat))), some (.d (headsD n (arcsT n C P))), none, none, none, none]) (E := fun q => [some (.d (tradeD n C P)), some (.d (.int (v : Nat))), some (.d (.rng 0 (n : Nat))), some (.d (headsD n (arcsT n C P))), none, none, none, some (.d (pathD q))])
    (ei_seq (evRet (ea_cons (ev_var 3 rfl) (ea_cons (ev_var 1 rfl) (ea_cons (ev_tup (ea_cons ev_c ea_nil)) ea_nil))) (Ret.o (paths_t o n6 hv) rfl)) rfl) rfl (fun q hq => eg_name) (fun q hq => by
      unfold paidB
      refine eb_and (eb_test ?_) fun _ => eb_test (ev_call (ea_cons (ev_var 0 rfl) (ea_cons (ev_var (x := .tup (nl q)) 7 rfl) ea_nil)) (is_paid hC hP (by omega) (gd q hq).nd (gd q hq).lt (gd q hq).ne (by have := (gl q hq).2; omega)))
      have := lenN (L := q) (ρ := [some (.d (tradeD n C P)), some (.d (.int (v : Nat))), some (.d (.rng 0 (n : Nat))), some (.d (headsD n (arcsT n C P))), none, none, none, some (.d (pathD q))]) (ev_var (x := .tup (nl q)) 7 rfl)
      refine ev_op this (ev_c (x := .int 1)) ?_
      show some (S.d (.bl (decide ((q.length : Int) > 1)))) = _
      rw [show decide ((q.length : Int) > 1) = decide (1 < q.length) from decide_eq_decide.mpr (by omega)]) (fun q hq _ => ev_var 7 rfl) (fun q hq => rfl) (by omega)
  refine sq (asg hp ⟨rfl, ?_⟩)
  simp only [List.set_cons_succ, List.set_cons_zero]
  rw [ok_ret]
  have hk : keysOkB ((paidL n C P v).map (kD C)) = true := by
    obtain ⟨k1, k2, k3⟩ := keys_ok (C := C) (paidL n C P v)
    unfold keysOkB
    rw [k1, k2, k3]
    rfl
  refine (ev_sortL (Q := paidL n C P v) (e := pathD) (k := kD C) (ev_var 6 rfl) (fun q hq => ?_) hk).imp fun s ρ1 ⟨e1, _⟩ => .inl ⟨s, rfl, ?_⟩
  · obtain ⟨hq, hb⟩ := List.mem_filter.mp hq
    unfold paidB at hb
    rw [Bool.and_eq_true, Bool.and_eq_true, decide_eq_true_iff] at hb
    obtain ⟨l2, hL, _⟩ := hb
    have g0 : q[0]? = some (q.getD 0 0) := getD_at (by omega)
    have g1 : q[1]? = some (q.getD 1 0) := getD_at (by omega)
    have lk := allL_iff.mp hL 0 (by omega)
    have er : rkD C P (q.getD 0 0) (q.getD 1 0) = .int (rk C (q.getD 0 0, q.getD 1 0) : Nat) := by
      unfold rkD
      rw [if_pos lk]
    show Ev _ [some (.d (tradeD n C P)), some (.d (.int (v : Nat))), some (.d (.rng 0 (n : Nat))), some (.d (headsD n (arcsT n C P))), none, none, some (.d (.lst ((paidL n C P v).map pathD))), some (.d (pathD q))] (kD C q)
    have e7 := ev_var (x := .tup (nl q)) (ρ := [some (.d (tradeD n C P)), some (.d (.int (v : Nat))), some (.d (.rng 0 (n : Nat))), some (.d (headsD n (arcsT n C P))), none, none, some (.d (.lst ((paidL n C P v).map pathD))), some (.d (pathD q))]) 7 rfl
    have c1 := ev_call (x := rkD C P (q.getD 0 0) (q.getD 1 0)) (ea_cons (ev_var (x := tradeD n C P) 0 rfl) (ea_cons (ixN (i := 0) e7 ev_c g0) (ea_cons (ixN (i := 1) e7 ev_c g1) ea_nil))) (rank_is o hC hP)
    rw [er] at c1
    exact ev_tup (ea_cons c1 (ea_cons (lenN e7) (ea_cons e7 ea_nil)))
  · rw [e1, sort_keyed]
end Fx.Td
/-! k47: all paths -/
namespace Fx.K47
open PySem Lib Nl Td
theorem e_trade : K47.f_law_trade = Lib.f_law_trade := rfl
theorem e_kinds : K47.f_law_kinds = Lib.f_law_kinds := rfl
theorem e_init : K47.f_Trade_init = Lib.f_Trade_init := rfl
theorem e_lpaid : K47.f_law_paid = Lib.f_law_paid := rfl
theorem e_paths : K47.f_paid_paths = Td.f_paid_paths := rfl
theorem e_alike : K47.f_law_alike 6 = Lib.f_law_alike 6 := rfl
def allN (n : Nat) : List (Nat × Nat) := arcsL n fun a b => !decide (a = b)
def allT (v n : Nat) : List (List Nat) := tree (allN n) 0 (n - 1) [v]
def envOf : Out Fx.S → En
  | .ok _ ρ => ρ
  | _ => []
theorem all_t {v n : Nat} (h1 : 1 ≤ v) (h2 : v < n) (h3 : n ≤ 6) : OKF (K47.f_law_all_paths [.d (.int (v : Nat)), .d (.int (n : Nat))]) fun s => s = .o none (.lst ((allT v n).map pathD)) := by
  have hc : (n = 2 ∧ v = 1) ∨ (n = 3 ∧ v = 1) ∨ (n = 3 ∧ v = 2) ∨ (n = 4 ∧ v = 1) ∨ (n = 4 ∧ v = 2) ∨ (n = 4 ∧ v = 3) ∨ (n = 5 ∧ v = 1) ∨ (n = 5 ∧ v = 2) ∨ (n = 5 ∧ v = 3) ∨ (n = 5 ∧ v = 4) ∨ (n = 6 ∧ v = 1) ∨ (n = 6 ∧ v = 2) ∨ (n = 6 ∧ v = 3) ∨ (n = 6 ∧ v = 4) ∨ (n = 6 ∧ v = 5) := by omega
  have key : ∀ v n : Nat, K47.f_law_all_paths [.d (.int (v : Nat)), .d (.int (n : Nat))] = .ok (.o none (.lst ((allT v n).map pathD))) (envOf (K47.f_law_all_paths [.d (.int (v : Nat)), .d (.int (n : Nat))])) → OKF (K47.f_law_all_paths [.d (.int (v : Nat)), .d (.int (n : Nat))]) fun s => s = .o none (.lst ((allT v n).map pathD)) := fun v n e => okF_of e rfl
  rcases hc with ⟨rfl, rfl⟩ | ⟨rfl, rfl⟩ | ⟨rfl, rfl⟩ | ⟨rfl, rfl⟩ | ⟨rfl, rfl⟩ | ⟨rfl, rfl⟩ | ⟨rfl, rfl⟩ | ⟨rfl, rfl⟩ | ⟨rfl, rfl⟩ | ⟨rfl, rfl⟩ | ⟨rfl, rfl⟩ | ⟨rfl, rfl⟩ | ⟨rfl, rfl⟩ | ⟨rfl, rfl⟩ | ⟨rfl, rfl⟩ <;> exact key _ _ (by kernel_rfl)
theorem allN_ok {n : Nat} : OkArcs n (allN n) := arcsL_ok fun v => by simp
theorem same_paths {n v : Nat} {C P : List (Nat × Nat)} (o : OkTrade n C P) (hv : v < n) : (paidL n C P v).Perm ((allT v n).filter (paidB C P)) := by
  refine tree_perm (arcsT_ok o) allN_ok (fun p hp => ?_) hv fun q hq ht i hi => ?_
  · obtain ⟨h1, h2, h3⟩ := mem_arcsL.mp hp
    have := ((arcsT_ok o).rng _ hp).2.2
    exact mem_arcsL.mpr ⟨h1, h2, by simpa using this⟩
  · unfold paidB at ht
    rw [Bool.and_eq_true, Bool.and_eq_true] at ht
    have e0 : q[i]? = some (q.getD i 0) := getD_at (by omega)
    have e1 : q[i + 1]? = some (q.getD (i + 1) 0) := getD_at hi
    exact mem_arcsL.mpr ⟨hq _ (List.mem_of_getElem? e0), hq _ (List.mem_of_getElem? e1), allL_iff.mp ht.2.1 i hi⟩
theorem all_two {n v : Nat} (h1 : 1 ≤ v) (hv : v < n) : ∀ q ∈ allT v n, Good n q ∧ 2 ≤ q.length := by
  intro q hq
  have g := tree_good (g := 0) allN_ok hv q hq
  refine ⟨g, ?_⟩
  have gv : Good n [v] := ⟨by simp, by simp, fun i hi => by rw [List.mem_singleton.mp hi]; exact hv⟩
  obtain ⟨s, rfl, h⟩ := (mem_tree allN_ok (g := 0) (q := q) (n - 1) rfl gv).mp hq
  cases s with
  | nil =>
    have h : lst [v] = 0 := h
    have : v = 0 := h
    omega
  | cons a t => simp
theorem row_path {ρ : En} {i : Nat} {C : List (Nat × Nat)} {q : List Nat} (e : Ev (mVar i) ρ (kD C q)) : Ev (mOp gIx (mVar i) (mC (.int 2))) ρ (pathD q) := ev_ixT (i := 2) e ev_c rfl
theorem sortL_ev {ρ : En} {fa : Fx.M Fx.S} {C : List (Nat × Nat)} {Q : List (List Nat)} (h : Ev fa ρ (.lst (Q.map (kD C)))) : Ev (mCB gSortD (aCons fa aNil)) ρ (.lst ((sortP C Q).map (kD C))) := cbZ (ea_cons h ea_nil) (by
  show (if (plA 60 (Q.map (kD C)) && alikeB (Q.map (kD C)) && tupsB (Q.map (kD C))) = true then some (S.o none (.lst ((Q.map (kD C)).mergeSort (PySem.W.dataLe false toP)))) else none) = _
  obtain ⟨k1, k2, k3⟩ := keys_ok (C := C) Q
  rw [k1, k2, k3, ← sort_rows]
  rfl) rfl
end Fx.K47
/-! k47: the law on data -/
namespace Fx.K47
open PySem Lib Nl Td
theorem cntT {n v : Nat} (n2 : n ≤ 6) (hv : v < n) {as : List (Nat × Nat)} (o : OkArcs n as) : (tree as 0 (n - 1) [v]).length ≤ 326 := by
  have gv : Good n [v] := ⟨by simp, by simp, fun i hi => by rw [List.mem_singleton.mp hi]; exact hv⟩
  exact Nat.le_trans (tree_len (n := n) (g := 0) o gv (Nat.le_refl _)) (wt_small (by show n - 1 ≤ 5; omega))
section
variable {n : Nat} {C P : List (Nat × Nat)}
theorem law_pure (ns : List Int) (hns : ns.length ≤ 63) : ∃ ρ, f_law [.d (.scr ns)] = .ok (.d (.bl true)) ρ := by
  have key : OK (f_law [.d (.scr ns)]) fun s _ => s = .d (.bl true) := by
    unfold f_law
    refine ok_runF rfl ?_
    show OK (b_law [some (.d (.scr ns)), none, none, none, none, none, none, none, none, none]) _
    unfold b_law
    rw [e_trade, e_kinds, e_init, e_lpaid, e_paths, e_alike]
    refine sq (asgL (ea_cons (ev_var 0 rfl) (ea_cons ev_c (ea_cons ev_c (ea_cons ev_c ea_nil)))) rfl ⟨rfl, ?_⟩)
    simp only [List.set_cons_succ, List.set_cons_zero]
    refine sq (forR (n := 2) (I := fun k ρ => ∃ (a b c : Int) (x2 x3 x4 x5 x6 x7 x8 : Option Fx.S), RowOk a b c ∧ ρ = [some (.d (.scr ns)), rowS none ns a b c, x2, x3, x4, x5, x6, x7, x8, none]) (ea_cons ev_c ea_nil) (by decide) ⟨0, 3547, 0, _, _, _, _, _, _, _, by unfold RowOk; decide, rfl⟩ ?_ ?_)
    rotate_left
    · intro ρ _
      refine ⟨rfl, ?_⟩
      rw [ok_ret, ok_c]
      exact .inl ⟨_, rfl, rfl⟩
    rintro k _ hk ⟨a, b, c, x2, x3, x4, x5, x6, x7, x8, h, rfl⟩
    simp only [List.set_cons_succ, List.set_cons_zero]
    refine sq ?_
    rw [ok_asg, ok_dv]
    refine ok_rowF (r := 1) (o := none) (ns := ns) (a := a) (b := b) (c := c) (ds := [.int (6 : Nat)]) (Pv := fun s => ∃ (n : Nat) (C P : List (Nat × Nat)), s = .d (.tup [.int (n : Nat), .tup (C.map arcD), .tup (P.map arcD)]) ∧ 2 ≤ n ∧ n ≤ 6 ∧ OkTrade n C P ∧ C.length + P.length ≤ n * n) rfl ((ea_cons ev_c ea_nil).ok ⟨rfl, rfl⟩) ((law_trade (most := 6) h (by decide) (by decide)).imp ?_) ?_
    · rintro s ρ' ⟨n, C, P, a, b, c, rfl, n1, n2, o, hl, h, ρ2, rfl⟩
      exact ⟨⟨n, C, P, rfl, n1, n2, o, hl⟩, rfl, a, b, c, h, ρ2, rfl⟩
    rintro _ a b c ⟨n, C, P, rfl, n1, n2, o, hl⟩ h
    have sz : n * n ≤ 6 * 6 := Nat.mul_le_mul n2 n2
    refine ⟨_, rfl, ?_⟩
    rw [ok_gname]
    refine ⟨rfl, ?_⟩
    simp only [List.set_cons_succ, List.set_cons_zero]
    -- the trade, kinds
    have mk : ∀ x4 x5 x6 x7 x8 x9 : Option Fx.S, Ev (mMake "Trade" 3 Lib.f_Trade_init (aCons (mOp gIx (mVar 3) (mC (.int 0))) (aCons (mOp gIx (mVar 3) (mC (.int 1))) (aCons (mOp gIx (mVar 3) (mC (.int 2))) aNil)))) [some (.d (.scr ns)), rowS none ns a b c, some (.d (.int (k : Nat))), some (.d (.tup [.int (n : Nat), .tup (C.map arcD), .tup (P.map arcD)])), x4, x5, x6, x7, x8, x9] (tradeD n C P) := fun x4 x5 x6 x7 x8 x9 => by
      unfold Ev
      rw [ok_dv]
      refine ok_make ?_
      refine (ea_cons (ev_ixT (i := 0) (ev_var 3 rfl) ev_c rfl) (ea_cons (ev_ixT (i := 1) (ev_var 3 rfl) ev_c rfl) (ea_cons (ev_ixT (i := 2) (ev_var 3 rfl) ev_c rfl) ea_nil))).ok ?_
      exact (madeT o (by omega) (by omega) (by omega) (by omega)).imp fun s ρ' ⟨e1, e2⟩ => ⟨e1, _, e2, rfl, _, rfl, rfl, rfl⟩
    refine sq (ok_par2 ?_)
    rw [ok_psCons]
    refine (mk _ _ _ _ _ _).raw.imp fun s ρ1 ⟨es, e2⟩ => ?_
    rw [e2, ok_psCons, ok_call]
    refine (ea_cons (ev_var 3 rfl) ea_nil).ok ((law_kinds (by omega) (by omega)).imp fun s' e => ?_)
    subst e
    refine ⟨rfl, ?_⟩
    rw [ok_psNil]
    refine ⟨_, _, .d (tradeD n C P), .d (adD (kindsA C P)), rfl, ?_, rfl, rfl, ?_⟩
    · unfold stS
      rw [es]
      rfl
    simp only [List.set_cons_succ, List.set_cons_zero]
    have pp : ∀ {v : Nat} {ρ : En} {fv : Fx.M Fx.S}, v < n → Ev (mVar 4) ρ (tradeD n C P) → Ev fv ρ (.int (v : Nat)) → Ev (mCall Td.f_paid_paths (aCons (mVar 4) (aCons fv aNil))) ρ (.lst ((sortP C (paidL n C P v)).map pathD)) := fun hv h4 h6 => evRet (ea_cons h4 (ea_cons h6 ea_nil)) (Ret.o (Td.paid_paths o n2 hv (by omega) (by omega)) rfl)
    refine sq (ifN (eb_test ?_) ⟨rfl, ?_⟩)
    · have p0 := pp (v := 0) (fv := mC (.int 0)) (ρ := [some (.d (.scr ns)), rowS none ns a b c, some (.d (.int (k : Nat))), some (.d (.tup [.int (n : Nat), .tup (C.map arcD), .tup (P.map arcD)])), some (.d (tradeD n C P)), some (.d (adD (kindsA C P))), x6, x7, x8, none]) (by omega) (ev_var 4 rfl) ev_c
      have e0 : (sortP C (paidL n C P 0)).map pathD = [] := by
        unfold paidL
        rw [tree_goal (show lst [0] = 0 from rfl)]
        have : ([[0]] : List (List Nat)).filter (paidB C P) = [] := rfl
        rw [this]
        unfold sortP
        rw [List.mergeSort_nil]
        rfl
      rw [e0] at p0
      exact ev_op p0 (ev_lst ea_nil) (by kernel_rfl)
    refine forR2 (lo := 1) (hi := n) (I := fun v ρ => ∃ (x6 x7 x8 : Option Fx.S), ρ = [some (.d (.scr ns)), rowS none ns a b c, some (.d (.int (k : Nat))), some (.d (.tup [.int (n : Nat), .tup (C.map arcD), .tup (P.map arcD)])), some (.d (tradeD n C P)), some (.d (adD (kindsA C P))), x6, x7, x8, none]) (ea_cons ev_c (ea_cons (ev_ixT (i := 0) (ev_var 3 rfl) ev_c rfl) ea_nil)) (by omega) (by omega) ⟨_, _, _, rfl⟩ ?_ ?_
    rotate_left
    · rintro _ ⟨x6, x7, x8, rfl⟩
      exact fin ⟨a, b, c, _, _, _, _, _, _, _, h, rfl⟩
    rintro v _ h1 hv ⟨x6, x7, x8, rfl⟩
    simp only [List.set_cons_succ, List.set_cons_zero]
    refine sqI (asgL ea_nil rfl (.inl ⟨rfl, ?_⟩))
    simp only [List.set_cons_succ, List.set_cons_zero]
    have two := all_two h1 hv
    refine sqI (forG (emb := pathD) (ls := allT v n) (I := fun j ρ => ∃ x8, ρ = [some (.d (.scr ns)), rowS none ns a b c, some (.d (.int (k : Nat))), some (.d (.tup [.int (n : Nat), .tup (C.map arcD), .tup (P.map arcD)])), some (.d (tradeD n C P)), some (.d (adD (kindsA C P))), some (.d (.int (v : Nat))), some (.o none (.lst ((((allT v n).take j).filter (paidB C P)).map (kD C)))), x8, none])
      (ei_seq (evRet (ea_cons (ev_var 6 rfl) (ea_cons (ev_ixT (i := 0) (ev_var 3 rfl) ev_c rfl) ea_nil)) (Ret.o (all_t h1 hv n2) rfl)) rfl) ⟨_, rfl⟩ ?_ ?_)
    · rintro j q _ hj ⟨x8, rfl⟩
      refine ⟨_, eg_name, ?_⟩
      simp only [List.set_cons_succ, List.set_cons_zero]
      have hq := List.mem_of_getElem? hj
      obtain ⟨gq, l2⟩ := two q hq
      have ln := nodup_len gq.nd gq.lt
      have jl : j < (allT v n).length := (List.getElem?_eq_some_iff.mp hj).1
      have cnt : (allT v n).length ≤ 326 := cntT n2 hv allN_ok
      have fl : (((allT v n).take j).filter (paidB C P)).length ≤ 326 := Nat.le_trans (List.length_filter_le _ _) (by rw [List.length_take]; omega)
      have st : ((allT v n).take (j + 1)).filter (paidB C P) = ((allT v n).take j).filter (paidB C P) ++ (if paidB C P q then [q] else []) := by
        rw [List.take_add_one, hj, List.filter_append]
        congr 1
        show List.filter (paidB C P) [q] = _
        rw [List.filter_cons, List.filter_nil]
      have lp : paidB C P q = (allL C P q && allG C q) := by
        unfold paidB
        rw [decide_eq_true (by omega : 1 < q.length), Bool.true_and]
      have ev8 := ev_var (x := .tup (nl q)) (ρ := [some (.d (.scr ns)), rowS none ns a b c, some (.d (.int (k : Nat))), some (.d (.tup [.int (n : Nat), .tup (C.map arcD), .tup (P.map arcD)])), some (.d (tradeD n C P)), some (.d (adD (kindsA C P))), some (.d (.int (v : Nat))), some (.o none (.lst ((((allT v n).take j).filter (paidB C P)).map (kD C)))), some (.d (pathD q)), none]) 8 rfl
      have cp := ev_call (x := .bl (allL C P q && allG C q)) (ea_cons (ev_var (x := adD (kindsA C P)) 5 rfl) (ea_cons ev8 ea_nil)) (Td.law_paid o (by omega) (by omega))
      refine ifB (eb_truth cp rfl) (fun hb => ?_) fun hb => ?_
      · have lk := allL_iff.mp (Bool.and_eq_true_iff.mp hb).1 0 (by omega)
        have h2 := headN (i := 2) ev8 (ev_c (x := .int 2))
        have e2 : q.take 2 = [q.getD 0 0, q.getD 1 0] := by
          match q, l2 with
          | a :: b :: t, _ => rfl
        rw [e2] at h2
        refine appE rfl (ev_tup (ea_cons (ev_rk (dget (p := (q.getD 0 0, q.getD 1 0)) (ev_var 5 rfl) h2 (get_kd o lk))) (ea_cons (lenN ev8) (ea_cons ev8 ea_nil)))) (by rw [List.length_map]; omega) (fin ⟨some (.d (pathD q)), ?_⟩)
        rw [st, lp, hb, if_pos rfl, List.map_append]
        rfl
      · rw [ok_nx]
        refine fin ⟨some (.d (pathD q)), ?_⟩
        rw [st, lp, hb, if_neg (by simp), List.append_nil]
    rintro _ ⟨x8, rfl⟩
    refine .inl ⟨rfl, ?_⟩
    rw [List.take_length]
    have fz : ∀ (gm : D → Fx.M Unit) (ft : Fx.M Bool) (fe : Fx.M Fx.S) (own : List Nat) (X : List D), mLc (iSeq (mCB gSortD (aCons (mVar 7) aNil))) gm ft fe own [some (.d (.scr ns)), rowS none ns a b c, some (.d (.int (k : Nat))), some (.d (.tup [.int (n : Nat), .tup (C.map arcD), .tup (P.map arcD)])), some (.d (tradeD n C P)), some (.d (adD (kindsA C P))), some (.d (.int (v : Nat))), some (.o none (.lst X)), x8, none] = mLc (iSeq (mCB gSortD (aCons (mVar 7) aNil))) gm ft fe own [some (.d (.scr ns)), rowS none ns a b c, some (.d (.int (k : Nat))), some (.d (.tup [.int (n : Nat), .tup (C.map arcD), .tup (P.map arcD)])), some (.d (tradeD n C P)), some (.d (adD (kindsA C P))), some (.d (.int (v : Nat))), some (.d (.lst X)), x8, none] := fun gm ft fe own X => rfl
    rw [ok_ifS, ok_not, ok_test, ok_dv, ok_call, ok_cons]
    refine (pp hv (ev_var 4 rfl) (ev_var 6 rfl)).dv ?_
    rw [ok_cons, ok_dv, fz]
    have lc := lcG (emb := kD C) (ls := sortP C ((allT v n).filter (paidB C P))) (t := fun _ => true) (f := pathD) (own := [9]) (gm := gmName 9) (fI := iSeq (mCB gSortD (aCons (mVar 7) aNil))) (ft := mYes) (fe := mOp gIx (mVar 9) (mC (.int 2))) (ρ := [some (.d (.scr ns)), rowS none ns a b c, some (.d (.int (k : Nat))), some (.d (.tup [.int (n : Nat), .tup (C.map arcD), .tup (P.map arcD)])), some (.d (tradeD n C P)), some (.d (adD (kindsA C P))), some (.d (.int (v : Nat))), some (.d (.lst (((allT v n).filter (paidB C P)).map (kD C)))), x8, none])
      (E := fun q => [some (.d (.scr ns)), rowS none ns a b c, some (.d (.int (k : Nat))), some (.d (.tup [.int (n : Nat), .tup (C.map arcD), .tup (P.map arcD)])), some (.d (tradeD n C P)), some (.d (adD (kindsA C P))), some (.d (.int (v : Nat))), some (.d (.lst (((allT v n).filter (paidB C P)).map (kD C)))), x8, some (.d (kD C q))])
      (ei_seq (sortL_ev (ev_var 7 rfl)) rfl) rfl (fun q _ => eg_name) (fun q _ => by unfold EvB; rw [ok_yes]; exact ⟨rfl, rfl⟩) (fun q _ _ => row_path (ev_var 9 rfl)) (fun q _ => rfl) (by
        unfold sortP
        rw [List.length_mergeSort]
        refine Nat.le_trans (List.length_filter_le _ _) ?_
        exact Nat.le_trans (cntT n2 hv allN_ok) (by decide))
    rw [List.filter_eq_self.mpr (fun _ _ => rfl), ← sort_perm (same_paths o hv)] at lc
    refine lc.raw.imp fun s ρ1 ⟨es, e2⟩ => ⟨_, es, ?_⟩
    rw [e2, ok_nil]
    refine (alike_self 5 (.lst ((sortP C (paidL n C P v)).map pathD)) (fit_lst ?_ fun d hd => ?_) (K := fun s => s = .d (.bl true)) rfl).imp fun s e => ?_
    · rw [List.length_map]
      unfold sortP paidL
      rw [List.length_mergeSort]
      refine Nat.le_trans (List.length_filter_le _ _) ?_
      exact Nat.le_trans (cntT n2 hv (arcsT_ok o)) (by decide)
    · obtain ⟨q, hq, rfl⟩ := List.mem_map.mp hd
      have hq2 := List.mem_mergeSort.mp hq
      have gq := tree_good (g := 0) (arcsT_ok o) hv q (List.mem_filter.mp hq2).1
      have := nodup_len gq.nd gq.lt
      refine fit_tup (by rw [List.length_map]; omega) fun x hx => ?_
      obtain ⟨i, _, rfl⟩ := List.mem_map.mp hx
      exact fit_int
    subst e
    refine ⟨rfl, _, rfl, true, rfl, fun z => (nomatch z), fun _ => ?_⟩
    rw [ok_nx]
    exact fin ⟨_, _, _, rfl⟩
  rw [ok_eq] at key
  obtain ⟨s, ρ, e, rfl⟩ := R.OKr.at key
  exact ⟨ρ, e⟩
end
end Fx.K47
/-! the end of routeweb_k47_whole_paid_paths -/
namespace Fx.K47
open PySem PySem.Spec PyProof.Rows L2
open C8 (Cal Mak pe_c pe_mk)
open LamX (Tabs TabS TabB ExtN CodeO codeO_ne)
/-- what is known of the text -/
def clsF (C0 : Addr) : String → Addr := fun n => if n = "Trade" then C0 else 0
def cfg (w : World) (K : PySem.W.Frag) (C0 : Addr) (T : List (Addr × Str)) : Cfg := ⟨K, (clsF C0), fun n => if n = "Trade" then ["size", "customers", "peers"] else [], T, fun _ _ _ _ => False, fun k => match k with
  | _ => lamQ "" noE, w, none⟩
section
theorem all_mk {l : PySem.W.OpenLaw} {w : World} {K : PySem.W.Frag} {h : Heap} {mg : Str → Option Value} {fa : Addr} (X : K.In h) (G : h.Ns mainGlobals mg) (hfa : mg "law" = some (.ref fa))
    {C0 : Addr} {f0 : Addr} {od0 an0 : Option Addr} {sl0 : Array (Option Value)} {oc0 kV0 dc0 pm0 cd0 ct0 : Value} {tk0 : Tok} {tk1 : Tok} {f1 : Addr} {od1 an1 : Option Addr} {sl1 : Array (Option Value)} {oc1 kV1 dc1 pm1 cd1 ct1 : Value} {f2 : Addr} {od2 an2 : Option Addr} {sl2 : Array (Option Value)} {oc2 kV2 dc2 pm2 cd2 ct2 : Value} {f3 : Addr} {od3 an3 : Option Addr} {sl3 : Array (Option Value)} {oc3 kV3 dc3 pm3 cd3 ct3 : Value} {f4 : Addr} {od4 an4 : Option Addr} {sl4 : Array (Option Value)} {oc4 kV4 dc4 pm4 cd4 ct4 : Value} {f5 : Addr} {od5 an5 : Option Addr} {sl5 : Array (Option Value)} {oc5 kV5 dc5 pm5 cd5 ct5 : Value} {f6 : Addr} {od6 an6 : Option Addr} {sl6 : Array (Option Value)} {oc6 kV6 dc6 pm6 cd6 ct6 : Value} {f7 : Addr} {od7 an7 : Option Addr} {sl7 : Array (Option Value)} {oc7 kV7 dc7 pm7 cd7 ct7 : Value} {f8 : Addr} {od8 an8 : Option Addr} {sl8 : Array (Option Value)} {oc8 kV8 dc8 pm8 cd8 ct8 : Value} {f9 : Addr} {od9 an9 : Option Addr} {sl9 : Array (Option Value)} {oc9 kV9 dc9 pm9 cd9 ct9 : Value} {f10 : Addr} {od10 an10 : Option Addr} {sl10 : Array (Option Value)} {oc10 kV10 dc10 pm10 cd10 ct10 : Value} {f11 : Addr} {od11 an11 : Option Addr} {sl11 : Array (Option Value)} {oc11 kV11 dc11 pm11 cd11 ct11 : Value} {f12 cc12 tb12 : Addr} {od12 an12 cod12 : Option Addr} {sl12 csl12 : Array (Option Value)} {oc12 kV12 dc12 pm12 ct12 : Value} {cvs12 : Array Value} {f13 : Addr} {od13 an13 : Option Addr} {sl13 : Array (Option Value)} {oc13 kV13 dc13 pm13 cd13 ct13 : Value} {f14 : Addr} {od14 an14 : Option Addr} {sl14 : Array (Option Value)} {oc14 kV14 dc14 pm14 cd14 ct14 : Value} {f15 : Addr} {od15 an15 : Option Addr} {sl15 : Array (Option Value)} {oc15 kV15 dc15 pm15 cd15 ct15 : Value} {f16 : Addr} {od16 an16 : Option Addr} {sl16 : Array (Option Value)} {oc16 kV16 dc16 pm16 cd16 ct16 : Value} {f17 : Addr} {od17 an17 : Option Addr} {sl17 : Array (Option Value)} {oc17 kV17 dc17 pm17 cd17 ct17 : Value} {f18 : Addr} {od18 an18 : Option Addr} {sl18 : Array (Option Value)} {oc18 kV18 dc18 pm18 cd18 ct18 : Value} {f19 : Addr} {od19 an19 : Option Addr} {sl19 : Array (Option Value)} {oc19 kV19 dc19 pm19 cd19 ct19 : Value}
    (aC0 : PySem.W.nsIn K mainGlobals "Trade" = some (some (.ref C0)))
    (pg0C : PySem.W.plainGet K C0 Str.empty = true)
    (hd0C : PySem.W.hasDictIn K C0 = true)
    (po0C : PySem.W.plainOver K C0 = true)
    (sa0C : PySem.W.findIn K (.ref C0) "__setattr__" = some (some (.builtin "object.__setattr__")))
    (mk0C : PySem.W.makesIn K C0 = true)
    (kc0C : PySem.W.keepIn K (.ref C0) = true)
    (xa0C : PySem.W.findIn K (.ref C0) "__class__" = some (some (.builtin "object.__class__")))
    (xb0C : PySem.W.specialIn K (.builtin "object.__class__") "__get__" = some (some (.builtin "getset_descriptor.__get__")))
    (xc0C : PySem.W.takesIn K (.builtin "object.__class__") = some true)
    (xd0C : PySem.W.mroIn K C0 (.type "object") = some true)
    (n0_0 : PySem.W.findIn K (.ref C0) "size" = some none)
    (n0_1 : PySem.W.findIn K (.ref C0) "customers" = some none)
    (n0_2 : PySem.W.findIn K (.ref C0) "peers" = some none)
    (a0 : PySem.W.findIn K (.ref C0) "__init__" = some (some (.ref f0)))
    (i0 : PySem.W.isFn K (.ref f0) = true)
    (l0 : K.lookup f0 = some ⟨oc0, od0, .func (PySem.W.fnOf "__init__" "Trade.__init__" (defArgs s_Trade_init) (defBody s_Trade_init) (defScope s_Trade_init) .none kV0 dc0 pm0 an0 cd0 ct0), sl0⟩)
    (c0 : PySem.W.codeIn K cd0 "Trade.__init__" = true)
    (k0 : PySem.W.keepIn K (.ref f0) = true)
    (m0 : PySem.W.nsIn K mainGlobals "MOST_NODES" = some (some (Value.int 8 tk0)))
    (m1 : PySem.W.nsIn K mainGlobals "MOST_PAIRS" = some (some (Value.int 56 tk1)))
    (z_all : PySem.W.nsIn K mainGlobals "all" = some none)
    (z_any : PySem.W.nsIn K mainGlobals "any" = some none)
    (z_bool : PySem.W.nsIn K mainGlobals "bool" = some none)
    (z_enumerate : PySem.W.nsIn K mainGlobals "enumerate" = some none)
    (z_int : PySem.W.nsIn K mainGlobals "int" = some none)
    (z_isinstance : PySem.W.nsIn K mainGlobals "isinstance" = some none)
    (z_len : PySem.W.nsIn K mainGlobals "len" = some none)
    (z_list : PySem.W.nsIn K mainGlobals "list" = some none)
    (z_range : PySem.W.nsIn K mainGlobals "range" = some none)
    (z_reversed : PySem.W.nsIn K mainGlobals "reversed" = some none)
    (z_set : PySem.W.nsIn K mainGlobals "set" = some none)
    (z_sorted : PySem.W.nsIn K mainGlobals "sorted" = some none)
    (z_str : PySem.W.nsIn K mainGlobals "str" = some none)
    (z_tuple : PySem.W.nsIn K mainGlobals "tuple" = some none)
    (z_zip : PySem.W.nsIn K mainGlobals "zip" = some none)
    (a1 : PySem.W.nsIn K mainGlobals "is_number" = some (some (.ref f1)))
    (l1 : K.lookup f1 = some ⟨oc1, od1, .func (PySem.W.fnOf "is_number" "is_number" (defArgs s_is_number) (defBody s_is_number) (defScope s_is_number) .none kV1 dc1 pm1 an1 cd1 ct1), sl1⟩)
    (c1 : PySem.W.codeIn K cd1 "is_number" = true)
    (k1 : PySem.W.keepIn K (.ref f1) = true)
    (a2 : PySem.W.nsIn K mainGlobals "is_tuple" = some (some (.ref f2)))
    (l2 : K.lookup f2 = some ⟨oc2, od2, .func (PySem.W.fnOf "is_tuple" "is_tuple" (defArgs s_is_tuple) (defBody s_is_tuple) (defScope s_is_tuple) .none kV2 dc2 pm2 an2 cd2 ct2), sl2⟩)
    (c2 : PySem.W.codeIn K cd2 "is_tuple" = true)
    (k2 : PySem.W.keepIn K (.ref f2) = true)
    (a3 : PySem.W.nsIn K mainGlobals "are_numbers" = some (some (.ref f3)))
    (l3 : K.lookup f3 = some ⟨oc3, od3, .func (PySem.W.fnOf "are_numbers" "are_numbers" (defArgs s_are_numbers) (defBody s_are_numbers) (defScope s_are_numbers) .none kV3 dc3 pm3 an3 cd3 ct3), sl3⟩)
    (c3 : PySem.W.codeIn K cd3 "are_numbers" = true)
    (k3 : PySem.W.keepIn K (.ref f3) = true)
    (a4 : PySem.W.nsIn K mainGlobals "are_unlike" = some (some (.ref f4)))
    (l4 : K.lookup f4 = some ⟨oc4, od4, .func (PySem.W.fnOf "are_unlike" "are_unlike" (defArgs s_are_unlike) (defBody s_are_unlike) (defScope s_are_unlike) .none kV4 dc4 pm4 an4 cd4 ct4), sl4⟩)
    (c4 : PySem.W.codeIn K cd4 "are_unlike" = true)
    (k4 : PySem.W.keepIn K (.ref f4) = true)
    (a5 : PySem.W.nsIn K mainGlobals "paths_to" = some (some (.ref f5)))
    (l5 : K.lookup f5 = some ⟨oc5, od5, .func (PySem.W.fnOf "paths_to" "paths_to" (defArgs s_paths_to) (defBody s_paths_to) (defScope s_paths_to) .none kV5 dc5 pm5 an5 cd5 ct5), sl5⟩)
    (c5 : PySem.W.codeIn K cd5 "paths_to" = true)
    (k5 : PySem.W.keepIn K (.ref f5) = true)
    (a6 : PySem.W.nsIn K mainGlobals "_is_pair" = some (some (.ref f6)))
    (l6 : K.lookup f6 = some ⟨oc6, od6, .func (PySem.W.fnOf "_is_pair" "_is_pair" (defArgs s_is_pair) (defBody s_is_pair) (defScope s_is_pair) .none kV6 dc6 pm6 an6 cd6 ct6), sl6⟩)
    (c6 : PySem.W.codeIn K cd6 "_is_pair" = true)
    (k6 : PySem.W.keepIn K (.ref f6) = true)
    (a7 : PySem.W.nsIn K mainGlobals "check_trade" = some (some (.ref f7)))
    (l7 : K.lookup f7 = some ⟨oc7, od7, .func (PySem.W.fnOf "check_trade" "check_trade" (defArgs s_check_trade) (defBody s_check_trade) (defScope s_check_trade) .none kV7 dc7 pm7 an7 cd7 ct7), sl7⟩)
    (c7 : PySem.W.codeIn K cd7 "check_trade" = true)
    (k7 : PySem.W.keepIn K (.ref f7) = true)
    (a8 : PySem.W.nsIn K mainGlobals "_is_provider" = some (some (.ref f8)))
    (l8 : K.lookup f8 = some ⟨oc8, od8, .func (PySem.W.fnOf "_is_provider" "_is_provider" (defArgs s_is_provider) (defBody s_is_provider) (defScope s_is_provider) .none kV8 dc8 pm8 an8 cd8 ct8), sl8⟩)
    (c8 : PySem.W.codeIn K cd8 "_is_provider" = true)
    (k8 : PySem.W.keepIn K (.ref f8) = true)
    (a9 : PySem.W.nsIn K mainGlobals "_rank_of_link" = some (some (.ref f9)))
    (l9 : K.lookup f9 = some ⟨oc9, od9, .func (PySem.W.fnOf "_rank_of_link" "_rank_of_link" (defArgs s_rank_of_link) (defBody s_rank_of_link) (defScope s_rank_of_link) .none kV9 dc9 pm9 an9 cd9 ct9), sl9⟩)
    (c9 : PySem.W.codeIn K cd9 "_rank_of_link" = true)
    (k9 : PySem.W.keepIn K (.ref f9) = true)
    (a10 : PySem.W.nsIn K mainGlobals "_gains" = some (some (.ref f10)))
    (l10 : K.lookup f10 = some ⟨oc10, od10, .func (PySem.W.fnOf "_gains" "_gains" (defArgs s_gains) (defBody s_gains) (defScope s_gains) .none kV10 dc10 pm10 an10 cd10 ct10), sl10⟩)
    (c10 : PySem.W.codeIn K cd10 "_gains" = true)
    (k10 : PySem.W.keepIn K (.ref f10) = true)
    (a11 : PySem.W.nsIn K mainGlobals "is_paid" = some (some (.ref f11)))
    (l11 : K.lookup f11 = some ⟨oc11, od11, .func (PySem.W.fnOf "is_paid" "is_paid" (defArgs s_is_paid) (defBody s_is_paid) (defScope s_is_paid) .none kV11 dc11 pm11 an11 cd11 ct11), sl11⟩)
    (c11 : PySem.W.codeIn K cd11 "is_paid" = true)
    (k11 : PySem.W.keepIn K (.ref f11) = true)
    (a12 : PySem.W.nsIn K mainGlobals "paid_paths" = some (some (.ref f12)))
    (l12 : K.lookup f12 = some ⟨oc12, od12, .func (PySem.W.fnOf "paid_paths" "paid_paths" (defArgs s_paid_paths) (defBody s_paid_paths) (defScope s_paid_paths) .none kV12 dc12 pm12 an12 (.ref cc12) ct12), sl12⟩)
    (c12 : PySem.W.codeIn K (.ref cc12) "paid_paths" = true)
    (k12 : PySem.W.keepIn K (.ref f12) = true)
    (u12 : K.lookup cc12 = some ⟨.type "code", cod12, .fields cvs12, csl12⟩)
    (v12 : (cvs12[11]? : Option Value) = some (.ref tb12))
    (d12 : PySem.W.codeHdIn K cc12 tb12 = true)
    (e12 : K.lookup tb12 = none)
    (h12 : h.get? tb12 = some (PySem.W.tabObj #[]))
    (a13 : PySem.W.nsIn K mainGlobals "_law_taken" = some (some (.ref f13)))
    (l13 : K.lookup f13 = some ⟨oc13, od13, .func (PySem.W.fnOf "_law_taken" "_law_taken" (defArgs s_law_taken) (defBody s_law_taken) (defScope s_law_taken) .none kV13 dc13 pm13 an13 cd13 ct13), sl13⟩)
    (c13 : PySem.W.codeIn K cd13 "_law_taken" = true)
    (k13 : PySem.W.keepIn K (.ref f13) = true)
    (a14 : PySem.W.nsIn K mainGlobals "_law_alike" = some (some (.ref f14)))
    (l14 : K.lookup f14 = some ⟨oc14, od14, .func (PySem.W.fnOf "_law_alike" "_law_alike" (defArgs s_law_alike) (defBody s_law_alike) (defScope s_law_alike) .none kV14 dc14 pm14 an14 cd14 ct14), sl14⟩)
    (c14 : PySem.W.codeIn K cd14 "_law_alike" = true)
    (k14 : PySem.W.keepIn K (.ref f14) = true)
    (a15 : PySem.W.nsIn K mainGlobals "_law_all_paths" = some (some (.ref f15)))
    (l15 : K.lookup f15 = some ⟨oc15, od15, .func (PySem.W.fnOf "_law_all_paths" "_law_all_paths" (defArgs s_law_all_paths) (defBody s_law_all_paths) (defScope s_law_all_paths) .none kV15 dc15 pm15 an15 cd15 ct15), sl15⟩)
    (c15 : PySem.W.codeIn K cd15 "_law_all_paths" = true)
    (k15 : PySem.W.keepIn K (.ref f15) = true)
    (a16 : PySem.W.nsIn K mainGlobals "_law_trade" = some (some (.ref f16)))
    (l16 : K.lookup f16 = some ⟨oc16, od16, .func (PySem.W.fnOf "_law_trade" "_law_trade" (defArgs s_law_trade) (defBody s_law_trade) (defScope s_law_trade) .none kV16 dc16 pm16 an16 cd16 ct16), sl16⟩)
    (c16 : PySem.W.codeIn K cd16 "_law_trade" = true)
    (k16 : PySem.W.keepIn K (.ref f16) = true)
    (a17 : PySem.W.nsIn K mainGlobals "_law_kinds" = some (some (.ref f17)))
    (l17 : K.lookup f17 = some ⟨oc17, od17, .func (PySem.W.fnOf "_law_kinds" "_law_kinds" (defArgs s_law_kinds) (defBody s_law_kinds) (defScope s_law_kinds) .none kV17 dc17 pm17 an17 cd17 ct17), sl17⟩)
    (c17 : PySem.W.codeIn K cd17 "_law_kinds" = true)
    (k17 : PySem.W.keepIn K (.ref f17) = true)
    (a18 : PySem.W.nsIn K mainGlobals "_law_paid" = some (some (.ref f18)))
    (l18 : K.lookup f18 = some ⟨oc18, od18, .func (PySem.W.fnOf "_law_paid" "_law_paid" (defArgs s_law_paid) (defBody s_law_paid) (defScope s_law_paid) .none kV18 dc18 pm18 an18 cd18 ct18), sl18⟩)
    (c18 : PySem.W.codeIn K cd18 "_law_paid" = true)
    (k18 : PySem.W.keepIn K (.ref f18) = true)
    (a19 : PySem.W.nsIn K mainGlobals "law" = some (some (.ref f19)))
    (l19 : K.lookup f19 = some ⟨oc19, od19, .func (PySem.W.fnOf "law" "law" (defArgs s_law) (defBody s_law) (defScope s_law) .none kV19 dc19 pm19 an19 cd19 ct19), sl19⟩)
    (c19 : PySem.W.codeIn K cd19 "law" = true)
    (k19 : PySem.W.keepIn K (.ref f19) = true) :
    LamX.LawAtS l w K CX0 8 63 "script" mg fa h := by
  have e := hfa.symm.trans (PySem.W.mg_of X G a19)
  cases e
  have cl0 : Cls K C0 := ⟨pg0C, hd0C, po0C, sa0C⟩
  have gC0 := PySem.W.mg_of X G aC0
  have F0 := fun_mk (st := s_Trade_init) l0 c0 k0
  have b0 := F0.binds (ps := ["self", "size", "customers", "peers"]) fun _ _ _ _ _ _ us hl => match us, hl with | [_, _, _, _], _ => rfl
  have F1 := fun_mk (st := s_is_number) l1 c1 k1
  have b1 := F1.binds (ps := ["value", "low", "high"]) fun _ _ _ _ _ _ us hl => match us, hl with | [_, _, _], _ => rfl
  have F2 := fun_mk (st := s_is_tuple) l2 c2 k2
  have b2 := F2.binds (ps := ["value", "least", "most"]) fun _ _ _ _ _ _ us hl => match us, hl with | [_, _, _], _ => rfl
  have F3 := fun_mk (st := s_are_numbers) l3 c3 k3
  have b3 := F3.binds (ps := ["value", "low", "high"]) fun _ _ _ _ _ _ us hl => match us, hl with | [_, _, _], _ => rfl
  have F4 := fun_mk (st := s_are_unlike) l4 c4 k4
  have b4 := F4.binds (ps := ["values"]) fun _ _ _ _ _ _ us hl => match us, hl with | [_], _ => rfl
  have F5 := fun_mk (st := s_paths_to) l5 c5 k5
  have b5 := F5.binds (ps := ["heads", "node", "goals"]) fun _ _ _ _ _ _ us hl => match us, hl with | [_, _, _], _ => rfl
  have F6 := fun_mk (st := s_is_pair) l6 c6 k6
  have b6 := F6.binds (ps := ["size", "value"]) fun _ _ _ _ _ _ us hl => match us, hl with | [_, _], _ => rfl
  have F7 := fun_mk (st := s_check_trade) l7 c7 k7
  have b7 := F7.binds (ps := ["trade"]) fun _ _ _ _ _ _ us hl => match us, hl with | [_], _ => rfl
  have F8 := fun_mk (st := s_is_provider) l8 c8 k8
  have b8 := F8.binds (ps := ["trade", "one", "other"]) fun _ _ _ _ _ _ us hl => match us, hl with | [_, _, _], _ => rfl
  have F9 := fun_mk (st := s_rank_of_link) l9 c9 k9
  have b9 := F9.binds (ps := ["trade", "one", "other"]) fun _ _ _ _ _ _ us hl => match us, hl with | [_, _, _], _ => rfl
  have F10 := fun_mk (st := s_gains) l10 c10 k10
  have b10 := F10.binds (ps := ["trade", "node", "others"]) fun _ _ _ _ _ _ us hl => match us, hl with | [_, _, _], _ => rfl
  have F11 := fun_mk (st := s_is_paid) l11 c11 k11
  have b11 := F11.binds (ps := ["trade", "path"]) fun _ _ _ _ _ _ us hl => match us, hl with | [_, _], _ => rfl
  have F12 : FunC K "paid_paths" "paid_paths" s_paid_paths f12 _ cc12 := ⟨⟨oc12, od12, kV12, dc12, pm12, an12, ct12, sl12, rfl, l12, c12⟩, k12⟩
  have b12 := F12.toFun.binds (ps := ["trade", "node"]) fun _ _ _ _ _ _ us hl => match us, hl with | [_, _], _ => rfl
  have F13 := fun_mk (st := s_law_taken) l13 c13 k13
  have b13 := F13.binds (ps := ["row", "many"]) fun _ _ _ _ _ _ us hl => match us, hl with | [_, _], _ => rfl
  have F14 := fun_mk (st := s_law_alike) l14 c14 k14
  have b14 := F14.binds (ps := ["found", "due"]) fun _ _ _ _ _ _ us hl => match us, hl with | [_, _], _ => rfl
  have F15 := fun_mk (st := s_law_all_paths) l15 c15 k15
  have b15 := F15.binds (ps := ["node", "size"]) fun _ _ _ _ _ _ us hl => match us, hl with | [_, _], _ => rfl
  have F16 := fun_mk (st := s_law_trade) l16 c16 k16
  have b16 := F16.binds (ps := ["row", "most"]) fun _ _ _ _ _ _ us hl => match us, hl with | [_, _], _ => rfl
  have F17 := fun_mk (st := s_law_kinds) l17 c17 k17
  have b17 := F17.binds (ps := ["told"]) fun _ _ _ _ _ _ us hl => match us, hl with | [_], _ => rfl
  have F18 := fun_mk (st := s_law_paid) l18 c18 k18
  have b18 := F18.binds (ps := ["kinds", "path"]) fun _ _ _ _ _ _ us hl => match us, hl with | [_, _], _ => rfl
  have F19 := fun_mk (st := s_law) l19 c19 k19
  have mm : ∀ (Pp : Addr × Addr → Prop), Pp (cc12, tb12) → ∀ p ∈ [(cc12, tb12)], Pp p := fun Pp y12 p hp => by
    simp only [List.mem_cons, List.not_mem_nil, or_false] at hp
    rcases hp with rfl <;> assumption
  refine ⟨PySem.W.fnOf "law" "law" (defArgs s_law) (defBody s_law) (defScope s_law) .none kV19 dc19 pm19 an19 cd19 ct19, [(cc12, tb12)], spLawX (cfg w K C0 [(tb12, (Str.ofString "paid_paths" ++ ".<locals>.") ++ "<lambda>")]), mm _ h12, mm _ e12, mm _ (PySem.W.codeHd_of_K X d12), fun s v => .of_eq rfl, fun H a ns hl hz hT hS => ⟨a, ns, rfl, hl, hS, ?_, fun _ => rfl⟩, fun base _ _ hB => ?_⟩
  · show Tabs [(tb12, (Str.ofString "paid_paths" ++ ".<locals>.") ++ "<lambda>")] H
    intro p hp
    simp only [List.mem_cons, List.not_mem_nil, or_false] at hp
    rcases hp with rfl
    · exact LamX.TabS.nil (hT (cc12, tb12) (by simp))
  have TB12 := hB (cc12, tb12) (by simp)
  have hu12 : ∀ p ∈ [(tb12, (Str.ofString "paid_paths" ++ ".<locals>.") ++ "<lambda>")], p.1 = tb12 → p.2 = (Str.ofString "paid_paths" ++ ".<locals>.") ++ "<lambda>" := by
    intro p hp e
    simp only [List.mem_cons, List.not_mem_nil, or_false] at hp
    rcases hp with rfl
    · rfl
  have hC0 : (cfg w K C0 [(tb12, (Str.ofString "paid_paths" ++ ".<locals>.") ++ "<lambda>")]).cls "Trade" = C0 := by
    show (if ("Trade" : String) = "Trade" then C0 else (0 : Addr)) = C0
    exact if_pos rfl
  have hf0 : (cfg w K C0 [(tb12, (Str.ofString "paid_paths" ++ ".<locals>.") ++ "<lambda>")]).flds "Trade" = (["size", "customers", "peers"] : List Str) := by
    show (if ("Trade" : String) = "Trade" then (["size", "customers", "peers"] : List Str) else ([] : List Str)) = (["size", "customers", "peers"] : List Str)
    exact if_pos rfl
  have FL0_0 : FldOk (cfg w K C0 [(tb12, (Str.ofString "paid_paths" ++ ".<locals>.") ++ "<lambda>")]) "Trade" "size" 0 := ⟨by rw [hC0]; exact cl0, by rw [hC0]; exact n0_0, by rw [hf0]; rfl, by rw [hf0]; decide⟩
  have FL0_1 : FldOk (cfg w K C0 [(tb12, (Str.ofString "paid_paths" ++ ".<locals>.") ++ "<lambda>")]) "Trade" "customers" 1 := ⟨by rw [hC0]; exact cl0, by rw [hC0]; exact n0_1, by rw [hf0]; rfl, by rw [hf0]; decide⟩
  have FL0_2 : FldOk (cfg w K C0 [(tb12, (Str.ofString "paid_paths" ++ ".<locals>.") ++ "<lambda>")]) "Trade" "peers" 2 := ⟨by rw [hC0]; exact cl0, by rw [hC0]; exact n0_2, by rw [hf0]; rfl, by rw [hf0]; decide⟩
  have IC0 : ClsOk (cfg w K C0 [(tb12, (Str.ofString "paid_paths" ++ ".<locals>.") ++ "<lambda>")]) "Trade" := ⟨by rw [hC0]; exact cl0, by rw [hC0]; exact xa0C, xb0C, xc0C, by rw [hC0]; exact xd0C, if_pos (beq_self_eq_true _)⟩
  have T : Tx l.prog w (cfg w K C0 [(tb12, (Str.ofString "paid_paths" ++ ".<locals>.") ++ "<lambda>")]) mg base := {
    w_ := rfl,
    b_all := PySem.W.mg_none_of X G z_all,
    b_any := PySem.W.mg_none_of X G z_any,
    b_bool := PySem.W.mg_none_of X G z_bool,
    b_enumerate := PySem.W.mg_none_of X G z_enumerate,
    b_int := PySem.W.mg_none_of X G z_int,
    b_isinstance := PySem.W.mg_none_of X G z_isinstance,
    b_len := PySem.W.mg_none_of X G z_len,
    b_list := PySem.W.mg_none_of X G z_list,
    b_range := PySem.W.mg_none_of X G z_range,
    b_reversed := PySem.W.mg_none_of X G z_reversed,
    b_set := PySem.W.mg_none_of X G z_set,
    b_sorted := PySem.W.mg_none_of X G z_sorted,
    b_str := PySem.W.mg_none_of X G z_str,
    b_tuple := PySem.W.mg_none_of X G z_tuple,
    b_zip := PySem.W.mg_none_of X G z_zip,
    c_MOST_NODES := ⟨_, PySem.W.mg_of X G m0⟩,
    c_MOST_PAIRS := ⟨_, PySem.W.mg_of X G m1⟩,
    f_Trade_size := FL0_0,
    f_Trade_customers := FL0_1,
    f_Trade_peers := FL0_2,
    l_Trade := by rw [hf0]; decide,
    n_Trade := by rw [hf0]; rfl,
    i_Trade := IC0,
    g_Trade := by rw [hC0]; exact gC0}
  have C_is_number : Cal l.prog w K mg base 1 "is_number" (spF (cfg w K C0 [(tb12, (Str.ofString "paid_paths" ++ ".<locals>.") ++ "<lambda>")]) f_is_number) [] := cal_mk F1 (PySem.W.mg_of X G a1) b1 (ok_is_number T F1 )
  have C_is_tuple : Cal l.prog w K mg base 1 "is_tuple" (spF (cfg w K C0 [(tb12, (Str.ofString "paid_paths" ++ ".<locals>.") ++ "<lambda>")]) f_is_tuple) [] := cal_mk F2 (PySem.W.mg_of X G a2) b2 (ok_is_tuple T F2 )
  have C_are_numbers : Cal l.prog w K mg base 2 "are_numbers" (spF (cfg w K C0 [(tb12, (Str.ofString "paid_paths" ++ ".<locals>.") ++ "<lambda>")]) f_are_numbers) [] := cal_mk F3 (PySem.W.mg_of X G a3) b3 (ok_are_numbers T F3 C_is_number)
  have C_are_unlike : Cal l.prog w K mg base 1 "are_unlike" (spF (cfg w K C0 [(tb12, (Str.ofString "paid_paths" ++ ".<locals>.") ++ "<lambda>")]) f_are_unlike) [] := cal_mk F4 (PySem.W.mg_of X G a4) b4 (ok_are_unlike T F4 )
  have C_paths_to : Cal l.prog w K mg base 1 "paths_to" (spF (cfg w K C0 [(tb12, (Str.ofString "paid_paths" ++ ".<locals>.") ++ "<lambda>")]) f_paths_to) [] := cal_mk F5 (PySem.W.mg_of X G a5) b5 (ok_paths_to T F5 )
  have C_is_pair : Cal l.prog w K mg base 3 "_is_pair" (spF (cfg w K C0 [(tb12, (Str.ofString "paid_paths" ++ ".<locals>.") ++ "<lambda>")]) f_is_pair) [] := cal_mk F6 (PySem.W.mg_of X G a6) b6 (ok_is_pair T F6 C_are_numbers)
  have C_check_trade : Cal l.prog w K mg base 1 "check_trade" (spF (cfg w K C0 [(tb12, (Str.ofString "paid_paths" ++ ".<locals>.") ++ "<lambda>")]) f_check_trade) [] := cal_mk F7 (PySem.W.mg_of X G a7) b7 (ok_check_trade T F7 )
  have C_is_provider : Cal l.prog w K mg base 1 "_is_provider" (spF (cfg w K C0 [(tb12, (Str.ofString "paid_paths" ++ ".<locals>.") ++ "<lambda>")]) f_is_provider) [] := cal_mk F8 (PySem.W.mg_of X G a8) b8 (ok_is_provider T F8 )
  have C_rank_of_link : Cal l.prog w K mg base 2 "_rank_of_link" (spF (cfg w K C0 [(tb12, (Str.ofString "paid_paths" ++ ".<locals>.") ++ "<lambda>")]) f_rank_of_link) [] := cal_mk F9 (PySem.W.mg_of X G a9) b9 (ok_rank_of_link T F9 C_is_provider)
  have C_gains : Cal l.prog w K mg base 2 "_gains" (spF (cfg w K C0 [(tb12, (Str.ofString "paid_paths" ++ ".<locals>.") ++ "<lambda>")]) f_gains) [] := cal_mk F10 (PySem.W.mg_of X G a10) b10 (ok_gains T F10 C_is_provider)
  have C_is_paid : Cal l.prog w K mg base 3 "is_paid" (spF (cfg w K C0 [(tb12, (Str.ofString "paid_paths" ++ ".<locals>.") ++ "<lambda>")]) f_is_paid) [] := cal_mk F11 (PySem.W.mg_of X G a11) b11 (ok_is_paid T F11 C_are_numbers C_are_unlike C_check_trade C_rank_of_link C_gains)
  have C_paid_paths : Cal l.prog w K mg base 6 "paid_paths" (spF (cfg w K C0 [(tb12, (Str.ofString "paid_paths" ++ ".<locals>.") ++ "<lambda>")]) f_paid_paths) [] := cal_mkC F12 (PySem.W.mg_of X G a12) b12 (ok_paid_paths T F12 TB12 (by simp [cfg]) hu12 C_is_number C_paths_to C_check_trade C_rank_of_link C_is_paid)
  have C_law_taken : Cal l.prog w K mg base 1 "_law_taken" (spF (cfg w K C0 [(tb12, (Str.ofString "paid_paths" ++ ".<locals>.") ++ "<lambda>")]) f_law_taken) [] := cal_mk F13 (PySem.W.mg_of X G a13) b13 (ok_law_taken T F13 )
  have C_law_alike : Cal l.prog w K mg base 7 "_law_alike" (spF (cfg w K C0 [(tb12, (Str.ofString "paid_paths" ++ ".<locals>.") ++ "<lambda>")]) (f_law_alike 6)) [] := cal_mk F14 (PySem.W.mg_of X G a14) b14 (ok_law_alike T F14 (PySem.W.mg_of X G a14) b14  6)
  have C_law_all_paths : Cal l.prog w K mg base 1 "_law_all_paths" (spF (cfg w K C0 [(tb12, (Str.ofString "paid_paths" ++ ".<locals>.") ++ "<lambda>")]) f_law_all_paths) [] := cal_mk F15 (PySem.W.mg_of X G a15) b15 (ok_law_all_paths T F15 )
  have C_law_trade : Cal l.prog w K mg base 2 "_law_trade" (spF (cfg w K C0 [(tb12, (Str.ofString "paid_paths" ++ ".<locals>.") ++ "<lambda>")]) f_law_trade) [] := cal_mk F16 (PySem.W.mg_of X G a16) b16 (ok_law_trade T F16 C_law_taken)
  have C_law_kinds : Cal l.prog w K mg base 1 "_law_kinds" (spF (cfg w K C0 [(tb12, (Str.ofString "paid_paths" ++ ".<locals>.") ++ "<lambda>")]) f_law_kinds) [] := cal_mk F17 (PySem.W.mg_of X G a17) b17 (ok_law_kinds T F17 )
  have C_law_paid : Cal l.prog w K mg base 1 "_law_paid" (spF (cfg w K C0 [(tb12, (Str.ofString "paid_paths" ++ ".<locals>.") ++ "<lambda>")]) f_law_paid) [] := cal_mk F18 (PySem.W.mg_of X G a18) b18 (ok_law_paid T F18 )
  have M_Trade : Mak l.prog w K mg base 4 "Trade" ((cfg w K C0 [(tb12, (Str.ofString "paid_paths" ++ ".<locals>.") ++ "<lambda>")]).cls "Trade") (spF (cfg w K C0 [(tb12, (Str.ofString "paid_paths" ++ ".<locals>.") ++ "<lambda>")]) f_Trade_init) [] := by rw [hC0]; exact ⟨f0, _, _, [], ⟨mk0C, a0, i0, kc0C⟩, ok_Trade_init T F0 C_is_number C_is_tuple C_is_pair, gC0, b0, .nil⟩
  exact law_ok law_pure (ok_law T F19 C_paid_paths C_law_alike C_law_all_paths C_law_trade C_law_kinds C_law_paid M_Trade)
theorem walk {l : PySem.W.OpenLaw} {q : Program} {loose : List Str} {XP : (Str → Option Value) → Heap → Prop} {YP : World → Heap → Prop} {d : DefRec} {K : Params → PySem.W.Frag} (hn : l.most = some 63) (hdf : d.params.defaults = [])
    (hY : ∀ (w : World) (h : Heap), YP w h → (K w.params).In h)
    (F : ∀ (w : World) (mg : Str → Option Value) (fa : Addr) (h : Heap), YP w h → (K w.params).In h → h.Ns mainGlobals mg → mg d.name = some (.ref fa) → LamX.LawAtS l w (K w.params) CX0 8 63 "script" mg fa h) :
    PySem.W.WalkO q loose XP YP l.row.toRowW d [] (fun f vs => PySem.call f vs) :=
  LamX.walk_ofTs (n := 63) (k := 8) (x := "script") (CX := fun _ => CX0) hn (by decide) hdf ⟨rfl, by decide, by decide⟩ hY F fun _ _ _ _ _ z => z
end
end Fx.K47
open PySem PySem.W PyProof.Rows in
set_option maxRecDepth 100000 in
set_option maxHeartbeats 0 in
theorem PySem.Challenge.cw_routeweb_k47_whole_paid_paths_holds : PySem.Challenge.rw_routeweb_k47_whole_paid_paths.Holds := by
  w_on; o_law; k_head; (case hw => w_witness2)
  k_fill
  refine Fx.K47.walk (l := PySem.Challenge.rw_routeweb_k47_whole_paid_paths) rfl rfl (fun w h Y => PySem.W.km_in_of Y) ?F
  case F =>
    intro w mg fa h Y KX G hmg
    have hT8 := PySem.W.km_tabs_of Y
    refine' Fx.K47.all_mk KX G hmg ?aC0 ?pg0C ?hd0C ?po0C ?sa0C ?mk0C ?kc0C ?xa0C ?xb0C ?xc0C ?xd0C ?n0_0 ?n0_1 ?n0_2 ?a0 ?i0 ?l0 ?c0 ?k0 ?m0 ?m1 ?z_all ?z_any ?z_bool ?z_enumerate ?z_int ?z_isinstance ?z_len ?z_list ?z_range ?z_reversed ?z_set ?z_sorted ?z_str ?z_tuple ?z_zip ?a1 ?l1 ?c1 ?k1 ?a2 ?l2 ?c2 ?k2 ?a3 ?l3 ?c3 ?k3 ?a4 ?l4 ?c4 ?k4 ?a5 ?l5 ?c5 ?k5 ?a6 ?l6 ?c6 ?k6 ?a7 ?l7 ?c7 ?k7 ?a8 ?l8 ?c8 ?k8 ?a9 ?l9 ?c9 ?k9 ?a10 ?l10 ?c10 ?k10 ?a11 ?l11 ?c11 ?k11 ?a12 ?l12 ?c12 ?k12 ?u12 ?v12 ?d12 ?e12 ?h12 ?a13 ?l13 ?c13 ?k13 ?a14 ?l14 ?c14 ?k14 ?a15 ?l15 ?c15 ?k15 ?a16 ?l16 ?c16 ?k16 ?a17 ?l17 ?c17 ?k17 ?a18 ?l18 ?c18 ?k18 ?a19 ?l19 ?c19 ?k19
    (case aC0 => k_is)
    (case pg0C => k_is)
    (case hd0C => k_is)
    (case po0C => k_is)
    (case sa0C => k_is)
    (case mk0C => k_is)
    (case kc0C => k_is)
    (case xa0C => k_is)
    (case xb0C => k_is)
    (case xc0C => k_is)
    (case xd0C => k_is)
    (case n0_0 => k_is)
    (case n0_1 => k_is)
    (case n0_2 => k_is)
    (case a0 => k_is)
    (case i0 => k_is)
    (case l0 => k_is)
    (case c0 => k_is)
    (case k0 => k_is)
    (case m0 => k_is)
    (case m1 => k_is)
    (case z_all => k_is)
    (case z_any => k_is)
    (case z_bool => k_is)
    (case z_enumerate => k_is)
    (case z_int => k_is)
    (case z_isinstance => k_is)
    (case z_len => k_is)
    (case z_list => k_is)
    (case z_range => k_is)
    (case z_reversed => k_is)
    (case z_set => k_is)
    (case z_sorted => k_is)
    (case z_str => k_is)
    (case z_tuple => k_is)
    (case z_zip => k_is)
    (case a1 => k_is)
    (case l1 => k_is)
    (case c1 => k_is)
    (case k1 => k_is)
    (case a2 => k_is)
    (case l2 => k_is)
    (case c2 => k_is)
    (case k2 => k_is)
    (case a3 => k_is)
    (case l3 => k_is)
    (case c3 => k_is)
    (case k3 => k_is)
    (case a4 => k_is)
    (case l4 => k_is)
    (case c4 => k_is)
    (case k4 => k_is)
    (case a5 => k_is)
    (case l5 => k_is)
    (case c5 => k_is)
    (case k5 => k_is)
    (case a6 => k_is)
    (case l6 => k_is)
    (case c6 => k_is)
    (case k6 => k_is)
    (case a7 => k_is)
    (case l7 => k_is)
    (case c7 => k_is)
    (case k7 => k_is)
    (case a8 => k_is)
    (case l8 => k_is)
    (case c8 => k_is)
    (case k8 => k_is)
    (case a9 => k_is)
    (case l9 => k_is)
    (case c9 => k_is)
    (case k9 => k_is)
    (case a10 => k_is)
    (case l10 => k_is)
    (case c10 => k_is)
    (case k10 => k_is)
    (case a11 => k_is)
    (case l11 => k_is)
    (case c11 => k_is)
    (case k11 => k_is)
    (case a12 => k_is)
    (case l12 => k_is)
    (case c12 => k_is)
    (case k12 => k_is)
    (case u12 => k_is)
    (case v12 => first | rfl | with_unfolding_all rfl)
    (case d12 => kernel_rfl)
    (case e12 => first | kernel_rfl | rfl | k_is)
    (case h12 => first | exact hT8 _ (by k_mem) | exact hT8 _ (by simp) | exact hT8 _ (by decide))
    (case a13 => k_is)
    (case l13 => k_is)
    (case c13 => k_is)
    (case k13 => k_is)
    (case a14 => k_is)
    (case l14 => k_is)
    (case c14 => k_is)
    (case k14 => k_is)
    (case a15 => k_is)
    (case l15 => k_is)
    (case c15 => k_is)
    (case k15 => k_is)
    (case a16 => k_is)
    (case l16 => k_is)
    (case c16 => k_is)
    (case k16 => k_is)
    (case a17 => k_is)
    (case l17 => k_is)
    (case c17 => k_is)
    (case k17 => k_is)
    (case a18 => k_is)
    (case l18 => k_is)
    (case c18 => k_is)
    (case k18 => k_is)
    (case a19 => k_is)
    (case l19 => k_is)
    (case c19 => k_is)
    (case k19 => k_is)
