import PyProof.Rows.All
import Wide.All
import OpenK.AllK
import Wide.FinOn
import KE.GoesEnum
import HandS.ForMost
import HandS.Walk
import HandS.Codes
import HandS.IsInst
import HandS.SortInts
import HandS.Strs
import HandS.SetFor
import HandS.Property
import HandS.TupMul
import HandS.TupAny
import HandS.Style
import HandS.Lambda
import HandS.Words
import HandS.Deep
import KE.DataEq
import HandS.Zip
import HandS.Rev
import HandS.EndTab
import HandS.Exc
import HandS.ExcOwn
import HandS.TryOnly
import HandS.WordsExc
import HandS.Conv
import HandS.Star
import HandS.Iter
import HandS.DictComp
import HandS.Dict
import HandS.SortRule
import PySem.Challenge.RW_routeweb_k04_whole_cuts_of_distances
set_option Elab.async false
set_option linter.all false
set_option maxRecDepth 100000
set_option maxHeartbeats 8000000
/-! what stays, data, rules of our own -/
namespace Rw
open PySem PySem.Spec PyProof.Rows L2

/-! ### what stays -/
/-- an object that nobody changes -/
def Fixed : HO → Prop
  | .tup _ => True
  | .frz _ _ => True
  | .ins _ _ _ => True
  | _ => False
def Stay (H H' : Hp) : Prop := ∀ a o, Fixed o → H a = some o → H' a = some o
theorem Stay.refl (H : Hp) : Stay H H := fun _ _ _ h => h
theorem Stay.trans {H H1 H2 : Hp} (p : Stay H H1) (q : Stay H1 H2) : Stay H H2 := fun a o f h => q a o f (p a o f h)
theorem Stay.same {H H' : Hp} (p : Same H H') : Stay H H' := fun a o _ h => p a o h
theorem Stay.new {H : Hp} {p : Addr} {o : HO} (h : H p = none) : Stay H (upd H p o) := fun a u _ e => by
  rw [upd_ne (ne_of_none e h)]
  exact e
theorem Stay.put {H : Hp} {p : Addr} {u o : HO} (h : H p = some u) (n : ¬ Fixed u) : Stay H (upd H p o) := fun a v f e => by
  have : a ≠ p := fun z => by
    rw [z, h] at e
    cases e
    exact n f
  rw [upd_ne this]
  exact e
theorem Same.new {H : Hp} {p : Addr} {o : HO} (h : H p = none) : Same H (upd H p o) := fun a u e => by
  rw [upd_ne (ne_of_none e h)]
  exact e
/-- all but what stands at r -/
def Ext (r : Addr) (H H' : Hp) : Prop := ∀ a o, a ≠ r → H a = some o → H' a = some o
theorem Ext.refl (r : Addr) (H : Hp) : Ext r H H := fun _ _ _ h => h
theorem Ext.trans {r : Addr} {H H1 H2 : Hp} (p : Ext r H H1) (q : Ext r H1 H2) : Ext r H H2 := fun a o n h => q a o n (p a o n h)
theorem Ext.same {r : Addr} {H H' : Hp} (p : Same H H') : Ext r H H' := fun a o _ h => p a o h
theorem Ext.put {r : Addr} {H : Hp} {o : HO} : Ext r H (upd H r o) := fun a u n e => by
  rw [upd_ne n]
  exact e
theorem Ext.stay {r : Addr} {H H' : Hp} {u : HO} (p : Ext r H H') (h : H r = some u) (n : ¬ Fixed u) : Stay H H' := fun a o f e =>
  p a o (fun z => by
    rw [z, h] at e
    cases e
    exact n f) e
theorem Ext.free {r p : Addr} {H H' : Hp} (x : Ext r H H') (n : p ≠ r) (h : H' p = none) : H p = none := by
  cases q : H p with
  | none => rfl
  | some o =>
    rw [x p o n q] at h
    cases h

/-! ### data -/
mutual
def flatL : PyData → Bool
  | .list _ => false
  | .dict _ => false
  | .tuple ds => flatLs ds
  | _ => true
def flatLs : List PyData → Bool
  | [] => true
  | d :: ds => flatL d && flatLs ds
end
theorem SqT.stay {K : PySem.W.Frag} {H H' : Hp} {a : Addr} {xs : List V} (s : Stay H H') (h : SqT K H a xs) : SqT K H' a xs := by
  rcases h with (h | ⟨o, h⟩) | h
  · exact .inl (.inl (s a _ trivial h))
  · exact .inl (.inr ⟨o, s a _ trivial h⟩)
  · exact .inr h
theorem SqT.sameT {K : PySem.W.Frag} {H H' : Hp} {a : Addr} {xs : List V} (s : Same H H') (h : SqT K H a xs) : SqT K H' a xs := SqT.stay (Stay.same s) h
mutual
theorem Dp.stay {K : PySem.W.Frag} {H H' : Hp} (s : Stay H H') : ∀ {v : V} {d : PyData}, Dp K H v d → flatL d = true → Dp K H' v d
  | _, _, .non, _ => .non
  | _, _, .bl b, _ => .bl b
  | _, _, .int i, _ => .int i
  | _, _, .str x, _ => .str x
  | _, _, .lst _ _, f => by simp [flatL] at f
  | _, _, .tup h k, f => .tup (SqT.stay s h) (DpAll.stay s k (by simpa [flatL] using f))
theorem DpAll.stay {K : PySem.W.Frag} {H H' : Hp} (s : Stay H H') : ∀ {vs : List V} {ds : List PyData}, DpAll K H vs ds → flatLs ds = true → DpAll K H' vs ds
  | _, _, .nil, _ => .nil
  | _, _, .cons h k, f => by
    simp only [flatLs, Bool.and_eq_true] at f
    exact .cons (Dp.stay s h f.1) (DpAll.stay s k f.2)
end
mutual
theorem Dp.sameD {K : PySem.W.Frag} {H H' : Hp} (s : Same H H') : ∀ {v : V} {d : PyData}, Dp K H v d → Dp K H' v d
  | _, _, .non => .non
  | _, _, .bl b => .bl b
  | _, _, .int i => .int i
  | _, _, .str x => .str x
  | _, _, .lst h k => .lst (Same.seq s h) (DpAll.sameD s k)
  | _, _, .tup h k => .tup (SqT.sameT s h) (DpAll.sameD s k)
theorem DpAll.sameD {K : PySem.W.Frag} {H H' : Hp} (s : Same H H') : ∀ {vs : List V} {ds : List PyData}, DpAll K H vs ds → DpAll K H' vs ds
  | _, _, .nil => .nil
  | _, _, .cons h k => .cons (Dp.sameD s h) (DpAll.sameD s k)
end
theorem DpAll.length {K : PySem.W.Frag} {H : Hp} : ∀ {vs : List V} {ds : List PyData}, DpAll K H vs ds → vs.length = ds.length
  | _, _, .nil => rfl
  | _, _, .cons _ k => by rw [List.length_cons, List.length_cons, DpAll.length k]
theorem DpAll.get {K : PySem.W.Frag} {H : Hp} : ∀ {vs : List V} {ds : List PyData} {i : Nat} {d : PyData}, DpAll K H vs ds → ds[i]? = some d → ∃ v, vs[i]? = some v ∧ Dp K H v d
  | _, _, _, _, .nil, e => by simp at e
  | _, _, 0, _, .cons h _, e => by simp at e; subst e; exact ⟨_, rfl, h⟩
  | _, _, i + 1, _, .cons _ k, e => by
    obtain ⟨v, e1, e2⟩ := DpAll.get (i := i) k (by simpa using e)
    exact ⟨v, by simpa using e1, e2⟩
theorem DpAll.getV {K : PySem.W.Frag} {H : Hp} : ∀ {vs : List V} {ds : List PyData} {i : Nat} {v : V}, DpAll K H vs ds → vs[i]? = some v → ∃ d, ds[i]? = some d ∧ Dp K H v d
  | _, _, _, _, .nil, e => by simp at e
  | _, _, 0, _, .cons h _, e => by simp at e; subst e; exact ⟨_, rfl, h⟩
  | _, _, i + 1, _, .cons _ k, e => by
    obtain ⟨d, e1, e2⟩ := DpAll.getV (i := i) k (by simpa using e)
    exact ⟨d, by simpa using e1, e2⟩
theorem DpAll.app {K : PySem.W.Frag} {H : Hp} : ∀ {vs ws : List V} {ds es : List PyData}, DpAll K H vs ds → DpAll K H ws es → DpAll K H (vs ++ ws) (ds ++ es)
  | _, _, _, _, .nil, q => q
  | _, _, _, _, .cons h k, q => .cons h (DpAll.app k q)
theorem Dp.tupE {K : PySem.W.Frag} {H : Hp} {v : V} {ds : List PyData} (h : Dp K H v (.tuple ds)) : ∃ a xs, v = .ref a ∧ SqT K H a xs ∧ DpAll K H xs ds := by
  cases h with
  | tup h k => exact ⟨_, _, rfl, h, k⟩
theorem Dp.lstE {K : PySem.W.Frag} {H : Hp} {v : V} {ds : List PyData} (h : Dp K H v (.list ds)) : ∃ a xs, v = .ref a ∧ SqL K H a xs ∧ DpAll K H xs ds := by
  cases h with
  | lst h k => exact ⟨_, _, rfl, h, k⟩
theorem Dp.intE {K : PySem.W.Frag} {H : Hp} {v : V} {i : Int} (h : Dp K H v (.int i)) : v = .int i := by cases h; rfl
theorem Dp.nonE {K : PySem.W.Frag} {H : Hp} {v : V} (h : Dp K H v .none) : v = .non := by cases h; rfl
theorem DpAll.ints {K : PySem.W.Frag} {H : Hp} : ∀ {ns : List Int} {vs : List V}, DpAll K H vs (ns.map PyData.int) → vs = ns.map V.int
  | [], _, h => by cases h; rfl
  | n :: ns, _, h => by
    cases h with
    | cons h k => rw [Dp.intE h, DpAll.ints k]; rfl
theorem DpAll.ofInts {K : PySem.W.Frag} {H : Hp} : ∀ (ns : List Int), DpAll K H (ns.map V.int) (ns.map PyData.int)
  | [] => .nil
  | n :: ns => .cons (.int n) (DpAll.ofInts ns)
def optD : Option Int → PyData
  | some i => .int i
  | none => .none
def optV : Option Int → V
  | some i => .int i
  | none => .non
theorem DpAll.opts {K : PySem.W.Frag} {H : Hp} : ∀ {ns : List (Option Int)} {vs : List V}, DpAll K H vs (ns.map optD) → vs = ns.map optV
  | [], _, h => by cases h; rfl
  | some n :: ns, _, h => by
    cases h with
    | cons h k => rw [Dp.intE h, DpAll.opts k]; rfl
  | none :: ns, _, h => by
    cases h with
    | cons h k => rw [Dp.nonE h, DpAll.opts k]; rfl
theorem DpAll.ofOpts {K : PySem.W.Frag} {H : Hp} : ∀ (ns : List (Option Int)), DpAll K H (ns.map optV) (ns.map optD)
  | [] => .nil
  | some n :: ns => .cons (.int n) (DpAll.ofOpts ns)
  | none :: ns => .cons .non (DpAll.ofOpts ns)

/-! ### isinstance -/
def tyN : PyData → String
  | .none => "NoneType"
  | .bool _ => "bool"
  | .int _ => "int"
  | .str _ => "str"
  | .list _ => "list"
  | .tuple _ => "tuple"
  | .dict _ => "dict"
theorem dpTy {K : PySem.W.Frag} {H : Hp} : ∀ {v : V} {d : PyData}, Dp K H v d → TyX K H v (.type (tyN d))
  | _, _, .non => .base .non
  | _, _, .bl b => .base (.bl b)
  | _, _, .int i => .base (.int i)
  | _, _, .str x => .base (.str x)
  | _, _, .lst h _ => by
    rcases h with (h | ⟨o, h⟩) | ⟨o, its, n, hk, hc, _⟩
    · exact .base (.lst h)
    · exact .base (.frz h)
    · exact .kList hk hc
  | _, _, .tup h _ => by
    rcases h with (h | ⟨o, h⟩) | ⟨o, its, n, hk, hc, _⟩
    · exact .base (.tup h)
    · exact .fTuple h
    · exact .kTuple hk hc
def isInt : PyData → Bool
  | .int _ => true
  | .bool _ => true
  | _ => false
def isBool : PyData → Bool
  | .bool _ => true
  | _ => false
def isTup : PyData → Bool
  | .tuple _ => true
  | _ => false
def isStrD : PyData → Bool
  | .str _ => true
  | _ => false
def isLst : PyData → Bool
  | .list _ => true
  | _ => false
theorem kb_int : ∀ d : PyData, kitB (tyN d) "int" = some (isInt d)
  | .none => (by decide +kernel : kitB "NoneType" "int" = some false)
  | .bool _ => (by decide +kernel : kitB "bool" "int" = some true)
  | .int _ => (by decide +kernel : kitB "int" "int" = some true)
  | .str _ => (by decide +kernel : kitB "str" "int" = some false)
  | .list _ => (by decide +kernel : kitB "list" "int" = some false)
  | .tuple _ => (by decide +kernel : kitB "tuple" "int" = some false)
  | .dict _ => (by decide +kernel : kitB "dict" "int" = some false)
theorem kb_bool : ∀ d : PyData, kitB (tyN d) "bool" = some (isBool d)
  | .none => (by decide +kernel : kitB "NoneType" "bool" = some false)
  | .bool _ => (by decide +kernel : kitB "bool" "bool" = some true)
  | .int _ => (by decide +kernel : kitB "int" "bool" = some false)
  | .str _ => (by decide +kernel : kitB "str" "bool" = some false)
  | .list _ => (by decide +kernel : kitB "list" "bool" = some false)
  | .tuple _ => (by decide +kernel : kitB "tuple" "bool" = some false)
  | .dict _ => (by decide +kernel : kitB "dict" "bool" = some false)
theorem kb_tuple : ∀ d : PyData, kitB (tyN d) "tuple" = some (isTup d)
  | .none => (by decide +kernel : kitB "NoneType" "tuple" = some false)
  | .bool _ => (by decide +kernel : kitB "bool" "tuple" = some false)
  | .int _ => (by decide +kernel : kitB "int" "tuple" = some false)
  | .str _ => (by decide +kernel : kitB "str" "tuple" = some false)
  | .list _ => (by decide +kernel : kitB "list" "tuple" = some false)
  | .tuple _ => (by decide +kernel : kitB "tuple" "tuple" = some true)
  | .dict _ => (by decide +kernel : kitB "dict" "tuple" = some false)
theorem kb_list : ∀ d : PyData, kitB (tyN d) "list" = some (isLst d)
  | .none => (by decide +kernel : kitB "NoneType" "list" = some false)
  | .bool _ => (by decide +kernel : kitB "bool" "list" = some false)
  | .int _ => (by decide +kernel : kitB "int" "list" = some false)
  | .str _ => (by decide +kernel : kitB "str" "list" = some false)
  | .list _ => (by decide +kernel : kitB "list" "list" = some true)
  | .tuple _ => (by decide +kernel : kitB "tuple" "list" = some false)
  | .dict _ => (by decide +kernel : kitB "dict" "list" = some false)
theorem kb_str : ∀ d : PyData, kitB (tyN d) "str" = some (isStrD d)
  | .none => (by decide +kernel : kitB "NoneType" "str" = some false)
  | .bool _ => (by decide +kernel : kitB "bool" "str" = some false)
  | .int _ => (by decide +kernel : kitB "int" "str" = some false)
  | .str _ => (by decide +kernel : kitB "str" "str" = some true)
  | .list _ => (by decide +kernel : kitB "list" "str" = some false)
  | .tuple _ => (by decide +kernel : kitB "tuple" "str" = some false)
  | .dict _ => (by decide +kernel : kitB "dict" "str" = some false)
section
variable {K : PySem.W.Frag} {H : Hp} {v : V} {d : PyData} {Q : VK}
theorem isi_int (h : Dp K H v d) (q : Q (.bl (isInt d)) H) : rIsi K [v, .ty "int"] H Q := by
  refine ⟨v, .ty "int", .type (tyN d), .type "int", isInt d, rfl, .ty _, dpTy h, kit_ty (kb_int d), q⟩
theorem isi_bool (h : Dp K H v d) (q : Q (.bl (isBool d)) H) : rIsi K [v, .ty "bool"] H Q := by
  refine ⟨v, .ty "bool", .type (tyN d), .type "bool", isBool d, rfl, .ty _, dpTy h, kit_ty (kb_bool d), q⟩
theorem isi_tup (h : Dp K H v d) (q : Q (.bl (isTup d)) H) : rIsi K [v, .ty "tuple"] H Q := by
  refine ⟨v, .ty "tuple", .type (tyN d), .type "tuple", isTup d, rfl, .ty _, dpTy h, kit_ty (kb_tuple d), q⟩
theorem isi_lst (h : Dp K H v d) (q : Q (.bl (isLst d)) H) : rIsi K [v, .ty "list"] H Q := by
  refine ⟨v, .ty "list", .type (tyN d), .type "list", isLst d, rfl, .ty _, dpTy h, kit_ty (kb_list d), q⟩
theorem isi_str (h : Dp K H v d) (q : Q (.bl (isStrD d)) H) : rIsi K [v, .ty "str"] H Q := by
  refine ⟨v, .ty "str", .type (tyN d), .type "str", isStrD d, rfl, .ty _, dpTy h, kit_ty (kb_str d), q⟩
end

/-! ### the checks' answers -/
def numD : PyData → Int → Int → Bool
  | .int i, lo, hi => decide (lo ≤ i) && decide (i ≤ hi)
  | _, _, _ => false
def tupD : PyData → Int → Int → Bool
  | .tuple ds, lo, hi => decide (lo ≤ (ds.length : Int)) && decide ((ds.length : Int) ≤ hi)
  | _, _, _ => false
def numsD : PyData → Int → Int → Bool
  | .tuple ds, lo, hi => ds.all fun d => numD d lo hi
  | _, _, _ => false
/-- a pure def's answer: what was tracked stands -/
def gives (H : Hp) (v : V) (Q : VK) : Prop := ∀ H', Same H H' → Q v H'
def spNum (K : PySem.W.Frag) : Sp := fun vs H Q _ => ∃ v d lo hi, vs = [v, .int lo, .int hi] ∧ Dp K H v d ∧ Q (.bl (numD d lo hi)) H
def spTup (K : PySem.W.Frag) : Sp := fun vs H Q _ => ∃ v d lo hi, vs = [v, .int lo, .int hi] ∧ Dp K H v d ∧ Q (.bl (tupD d lo hi)) H
def spNums (K : PySem.W.Frag) : Sp := fun vs H Q _ => ∃ v d lo hi, vs = [v, .int lo, .int hi] ∧ Dp K H v d ∧ gives H (.bl (numsD d lo hi)) Q

/-! ### readings, opened -/
section
variable {CX : CXT} {P : Program} {w : World} {K : PySem.W.Frag} {mg : Str → Option Value} {base : Heap} {N : List Str} {qual : Str} {scope : Scope} {f : Addr} {cd : Value} {A : Around} {outer : List Env} {s : Shared} {H : Hp} {E : XK}
theorem nox_K : (cxOf CX P w K mg base N qual scope f cd A outer s H E).nox.K = K := rfl
theorem nox_w : (cxOf CX P w K mg base N qual scope f cd A outer s H E).nox.w = w := rfl
end
theorem ex_rfl {α : Type} {a : α} {p : α → Prop} : (∃ x, a = x ∧ p x) ↔ p a := ⟨fun ⟨_, e, h⟩ => e ▸ h, fun h => ⟨a, rfl, h⟩⟩
theorem ex_rfl' {α : Type} {a : α} {p : α → Prop} : (∃ x, x = a ∧ p x) ↔ p a := ⟨fun ⟨_, e, h⟩ => e ▸ h, fun h => ⟨a, rfl, h⟩⟩
theorem ex_some {α : Type} {a : α} {p : α → Prop} : (∃ x, some (some a) = some (some x) ∧ p x) ↔ p a :=
  ⟨fun ⟨_, e, h⟩ => by cases e; exact h, fun h => ⟨a, rfl, h⟩⟩
theorem ex_bl {b : Bool} {p : Bool → Prop} : (∃ c, V.bl b = V.bl c ∧ p c) ↔ p b := ⟨fun ⟨_, e, h⟩ => by cases e; exact h, fun h => ⟨b, rfl, h⟩⟩
theorem ex_ii {i j : Int} {p : Int → Int → Prop} : (∃ a b, V.int i = V.int a ∧ V.int j = V.int b ∧ p a b) ↔ p i j :=
  ⟨fun ⟨_, _, e1, e2, h⟩ => by cases e1; cases e2; exact h, fun h => ⟨i, j, rfl, rfl, h⟩⟩
theorem ex_i {i : Int} {p : Int → Prop} : (∃ a, V.int i = V.int a ∧ p a) ↔ p i := ⟨fun ⟨_, e, h⟩ => by cases e; exact h, fun h => ⟨i, rfl, h⟩⟩

section
variable {CX : CXT} {P : Program} {w : World} {K : PySem.W.Frag} {mg : Str → Option Value} {base : Heap} {N : List Str} {qual : Str} {scope : Scope} {f : Addr} {cd : Value} {A : Around} {outer : List Env} {s : Shared} {H : Hp} {E : XK}
theorem cx_K : (cxOf CX P w K mg base N qual scope f cd A outer s H E).K = K := rfl
theorem cx_w : (cxOf CX P w K mg base N qual scope f cd A outer s H E).w = w := rfl
theorem cx_P : (cxOf CX P w K mg base N qual scope f cd A outer s H E).prog = P := rfl
end

/-! ### comprehensions whose elements are data, nothing else changes -/
section
variable {K : PySem.W.Frag} {J : It} {n : Nat} {G : Hp → Prop} {Y : Nat → Hp → V → Hp → Prop} {g : TG} {tt : TT} {te : TE} {vs : List Nat} {σ : L2.St} {H : Hp} {Q : VK}
theorem getE {α : Type} {l : List α} {k : Nat} (h : k < l.length) : ∃ x, l[k]? = some x := ⟨l[k], List.getElem?_eq_getElem h⟩
theorem DpAll.snoc {H : Hp} {acc : List V} {ds : List PyData} {k : Nat} {v : V} {d : PyData} (h : DpAll K H acc (ds.take k)) (e : ds[k]? = some d) (hv : Dp K H v d) : DpAll K H (acc ++ [v]) (ds.take (k + 1)) := by
  rw [List.take_succ, e]
  exact DpAll.app h (.cons hv .nil)
theorem flatLs_get : ∀ {ds : List PyData} {k : Nat} {d : PyData}, flatLs ds = true → ds[k]? = some d → flatL d = true
  | [], _, _, _, e => by simp at e
  | d :: ds, 0, _, f, e => by
    simp only [flatLs, Bool.and_eq_true] at f
    simp at e
    subst e
    exact f.1
  | d :: ds, k + 1, _, f, e => by
    simp only [flatLs, Bool.and_eq_true] at f
    exact flatLs_get (k := k) f.2 (by simpa using e)
theorem flatLs_take : ∀ {ds : List PyData}, flatLs ds = true → ∀ k, flatLs (ds.take k) = true
  | [], _, k => by simp [flatLs]
  | d :: ds, _, 0 => by simp [flatLs]
  | d :: ds, f, k + 1 => by
    simp only [flatLs, Bool.and_eq_true] at f
    simp only [List.take_succ_cons, flatLs, Bool.and_eq_true]
    exact ⟨f.1, flatLs_take f.2 k⟩
/-- the walk's turns give data ds -/
theorem lc_data (w : Walk J n G Y) (hG : ∀ H', Same H H' → G H') (ds : List PyData) (fl : flatLs ds = true) (hl : ds.length = n) (hz : n ≤ sizeLine)
    (hs : ∀ k x d H' H'' (Z : V → Hp → Prop) (F : Hp → Prop), k < n → ds[k]? = some d → Same H H' → Y k H' x H'' → (∀ y H4, Same H' H4 → Dp K H4 y d → Z y H4) →
      g x (wipe σ vs) H'' fun σ2 H2 => wipe σ2 vs = wipe σ vs ∧ tt σ2 H2 fun b H3 => if b = true then te σ2 H3 Z else F H3)
    (hd : ∀ D acc H', H D = none → Same H H' → H' D = some (.lst acc) → DpAll K H' acc ds → Q (.ref D) H') :
    ∀ D, H D = none → ∃ W : Nat → Nat → Hp → Prop, (∃ m, W 0 m (upd H D (.lst []))) ∧ ∀ i m H, W i m H →
      (J.stop i H ∧ Q (.ref D) H) ∨ (J.go i H ∧ ∃ Nx : Hp → Prop, (∀ H', Nx H' → ∃ m', m' < m ∧ W (i + 1) m' H') ∧ ∀ x H', J.yld i H x H' → g x (wipe σ vs) H' fun σ2 H2 => wipe σ2 vs = wipe σ vs ∧ tt σ2 H2 fun b H3 =>
        if b = true then te σ2 H3 fun y H4 => ∃ acc, H4 D = some (.lst acc) ∧ acc.length < sizeLine ∧ Nx (upd H4 D (.lst (acc ++ [y]))) else Nx H3) := by
  intro D hD
  refine lc_it w (fun k H' => Same H H' ∧ ∃ acc, H' D = some (.lst acc) ∧ DpAll K H' acc (ds.take k)) ⟨Same.new hD, [], upd_same, .nil⟩ (fun i H' _ h => hG H' h.1) ?_ ?_
  · rintro k x H1 H2 hk ⟨s1, acc, e1, a1⟩ y1
    obtain ⟨d, ed⟩ := getE (l := ds) (k := k) (by omega)
    refine hs k x d H1 H2 _ _ hk ed s1 y1 fun y H4 s2 hy => ⟨acc, s2 _ _ e1, ?_, fun b o e => ?_, acc ++ [y], upd_same, ?_⟩
    · have := DpAll.length a1
      rw [List.length_take] at this
      omega
    · rw [upd_ne (ne_of_none e hD)]
      exact s2 b o (s1 b o e)
    · have st : Stay H4 (upd H4 D (.lst (acc ++ [y]))) := Stay.put (s2 _ _ e1) id
      have fd := flatLs_get fl ed
      refine DpAll.snoc (DpAll.stay st (DpAll.sameD s2 a1) (flatLs_take fl k)) ed (Dp.stay st hy fd)
  · rintro H1 ⟨s1, acc, e1, a1⟩
    rw [← hl, List.take_length] at a1
    exact hd D acc H1 hD s1 e1 a1
end

section
variable {K : PySem.W.Frag} {J : It} {n : Nat} {G : Hp → Prop} {Y : Nat → Hp → V → Hp → Prop} {wi : TI} {g : TG} {tt : TT} {te : TE} {vs : List Nat} {σ : L2.St} {H H1 : Hp} {Q : VK}
theorem tlc (hwi : ∀ R : It → Hp → Prop, R J H1 → wi σ H R) (w : Walk J n G Y) (hG : ∀ H', Same H1 H' → G H') (ds : List PyData) (fl : flatLs ds = true) (hl : ds.length = n) (hz : n ≤ sizeLine)
    (hs : ∀ k x d H' H'' (Z : V → Hp → Prop) (F : Hp → Prop), k < n → ds[k]? = some d → Same H1 H' → Y k H' x H'' → (∀ y H4, Same H' H4 → Dp K H4 y d → Z y H4) →
      g x (wipe σ vs) H'' fun σ2 H2 => wipe σ2 vs = wipe σ vs ∧ tt σ2 H2 fun b H3 => if b = true then te σ2 H3 Z else F H3)
    (hd : ∀ D acc H', H1 D = none → Same H1 H' → H' D = some (.lst acc) → DpAll K H' acc ds → Q (.ref D) H') : tLc wi g tt te vs σ H Q :=
  hwi _ (lc_data w hG ds fl hl hz hs hd)
end
section
variable {K : PySem.W.Frag} {J : It} {n : Nat} {G : Hp → Prop} {Y : Nat → Hp → V → Hp → Prop} {wi : TI} {g : TG} {tt : TT} {te : TE} {vs : List Nat} {σ : L2.St} {H H1 : Hp} {Q : VK}
/-- no turn passes the test -/
theorem tlcNone (hwi : ∀ R : It → Hp → Prop, R J H1 → wi σ H R) (w : Walk J n G Y) (hG : ∀ H', Same H1 H' → G H')
    (hs : ∀ k x H' H'' (Z : V → Hp → Prop) (F : Hp → Prop), k < n → Same H1 H' → Y k H' x H'' → (∀ H4, Same H' H4 → F H4) →
      g x (wipe σ vs) H'' fun σ2 H2 => wipe σ2 vs = wipe σ vs ∧ tt σ2 H2 fun b H3 => if b = true then te σ2 H3 Z else F H3)
    (hd : ∀ D H', H1 D = none → Same H1 H' → H' D = some (.lst []) → Q (.ref D) H') : tLc wi g tt te vs σ H Q := by
  refine hwi _ fun D hD => ?_
  refine lc_it w (fun k H' => Same H1 H' ∧ H' D = some (.lst [])) ⟨Same.new hD, upd_same⟩ (fun i H' _ h => hG H' h.1) ?_ ?_
  · rintro k x H2 H3 hk ⟨s1, e1⟩ y1
    exact hs k x H2 H3 _ _ hk s1 y1 fun H4 s2 => ⟨Same.trans s1 s2, s2 _ _ e1⟩
  · rintro H2 ⟨s1, e1⟩
    exact hd D H2 hD s1 e1
end
def small : PyData → Prop
  | .tuple ds => ds.length ≤ 4000
  | .list ds => ds.length ≤ 4000
  | _ => True
theorem small_line {n : Nat} (h : n ≤ 4000) : n ≤ sizeLine := Nat.le_trans h (by decide)
theorem DpAll.bools {K : PySem.W.Frag} {H : Hp} : ∀ {ns : List Bool} {vs : List V}, DpAll K H vs (ns.map PyData.bool) → vs = ns.map V.bl
  | [], _, h => by cases h; rfl
  | n :: ns, _, h => by
    cases h with
    | cons h k =>
      cases h
      rw [DpAll.bools k]
      rfl
theorem flat_bools : ∀ ns : List Bool, flatLs (ns.map PyData.bool) = true
  | [] => rfl
  | _ :: ns => by simp [flatLs, flatL, flat_bools ns]
theorem flat_ints : ∀ ns : List Int, flatLs (ns.map PyData.int) = true
  | [] => rfl
  | _ :: ns => by simp [flatLs, flatL, flat_ints ns]
theorem flat_opts : ∀ ns : List (Option Int), flatLs (ns.map optD) = true
  | [] => rfl
  | none :: ns => by simp [flatLs, flatL, optD, flat_opts ns]
  | some _ :: ns => by simp [flatLs, flatL, optD, flat_opts ns]
def spNums' (K : PySem.W.Frag) : Sp := fun vs H Q _ => ∃ v d lo hi, vs = [v, .int lo, .int hi] ∧ Dp K H v d ∧ small d ∧ gives H (.bl (numsD d lo hi)) Q
/-- what a table's check answers -/
def optIn (m : Int) : PyData → Bool
  | .none => true
  | d => numD d 0 (m - 1)
def tableD : PyData → Int → Bool
  | .tuple ds, m => decide (m = (ds.length : Int)) && ds.all (optIn m)
  | _, _ => false
def spTable (K : PySem.W.Frag) : Sp := fun vs H Q _ => ∃ v d m, vs = [v, .int m] ∧ Dp K H v d ∧ small d ∧ gives H (.bl (tableD d m)) Q

/-! ### the rules, the written part told by name (so that a reading does not hang on the block's context) -/
section
variable {X : Cx}
theorem ixT (K : PySem.W.Frag) (e : X.K = K := by rfl) : IxR X (rIxT K) := by subst e; exact ix_tup
theorem ixL (K : PySem.W.Frag) (e : X.K = K := by rfl) : IxR X (rIxL K) := by subst e; exact ix_list
def rIxA (K : PySem.W.Frag) : R2 := fun x y H Q => rIxL K x y H Q ∨ rIxT K x y H Q
theorem ixA (K : PySem.W.Frag) (e : X.K = K := by rfl) : IxR X (rIxA K) := IxR.or (ixL K e) (ixT K e)
theorem slT (K : PySem.W.Frag) (e : X.K = K := by rfl) : SlR X (rSlA K) := by subst e; exact sl_tupA
theorem slL (K : PySem.W.Frag) (e : X.K = K := by rfl) : SlR X (rSlL K) := by subst e; exact sl_list
theorem cIsi (K : PySem.W.Frag) (e : X.K = K := by rfl) : CallR X (.builtin "isinstance") (rIsi K) := by subst e; exact call_isi
theorem cIsiT (K : PySem.W.Frag) (e : X.K = K := by rfl) : CallR X (.builtin "isinstance") (rIsiT K) := by subst e; exact call_isiT
theorem cAll (K : PySem.W.Frag) (hc : X.calm = true := by rfl) (e : X.K = K := by rfl) : CallR X (.builtin "all") (rAll K) := by subst e; exact cr_all hc
def rLen (K : PySem.W.Frag) : List V → Hp → VK → Prop := fun xs H Q => ∃ p ys, xs = [.ref p] ∧ (SqL K H p ys ∨ SqT K H p ys) ∧ Q (.int ys.length) H
theorem cLen (K : PySem.W.Frag) (e : X.K = K := by rfl) : CallR X (.builtin "len") (rLen K) := by subst e; exact call_len_seq
def rTupOf (K : PySem.W.Frag) : List V → Hp → VK → Prop := fun xs H Q => ∃ p ys, xs = [.ref p] ∧ ((SqL K H p ys ∧ ∀ l, H l = none → Q (.ref l) (upd H l (.tup ys))) ∨ (SqT K H p ys ∧ Q (.ref p) H))
theorem cTup (K : PySem.W.Frag) (e : X.K = K := by rfl) : CallR X (.type "tuple") (rTupOf K) := by subst e; exact call_tuple_of
def rLstOf (K : PySem.W.Frag) : List V → Hp → VK → Prop := fun xs H Q => ∃ p ys, xs = [.ref p] ∧ (SqL K H p ys ∨ SqT K H p ys) ∧ ∀ l, H l = none → Q (.ref l) (upd H l (.lst ys))
theorem cLst (K : PySem.W.Frag) (e : X.K = K := by rfl) : CallR X (.type "list") (rLstOf K) := by subst e; exact call_list_of
theorem cSortI (K : PySem.W.Frag) (e : X.K = K := by rfl) : CallR X (.builtin "sorted") (rSortedI K) := by subst e; exact cr_sortedI
theorem mIndex (K : PySem.W.Frag) (e : X.K = K := by rfl) : MtR X "list.index" (rIndex K) := by subst e; exact mt_index
theorem piT {tg l : Expr} {tl : TE} (K : PySem.W.Frag) (hl : PE X l tl) (e : X.K = K := by rfl) : PI X tg l (iTup K tl) := by subst e; exact pi_tup hl
theorem piL {tg l : Expr} {tl : TE} (K : PySem.W.Frag) (hl : PE X l tl) (e : X.K = K := by rfl) : PI X tg l (iList K tl) := by subst e; exact pi_list hl
theorem pFld {o : Expr} {f : Str} {pos : Pos} {ta : TE} (K : PySem.W.Frag) (he : PE X o ta) (hb : attributeBase o f X.env (eval o X.env) = eval o X.env := by rfl) (e : X.K = K := by rfl) : PE X (.Attribute o f pos) (tFld K ta f) := by subst e; exact pe_fld he hb
theorem pBm {o e : Expr} {es : List Expr} {name : Str} {id T : String} {r : V → List V → Hp → VK → Prop} {to : TE} {t : TA} {apos cpos : Pos} (K : PySem.W.Frag) (pa : PlainAttrs T) (slot : Slot T name id) (hty : typeOf (.builtin id) = pure (.type "method_descriptor")) (hm : MtR X id r) (ho : PE X o to) (ha : PA X (e :: es) t)
    (hbase : attributeBase o name X.env (eval o X.env) = eval o X.env := by rfl) (hfew : ((backTo cpos (starEach (e :: es) X.env)).all (fun y => !y.1) && (backToKw cpos (keywordEach [] X.env)).all (fun y => y.1.isSome) && decide ((e :: es).length + ([] : List Keyword).length + (if ([] : List Keyword).isEmpty then 0 else 1) < 30)) = true := by rfl) (hline : (apos.endLine == cpos.line) = true := by rfl)
    (hs : starEach (e :: es) X.env = (false, eval e X.env) :: starEach es X.env := by rfl) (hplain : (backTo cpos (starEach es X.env)).any (·.1) = false := by rfl) (eK : X.K = K := by rfl) :
    PE X (.Call (.Attribute o name apos) (e :: es) [] cpos) (tBM K T r to t) := by subst eK; exact pe_bm pa slot hty hm ho ha hbase hfew hline hs hplain
theorem pgT {es : List Expr} {kk : Nat} {pos : Pos} {t : TGs} (K : PySem.W.Frag) (n : Nat) (hc : X.calm = true) (h : PGs X es t) (hn : (assignEach es X.env).length = n := by rfl)
    (hst : (assignEach es X.env).findIdx? (·.1) = none := by rfl) (e : X.K = K := by rfl) : PG X (.Tuple es kk pos) (gTup K n t) := by subst e; exact pg_tup hc h hn hst
theorem opEqD (K : PySem.W.Frag) {k : Nat} (hr : Room k X.A) (e : X.K = K := by rfl) : OpR X (compareOp .Eq) (rEqD K) := by
  subst e
  exact op_eqD (by have := hr.un; omega)
theorem opNeD (K : PySem.W.Frag) {k : Nat} (hr : Room k X.A) (e : X.K = K := by rfl) : OpR X (compareOp .NotEq) (rNeD K) := by
  subst e
  exact op_neD (by have := hr.un; omega)
end
end Rw

/-! for i, x in enumerate(t), t a tuple -/
namespace Rw
open PySem PySem.Spec PyProof.Rows L2
open Builtin

theorem enumNew {v : Value} {o : Obj} {G : Heap → Prop} (B : Begins v o G) :
    Meets (Builtin.«enumerate.__new__» ⟨[.type "enumerate", v], []⟩) (fun _ R s =>
      G s.heap ∧ R (.ok (.ret (.ref (s.heap.objs.size + 1))))
        { s with heap := (s.heap.push o).push ⟨.type "enumerate", none, .fields #[.none, .bool false, .ref s.heap.objs.size, rawInt 0, .none, .none], #[]⟩ }) :=
  .of_wp fun prog w A R s both => by
    obtain ⟨hp, g, d, tk, os⟩ := s
    obtain ⟨hg, both⟩ := both
    have isub := sub_enumerate
    have sz : (hp.push o).objs.size = hp.objs.size + 1 := Heap.size_push ..
    have it1 : ∀ {A' : Around} {E : Value → Shared → Prop} {Q : Value → Shared → Prop},
        Q (.ref hp.objs.size) ⟨hp.push o, g, d, tk, os⟩ → wpAny (model prog w) A' (pyIter v) Q E ⟨hp, g, d, tk, os⟩ :=
      fun q => B.iter prog w _ _ ⟨hp, g, d, tk, os⟩ _ hg q
    wp_walk using it1
    refine wpAny_stack_any fun st => wpAny_pure ?_
    split
    · rename_i c _ _ _ _ _
      cases (c == Value.type "enumerate") <;> (wp_walk using it1; exact ⟨_, rfl, by rw [sz]; exact both⟩)
    · wp_walk using it1
      exact ⟨_, rfl, by rw [sz]; exact both⟩

theorem enumCall {prog : Program} {w : World} {A : Around} {E : Value → Shared → Prop} {s : Shared}
    {v : Value} {o : Obj} {G : Heap → Prop} {Q : Value → Shared → Prop} (B : Begins v o G) (hg : G s.heap)
    (h : ∀ h', IsEnum h' (s.heap.objs.size + 1) s.heap.objs.size 0 .none → h'.get? s.heap.objs.size = some o →
      (∀ b ob, s.heap.get? b = some ob → h'.get? b = some ob) → Q (.ref (s.heap.objs.size + 1)) { s with heap := h' }) :
    wpAny (model prog w) A (call (.type "enumerate") [v]) Q E s := by
  have sz : (s.heap.push o).objs.size = s.heap.objs.size + 1 := Heap.size_push ..
  have at1 : IsEnum ((s.heap.push o).push ⟨.type "enumerate", none, .fields #[.none, .bool false, .ref s.heap.objs.size, rawInt 0, .none, .none], #[]⟩)
      (s.heap.objs.size + 1) s.heap.objs.size 0 .none := by
    have z := Heap.get?_push_size (s.heap.push o) (o := ⟨.type "enumerate", none, .fields #[.none, .bool false, .ref s.heap.objs.size, rawInt 0, .none, .none], #[]⟩) rfl
    rw [sz] at z
    exact z
  refine callType_new F.called_enumerate (by decide) (F.typeCall_enumerate_1 _) (F.newCall_enumerate_1 _) (fun obj => F.args_object_init_2 obj _)
    F.entry_enumerate_new (enumNew B) ⟨hg, ⟨_, at1, rfl⟩, h _ at1 ?_ ?_⟩
  · exact Heap.get?_push_of_some _ (Heap.get?_push_size _ B.free)
  · exact fun b ob x => Heap.get?_push_of_some _ (Heap.get?_push_of_some _ x)

/-- the tuple at a, each item in a new pair with its place -/
def ItE (K : PySem.W.Frag) (a : Addr) : It where
  go := fun i H => ∃ xs x, SqT K H a xs ∧ xs[i]? = some x
  yld := fun i H v H' => ∃ T x, v = .ref T ∧ H T = none ∧ H' = upd H T (.tup [.int (i : Nat), x]) ∧ ∀ xs, SqT K H a xs → xs[i]? = some x
  stop := fun i H => ∃ xs : List V, SqT K H a xs ∧ xs.length = i

theorem turnE {P : Program} {w : World} {K : PySem.W.Frag} {elts : List Expr} {kk : Nat} {tpos : Pos} (a e it : Addr) (hai : a ≠ it) (hea : e ≠ a) :
    Turn P w K (.Tuple elts kk tpos) (ItE K a) [e, it] e
      (fun i h => (∃ old, IsEnum h e it ((i : Nat) : Int) old) ∧ h.IsTupleIter it a i ∧ e ≠ it) where
  mem := List.mem_cons_self
  obj := by
    rintro i h ⟨⟨old, he⟩, ⟨o, ho, _, hd⟩, _⟩ b hb
    rcases List.mem_cons.mp hb with rfl | hb
    · exact ⟨_, he, fun v q => nomatch q⟩
    · obtain rfl := List.mem_singleton.mp hb
      exact ⟨o, ho, fun v q => by rw [hd] at q; cases q⟩
  keep := by
    rintro i h h' ⟨⟨old, he⟩, hi, hne⟩ k
    exact ⟨⟨old, k e List.mem_cons_self _ he⟩, hi.at fun o q => k it (List.mem_cons_of_mem _ List.mem_cons_self) o q, hne⟩
  item := by
    rintro X rfl rfl rfl hc i pins s σ H E I hf ⟨⟨old, he⟩, hit, hne⟩ ⟨xs, x, hq, hx⟩
    obtain ⟨its, rv, p, hz⟩ := I.tuple hq
    obtain ⟨u, hu, ru⟩ := rv.get hx
    have hel : e < s.heap.objs.size := Heap.lt_size he
    have hil : it < s.heap.objs.size := by
      obtain ⟨_, q, _⟩ := hit
      exact Heap.lt_size q
    have hlt : i < its.toArray.size := by
      have := (List.getElem?_eq_some_iff.mp hu).1
      simpa using this
    have D := Draws.tuple (prog := X.prog) (w := X.w) (A := X.A.in1) (I.ok.hd hc) it a hai its.toArray
    refine wpAny_pyNext_enum_itemD D he ⟨hit, p⟩ hlt hne (by simp [hne, hea]) fun y h' tk hy ho hit' hT hsz hk => ?_
    have yu : y = u := by
      have hy' : its[i]? = some y := by simpa using hy
      rw [hu] at hy'
      exact (Option.some.inj hy').symm
    subst yu
    refine ⟨_, rfl, wpAny_letOwnedTupleGo_enum (s := { s with heap := h', toks := tk + 1 }) ho fun h'' he' sb => ?_⟩
    have hT2 : h''.get? s.heap.objs.size = some { cls := .type "tuple", data := .seq #[.int i tk, y] } := (sb.2 _ (Nat.ne_of_gt hel)).trans hT
    have new : ObjOk X.prog X.w (upd H s.heap.objs.size (.tup [.int (i : Nat), x])) h'' s.heap.objs.size (.tup [.int (i : Nat), x]) :=
      ⟨(by decide : 2 ≤ sizeLine), [.int i tk, y], .cons ⟨_, rfl⟩ (.cons ru .nil), ⟨_, hT2, rfl, _, rfl⟩⟩
    have nin : ∀ b, b ∉ [e, it] → b ≠ e ∧ b ≠ it := fun b hb => ⟨fun z => hb (z ▸ List.mem_cons_self), fun z => hb (z ▸ List.mem_cons_of_mem _ List.mem_cons_self)⟩
    have I1 : Inv X pins σ (upd H s.heap.objs.size (.tup [.int (i : Nat), x])) { s with heap := h'', toks := tk + 1 } :=
      I.turnedNew (ch := [e, it]) (fun b ob hb q => (sb.2 b (nin b hb).1).trans (hk b ob (nin b hb).1 (nin b hb).2 q)) hf (Nat.le_refl _) new
    refine ⟨.ref s.heap.objs.size, _, I1, rfl, ⟨_, x, rfl, I.hok.fresh (Nat.le_refl _), rfl, fun ys hy2 => by rw [I.tuple_inj hy2 hq]; exact hx⟩, ⟨⟨y, ?_⟩, hit'.1.at fun o q => (sb.2 it (Ne.symm hne)).trans q, hne⟩, fun b hb => ?_⟩
    · have e1 : ((i + 1 : Nat) : Int) = (i : Int) + 1 := by omega
      rw [e1]
      exact he'
    · have hb' : b < s.heap.objs.size := by
        rcases List.mem_cons.mp hb with rfl | hb
        · exact hel
        · obtain rfl := List.mem_singleton.mp hb
          exact hil
      rw [upd_ne (Nat.ne_of_lt hb')]
      exact (hf b hb).1
  done := by
    rintro X rfl rfl rfl hc i pins s σ H E I hf ⟨⟨old, he⟩, hit, hne⟩ ⟨xs, hq, hx⟩
    obtain ⟨its, rv, p, hz⟩ := I.tuple hq
    have D := Draws.tuple (prog := X.prog) (w := X.w) (A := X.A.in1) (I.ok.hd hc) it a hai its.toArray
    obtain ⟨f0, f1, f2, f3, f4, f5⟩ := hf it (List.mem_cons_of_mem _ List.mem_cons_self)
    have hl := rv.length
    have e1 : i = its.toArray.size := by simp only [List.size_toArray]; omega
    refine wpAny_pyNext_enum_endD D he (e1 ▸ ⟨hit, p⟩) fun h' eb => ⟨rfl, I.turned (t' := s.toks) (fun b o hb q => eb b o hb q) f0 f1 f3 f4 f5⟩
  self := by
    rintro A i s Q E ⟨⟨_, he⟩, _⟩ h
    exact wpAny_pyIter_enum he h

def iEnumT (K : PySem.W.Frag) (ta : TA) : TI := fun σ H R => ta σ H fun vs H1 => ∃ a xs, vs = [.ref a] ∧ SqT K H1 a xs ∧ R (ItE K a) H1
theorem pi_enumT {X : Cx} {e : Expr} {ta : TA} {p pos tpos : Pos} {elts : List Expr} {kk : Nat} (hg : Gl X "enumerate") (hm : X.mg "enumerate" = none) (ha : PA X [e] ta)
    (hs : starEach [e] X.env = [(false, eval e X.env)] := by rfl) : PI X (.Tuple elts kk tpos) (.Call (.Name "enumerate" p) [e] [] pos) (iEnumT X.K ta) := by
  refine ⟨fun pins s σ H R I h => ?_⟩
  refine Call_ (ld_blt I hg hm boot_enumerate (PyProof.Rows.callWith_type1 (thn (ha.run pos pins s σ H _ I h) ?_) hs rfl))
  rintro us s1 ⟨vs, H1, I1, r1, a, xs, rfl, hq, q⟩
  obtain ⟨u, rfl, ru⟩ := vals1 r1
  cases ru
  obtain ⟨its, rv, p', hz⟩ := I1.tuple hq
  have hal : a < s1.heap.objs.size := by
    obtain ⟨_, q, _⟩ := p'
    exact Heap.lt_size q
  refine enumCall (begins_tuple a its.toArray) p' fun h' he hit hk => wpAny_pyIter_enum he ?_
  have I2 : Inv X pins σ H1 { s1 with heap := h' } := I1.kept (t' := s1.toks) hk
  refine ⟨s1.heap.objs.size + 1, [s1.heap.objs.size + 1, s1.heap.objs.size], _, _, H1, rfl, I2,
    turnE a (s1.heap.objs.size + 1) s1.heap.objs.size (Nat.ne_of_lt hal) (Nat.ne_of_gt (Nat.lt_succ_of_lt hal)),
    ⟨⟨.none, he⟩, ⟨_, hit, rfl, rfl⟩, Nat.succ_ne_self _⟩, fun b hb => ?_, q⟩
  have hle : s1.heap.objs.size ≤ b := by
    rcases List.mem_cons.mp hb with rfl | hb
    · exact Nat.le_succ _
    · exact Nat.le_of_eq (List.mem_singleton.mp hb).symm
  exact I1.fpOk hle (I1.hok.fresh hle)
theorem walkE {K : PySem.W.Frag} {a : Addr} {xs : List V} : Walk (ItE K a) xs.length (fun H => SqT K H a xs) (YPair (fun i => some (.int (i : Nat))) (fun i => xs[i]?)) where
  goes := fun i H hi h => ⟨xs, xs[i], h, by simp [hi]⟩
  stops := fun H h => ⟨xs, h, rfl⟩
  yields := by
    rintro i H x H' hi h ⟨T, y, rfl, hn, rfl, k⟩
    exact ⟨T, _, y, rfl, hn, rfl, rfl, k xs h⟩
end Rw

/-! a tuple, once or more often -/
namespace Rw
open PySem PySem.Spec PyProof.Rows L2
theorem tupOnce (l : Addr) (items : Array Value) (n : Nat) (dd : Option Addr) (sl : Array (Option Value)) (u : Tok) :
    Meets (Builtin.«tuple.__mul__» ⟨[.ref l, .int 1 u], []⟩) (fun _ R s =>
      s.heap.get? l = some ⟨.type "tuple", dd, .seq items n, sl⟩ ∧ R (.ok (.ret (Value.ref l))) s) :=
  .of_wp fun prog w A R s both => by
    obtain ⟨hp, g, d, tk, os⟩ := s
    obtain ⟨at1, both⟩ := both
    have i1 := AutoSeq1.idx_int
    have c1 : (items.isEmpty || (1 : Int) == 1) = true := by simp
    wp_walk using wpAny_loadPart' at1
    repeat (first
      | (refine wpAny_ite_true (decide_eq_true c1) ?_; wp_walk using wpAny_loadPart' at1)
      | (refine wpAny_ite_false (decide_eq_false (by decide)) ?_; wp_walk using wpAny_loadPart' at1))
    exact ⟨_, rfl, both⟩

section
variable {X : Cx}
/-- t * k, t not empty, k at least 1: some tuple of the items k times -/
def rRepA (K : PySem.W.Frag) : R2 := fun x y H Q => ∃ l k xs, x = .ref l ∧ y = .int k ∧ SqT K H l xs ∧ xs ≠ [] ∧ 1 ≤ k ∧ k ≤ 1000 ∧ xs.length ≤ 1000 ∧
  ∀ q H', Same H H' → SqT K H' q (List.replicate k.toNat xs).flatten → Q (.ref q) H'
theorem opRepA (K : PySem.W.Frag) (e : X.K = K := by rfl) : OpR X (binaryOp .Mult) (rRepA K) := by
  subst e
  rintro pins s σ H x y v u Q I rx ry ⟨l, k, xs, rfl, rfl, hT, hne, h1, h2, hz, q⟩
  by_cases hk : k = 1
  · subst hk
    cases rx
    obtain ⟨t, rfl⟩ := ry
    obtain ⟨its, r, ⟨⟨cls, dd, data, sl⟩, ho, hc, n, hd⟩, hs⟩ := I.tuple hT
    simp only at hc hd
    subst hc hd
    refine wpAny_binaryOp_repeat_ref (T := "tuple") (U := "int") (by decide) ⟨_, ho, rfl⟩ (fun s' => typeIs_int s' 1 t) noFill_tuple_mul F.fills_int_mul F.slot_int_rmul repeat_tuple F.slot_int_index.lookup
      (call_meets F.slot_int_rmul (typeIs_int s 1 t) F.entry_int_rmul (F.args_int_rmul_2 _ _) (int_rmul_tuple 1 t l its.toArray n dd sl)
        ⟨ho, rfl, ⟨_, ho, rfl⟩, call_meets F.slot_tuple_mul ⟨_, ho, rfl⟩ F.entry_tuple_mul (F.args_tuple_mul_2 _ _) (tupOnce l its.toArray n dd sl t) ⟨ho, ?_⟩⟩)
    refine ⟨.ref l, H, I, rfl, q l H (Same.refl _) ?_⟩
    simpa using hT
  · exact op_repT pins s σ H _ _ v u Q I rx ry ⟨l, k, xs, rfl, rfl, hT, hne, by omega, h2, hz, fun p hp => q p _ (Same.new hp) (.inl (.inl upd_same))⟩
end
end Rw

/-! set(a tuple of ints), its length -/
namespace Rw
open PySem PySem.Spec PyProof.Rows L2
section
variable {X : Cx}
/-- how many unlike ones -/
def Card (ns : List Int) (c : Nat) : Prop := ∃ l : List Int, l.Nodup ∧ (∀ k, k ∈ l ↔ k ∈ ns) ∧ l.length = c
def rSetT (K : PySem.W.Frag) (w : World) : List V → Hp → VK → Prop := fun xs H Q => ∃ (p : Addr) (ns : List Int), xs = [.ref p] ∧ SqT K H p (ns.map V.int) ∧ ns.length ≤ 1000 ∧
  ∀ q c, H q = none → c ≤ ns.length → Card ns c → Q (.ref q) (upd H q (SetO w q (fun j => decide (j ∈ ns)) c))
theorem cr_setT (hc : X.calm = true) : CallR X (.type "set") (rSetT X.K X.w) := by
  rintro pins s σ H xs us Q I r ⟨p, ns, rfl, hS, hn, q⟩
  obtain ⟨u, rfl, ru⟩ := vals1 r
  cases ru
  obtain ⟨its, rv, pt, hz⟩ := I.tuple hS
  have hi : IntsAre its.toArray.toList ns := ints_of_vals rv
  refine call_set_tupI ns (I.ok.hd hc) (show s.heap.IsTuple p its.toArray from pt) hi (by unfold scanBound; omega) fun h' tk c R hcn k => ?_
  have nw : H s.heap.objs.size = none := I.hok.fresh (Nat.le_refl _)
  have cd : Card ns c := by
    obtain ⟨o, es, ep, t, ho, hex, hdt, g, nd, hm, hb, hf, hsz, _⟩ := R
    refine ⟨es.toList.map keyOf, nd, fun j => ?_, ?_⟩
    · rw [← hm j, decide_eq_true_eq]
    · rw [List.length_map, Array.length_toList, hsz]
  exact ⟨.ref s.heap.objs.size, _, I.laid (t' := tk) k (Nat.le_refl _) (setO_new R), rfl, q _ c nw hcn cd⟩
theorem cr_lenSet : CallR X (.builtin "len") (fun xs H Q => ∃ (a : Addr) (S : Int → Bool) (n : Nat), xs = [.ref a] ∧ H a = some (SetO X.w a S n) ∧ n ≤ 1000 ∧ Q (.int n) H) := by
  rintro pins s σ H xs us Q I r ⟨a, S, n, rfl, ha, hn, q⟩
  obtain ⟨u, rfl, ru⟩ := vals1 r
  cases ru
  obtain ⟨o, es, ep, t, ho, hex, hdt, g, nd, hm, hb, hf, hsz, _⟩ := setO_get I ha
  subst hsz
  exact PySem.call_len_set ho hex hdt hf (by omega) ⟨.int es.size, H, I.tok _, ⟨_, rfl⟩, q⟩
end
end Rw

/-! a lambda with parameters that captures nothing: made, handed on, called -/
namespace Rw
open PySem PySem.Spec PyProof.Rows L2
open LamX (Tabs TabS TabB ExtN CodeO codeO_ne inv_table among_app)
theorem clo_nil {cells : List (Str × Addr)} : ∀ {names : List (Str × NameKind)} {acc : List (Str × Addr)}, (∀ y ∈ names, y.2 ≠ .free) → cloFrom cells names acc = acc
  | [], _, _ => rfl
  | (n, k) :: r, acc, h => by
    have hk : k ≠ .free := h (n, k) List.mem_cons_self
    have e : (k == NameKind.free) = false := by cases k <;> first | rfl | exact absurd rfl hk
    unfold cloFrom
    rw [e]
    exact clo_nil fun y hy => h y (List.mem_cons_of_mem _ hy)
/-- the object of the lambda at f is o -/
def LamO (f : Addr) (o : Obj) : HO := .ext fun h => h.get? f = some o
theorem lamO_ne {f : Addr} {o : Obj} (ps : Array Value) : LamO f o ≠ .tbl ps := fun z => by
  unfold LamO at z
  cases z
theorem lamO_at {P : Program} {w : World} {H : Hp} {h : Heap} {f : Addr} {o : Obj} (k : HOk P w H h) (e : H f = some (LamO f o)) : h.get? f = some o := (k f _ e).1
/-- what a lambda's making asks and gives -/
def tLamV (T : List (Addr × Str)) (q : Str) (params : Arguments) (body : Expr) (scope : Scope) : TE := fun _ H Q => Tabs T H ∧ ∀ (f c' : Addr) (pm ctv : Value) (H1 : Hp), ExtN H H1 → Tabs T H1 → H1 f = none → H1 c' = some (CodeO c' q) →
  Q (.ref f) (upd H1 f (LamO f (PySem.W.kla_obj "<lambda>" q params body scope [] pm c' ctv)))
/-- a table with one code object more -/
def moreAt (H : Hp) (P c : Addr) (q : Str) (ps : Array Value) (pos : Pos) : Hp := upd (upd H P (.tbl (ps ++ #[rawInt pos.line, rawInt pos.col, .ref c]))) c (CodeO c q)
theorem more_ext {H : Hp} {P c : Addr} {q : Str} {ps : Array Value} {pos : Pos} (hP : H P = some (.tbl ps)) (new : H c = none) : ExtN H (moreAt H P c q ps pos) := by
  intro b o e keep
  have bP : b ≠ P := by
    rintro rfl
    exact keep ps (Option.some.inj (e.symm.trans hP))
  show upd (upd H P _) c _ b = some o
  rw [upd_ne (ne_of_none e new), upd_ne bP, e]
theorem more_tabs {T : List (Addr × Str)} {H : Hp} {P c : Addr} {q : Str} {ps : Array Value} {pos : Pos} (known : Tabs T H) (hP : H P = some (.tbl ps)) (new : H c = none) (tri : TriplesOk ps.toList)
    (among : ∀ (pos : Pos) (cv : Value), codeAmong pos ps.toList = some cv → ∃ c, cv = .ref c ∧ H c = some (CodeO c q)) (one : ∀ p ∈ T, p.1 = P → p.2 = q) : Tabs T (moreAt H P c q ps pos) := by
  have x := more_ext (q := q) (pos := pos) hP new
  rintro ⟨B, r⟩ mem
  obtain ⟨qs, atB, triB, amB⟩ := known _ mem
  by_cases same : B = P
  · cases same
    obtain rfl : r = q := one _ mem rfl
    refine ⟨ps ++ #[rawInt pos.line, rawInt pos.col, .ref c], (upd_ne (ne_of_none hP new)).trans upd_same, ?_, ?_⟩
    · simpa using PySem.TriplesOk_snoc _ _ _ _ tri
    · intro p2 cv hit
      have hit2 : codeAmong p2 (ps.toList ++ [rawInt pos.line, rawInt pos.col, .ref c]) = some cv := by simpa using hit
      rcases among_app _ tri hit2 with old | rfl
      · obtain ⟨d, rfl, at_⟩ := among _ _ old
        exact ⟨d, rfl, x _ _ at_ codeO_ne⟩
      · exact ⟨c, rfl, upd_same⟩
  · refine ⟨qs, ?_, triB, fun p2 cv hit => ?_⟩
    · show upd (upd H P _) c _ B = some (.tbl qs)
      rw [upd_ne (ne_of_none atB new), upd_ne same]
      exact atB
    · obtain ⟨d, rfl, at_⟩ := amB _ _ hit
      exact ⟨d, rfl, x _ _ at_ codeO_ne⟩
section
variable {X : Cx}
/-- a function object put behind the heap is told -/
theorem inv_fun {pins : List (Addr × Obj)} {σ : L2.St} {H : Hp} {s : Shared} {h : Heap} {tk : Nat} {o : Obj} (I : Inv X pins σ H s) (grown : ∀ b u, s.heap.get? b = some u → h.get? b = some u) (far : s.heap.objs.size ≤ h.objs.size) (alive : o.isFreed = false) :
    Inv X pins σ (upd H h.objs.size (LamO h.objs.size o)) { s with heap := h.push o, toks := tk } := by
  have there : (h.push o).get? h.objs.size = some o := Heap.get?_push_size _ alive
  exact I.laid (fun b u e => Heap.get?_push_of_some _ (grown b u e)) far ⟨there, ⟨o, there⟩, fun _ _ old st => st _ old⟩
theorem pe_lamV {T : List (Addr × Str)} {c P : Addr} {params : Arguments} {body : Expr} {scope : Scope} {pos : Pos} (TB : TabB X.base X.mg c P) (hcode : X.env.code = .ref c) (hm : (P, X.env.qual ++ "<lambda>") ∈ T)
    (hu : ∀ p ∈ T, p.1 = P → p.2 = X.env.qual ++ "<lambda>") (hdef : defaultsOf params X.env = ([], [])) (hnf : ∀ y ∈ scope.names, y.2 ≠ .free) :
    PE X (.Lambda params body scope pos) (tLamV T (X.env.qual ++ "<lambda>") params body scope) := by
  constructor
  rintro pins s σ H Q I ⟨known, go⟩
  have none_free : cloFrom X.env.cells scope.names [] = [] := clo_nil hnf
  have clos := closure_ok (scope := scope) (env := X.env) fun y hy e => absurd e (hnf y hy)
  rw [none_free] at clos
  obtain ⟨ps, atP, tri, among⟩ := known _ hm
  have heapP := I.hok _ _ atP
  have code := TB.code.keeps I.bk
  have blt := TB.bm.keeps I.bk
  have glob := I.mod.glob.keeps I.bk
  apply PySem.W.kla_eval hdef
  rcases hc : codeAmong pos ps.toList with _ | cv
  · refine PySem.W.kla_makeFunction clos I.ok.glob glob hcode code heapP tri hc TB.gP blt ?_
    intro d ctv h tk but lo hi rec_ tab
    obtain ⟨d', oc, vs, t, same, at_, fields, name⟩ := rec_
    cases same
    have new : H d = none := I.hok.fresh lo
    have J := inv_table (t' := tk) I atP but tab lo ⟨oc, vs, t, at_, fields, name⟩
    exact ⟨.ref h.objs.size, _, inv_fun (s := { s with heap := h, toks := tk }) (h := h) (tk := tk) J (fun _ _ e => e) (Nat.le_refl _) rfl, rfl, go _ d _ ctv _ (more_ext atP new) (more_tabs known atP new tri among hu) J.fresh upd_same⟩
  · obtain ⟨d, rfl, at_⟩ := among _ _ hc
    refine PySem.W.kla_makeFunctionHit clos I.ok.glob glob hcode code heapP tri hc blt ?_
    intro ctv h tk grown far
    exact ⟨.ref h.objs.size, _, inv_fun (h := h) (tk := tk) I grown far rfl, rfl, go _ d _ ctv H (LamX.ExtN.refl H) known (I.hok.fresh far) at_⟩
end
/-- the promise of a lambda's body -/
structure LamOk (P : Program) (w : World) (K : PySem.W.Frag) (mg : Str → Option Value) (base : Heap) (k : Nat) (q : Str) (params : Arguments) (body : Expr) (scope : Scope) (ps : List Str) (sp : Sp) : Prop where
  run : ∀ (A : Around) (outer : List Env) (s : Shared) (H : Hp) (f c' : Addr) (pm ctv : Value) (us : List Value) (vs : List V) (Q : VK), Room k A → Env0 P w K mg base A outer s H → H f = some (LamO f (PySem.W.kla_obj "<lambda>" q params body scope [] pm c' ctv)) → H c' = some (CodeO c' q) →
    Vals vs us → vs.length = ps.length → sp vs H Q L2.E0 → codeAny (model P w) A (.call (.ref f) ⟨us, []⟩) (CR L2.CX0 outer P w H s Q L2.E0) s
theorem lam_ok {P : Program} {w : World} {K : PySem.W.Frag} {mg : Str → Option Value} {base : Heap} {k : Nat} {q : Str} {params : Arguments} {body : Expr} {scope : Scope} {N ps : List Str} {sp : Sp} (S : FnScope N ps scope)
    (hbind : ∀ (pm cv ctv : Value) (us : List Value), us.length = ps.length → bindArgs (PySem.W.kla_fn "<lambda>" q params body scope [] pm cv ctv) ⟨us, []⟩ = pure (ps.zip us))
    (hbody : ∀ (A : Around) (outer : List Env) (s : Shared) (H : Hp) (f c' : Addr) (vs : List V) (Q : VK), Room k (A.deeper (envOfC q scope s.heap.objs.size f (.ref c'))) → sp vs H Q L2.E0 →
      ∃ t, PE (cxOf L2.CX0 P w K mg base N q scope f (.ref c') A outer s H L2.E0) body t ∧ t (L2.start N vs) H Q) : LamOk P w K mg base (k + 1) q params body scope ps sp := by
  constructor
  intro A outer s H f c' pm ctv us vs Q hr e0 hf hc r hl h
  have lenU : us.length = ps.length := r.length ▸ hl
  obtain ⟨⟨oc, vc, t, atC, fields, name⟩, _⟩ := e0.hok c' _ hc
  refine PySem.W.kla_callFunE hr.depth (lamO_at e0.hok hf) rfl S.co S.gen rfl ⟨c', oc, vc, t, rfl, atC, fields, name⟩ ?_
  rw [hbind _ _ _ us lenU]
  apply wpAny_pure
  refine wpAny_newFunctionEnv_cells S.kind (fun y hy => ?_) (fun env he s1 x => ?_)
  · have mem := (List.of_mem_zip (show (y.1, y.2) ∈ ps.zip us from hy)).1
    exact (S.par _ mem).imp id fun cell => ⟨cell, PySem.W.cellsFrom_some _ _ _ (.inl cell)⟩
  · subst he
    have roomy : s.heap.NoLimit := e0.mod.nolimit.keeps fun b u e => (e0.bs b u e).1
    obtain ⟨tb, body, reads⟩ := hbody A outer s H f c' vs Q (hr.deeper _) h
    have I := inv_start (CX := L2.CX0) (P := P) (w := w) (K := K) (mg := mg) (base := base) (f := f) (cd := .ref c') (E := L2.E0) S hr.hd e0 hl r x
    refine ⟨roomy.keeps x.toInCall.keep, PySem.W.kla_codeExpr (wpAny_mono (body.run _ _ _ _ _ I reads) ?_ fun _ _ z => z)⟩
    rintro v s2 ⟨u, H2, J, rel, goal⟩
    exact ⟨u, H2, J.os, J.bare, J.base, J.hok, rel, goal⟩
/-- a(e, ..), a a name that holds a lambda -/
def tLCall (P : Program) (w : World) (K : PySem.W.Frag) (mg : Str → Option Value) (base : Heap) (k i : Nat) (t : TA) : TE := fun σ H Q => ∃ f o, σ[i]? = some (some (.ref f)) ∧ (∃ fd, o = ⟨.type "function", none, .func fd, #[]⟩) ∧ H f = some (LamO f o) ∧ t σ H fun vs H1 =>
  ∃ q params body scope pm c' ctv ps sp, H1 f = some (LamO f (PySem.W.kla_obj "<lambda>" q params body scope [] pm c' ctv)) ∧ H1 c' = some (CodeO c' q) ∧ LamOk P w K mg base k q params body scope ps sp ∧ vs.length = ps.length ∧ sp vs H1 Q L2.E0
theorem pe_lcall {X : Cx} {k j i : Nat} {a : Str} {e : Expr} {es : List Expr} {t : TA} {p1 p2 : Pos} (hr : Room j X.A) (hk : k ≤ j) (hN : X.N[i]? = some a) (hv : Vis X.env.scope a) (ha : PA X (e :: es) t)
    (hd : (a == ("__debug__" : Str)) = false := by decide) (hcd : (a == ("__classdict__" : Str)) = false := by decide)
    (he : starEach (e :: es) X.env = (false, eval e X.env) :: starEach es X.env := by rfl) (hpl : (backTo p2 (starEach es X.env)).any (·.1) = false := by rfl) :
    PE X (.Call (.Name a p1) (e :: es) [] p2) (tLCall X.prog X.w X.K X.mg X.base k i t) := by
  constructor
  rintro pins s σ H Q I ⟨f, o, hs, ⟨fd, rfl⟩, hf, h⟩
  have name := (pe_var (pos := p1) (i := i) hN hv hd hcd).run pins s σ H (fun v H1 => v = .ref f ∧ H1 = H) I ⟨.ref f, hs, rfl, rfl⟩
  refine wpAny_Call_Name_kw (thn name ?_)
  rintro u s1 ⟨_, _, I1, rel, rfl, rfl⟩
  cases (show u = Value.ref f from rel)
  refine PySem.W.callWith_F ⟨_, _, _, _, lamO_at I1.hok hf⟩ (thn (ha.run p2 pins s1 σ _ _ I1 h) ?_) he hpl
  rintro us s2 ⟨vs, H2, I2, r, q', params, body, scope, pm, c', ctv, ps, sp, at2, code2, L, len, prom⟩
  refine ⟨⟨_, _, _, _, lamO_at I2.hok at2⟩, wpAny_call (codeAny_mono (L.run X.A X.stack s2 H2 f c' pm ctv us vs Q (hr.mono hk) I2.env0 at2 code2 r len prom) ?_)⟩
  rintro (e | fl) s3 z
  · exact absurd z id
  · cases fl <;> first | exact I2.after z | exact absurd z id
end Rw

/-! data without addresses, what a heap holds of it, states -/
namespace Fx
open PySem PySem.Spec PyProof.Rows L2
open LamX (Tabs TabS TabB ExtN CodeO codeO_ne)

/-- a value without the heap -/
inductive D where
  | non | bl (b : Bool) | int (i : Int) | str (s : Str) | ty (n : String)
  | tup (ds : List D) | lst (ds : List D) | ins (c : String) (ds : List D) | dct (ks vs : List D) | scr (ns : List Int) | fn (k : Nat)
/-- what a name holds: a value that stays, or a cell that this def alone may change (b: its place, where it is an argument's) -/
inductive S where
  | d (x : D) | o (b : Option Nat) (x : D)
  /-- a dict whose values are lists that this def alone may change -/
  | q (ks : List D) (dss : List (List D))
structure Err where
  cls : String
  fs : List D
abbrev En := List (Option S)
inductive Out (α : Type) where
  | ok (a : α) (ρ : En) | err (e : Err) (ρ : En) | stuck
def M (α : Type) := En → Out α
def Out.then {α β : Type} : Out α → (α → En → Out β) → Out β
  | .ok a ρ, f => f a ρ
  | .err e ρ, _ => .err e ρ
  | .stuck, _ => .stuck
@[reducible] def M.bind {α β : Type} (m : M α) (f : α → M β) : M β := fun ρ => (m ρ).then f
instance : Monad M where
  pure a := fun ρ => .ok a ρ
  bind := M.bind
theorem pure_def {α : Type} (a : α) (ρ : En) : (pure a : M α) ρ = .ok a ρ := rfl
theorem bind_def {α β : Type} (m : M α) (f : α → M β) (ρ : En) : (m >>= f) ρ = (m ρ).then f := rfl
def fail {α : Type} : M α := fun _ => .stuck
def lift {α : Type} : Option α → M α
  | some a => pure a
  | none => fail

/-- a lambda of the text: its full name, its parameters, body and scope -/
structure LamS where
  q : Str
  params : Arguments
  body : Expr
  scope : Scope
/-- what a law's context knows: the written part, the classes, their fields, the tables of code objects -/
structure Cfg where
  K : PySem.W.Frag
  cls : String → Addr
  flds : String → List Str
  T : List (Addr × Str)
  err : Err → Value → Option Addr → Hp → Prop
  fns : Nat → LamS

/-- the key of a datum -/
def keyD : Key → D
  | .inl i => .int i
  | .inr x => .str x
mutual
inductive Rp (c : Cfg) (G : Hp) : V → D → Prop
  | non : Rp c G .non .non
  | bl (b : Bool) : Rp c G (.bl b) (.bl b)
  | int (i : Int) : Rp c G (.int i) (.int i)
  | str (s : Str) : Rp c G (.str s) (.str s)
  | ty (n : String) : Rp c G (.ty n) (.ty n)
  | tup {a : Addr} {vs : List V} {ds : List D} : SqT c.K G a vs → RpAll c G vs ds → Rp c G (.ref a) (.tup ds)
  | lst {a : Addr} {vs : List V} {ds : List D} : G a = some (.lst vs) → RpAll c G vs ds → Rp c G (.ref a) (.lst ds)
  | scr {a : Addr} {ns : List Int} : SqL c.K G a (ns.map V.int) → Rp c G (.ref a) (.scr ns)
  | ins {a dx : Addr} {n : String} {fs : List (Str × V)} {ds : List D} : G a = some (.ins (c.cls n) dx fs) → fs.map (·.1) = c.flds n → RpAll c G (fs.map (·.2)) ds → Rp c G (.ref a) (.ins n ds)
  | dct {a : Addr} {kvs : List (Key × V)} {vs : List D} : G a = some (.dK kvs) → RpAll c G (kvs.map (·.2)) vs → Rp c G (.ref a) (.dct (kvs.map fun p => keyD p.1) vs)
  | fn {f c' : Addr} {k : Nat} {pm ctv : Value} : G f = some (Rw.LamO f (PySem.W.kla_obj "<lambda>" (c.fns k).q (c.fns k).params (c.fns k).body (c.fns k).scope [] pm c' ctv)) → G c' = some (CodeO c' (c.fns k).q) → Rp c G (.ref f) (.fn k)
inductive RpAll (c : Cfg) (G : Hp) : List V → List D → Prop
  | nil : RpAll c G [] []
  | cons {v : V} {d : D} {vs : List V} {ds : List D} : Rp c G v d → RpAll c G vs ds → RpAll c G (v :: vs) (d :: ds)
end
/-- what stands at a changing cell -/
def Cell (c : Cfg) (G H : Hp) (a : Addr) : D → Prop
  | .lst ds => ∃ vs, H a = some (.lst vs) ∧ RpAll c G vs ds
  | .ins n ds => ∃ dx fs, H a = some (.ins (c.cls n) dx fs) ∧ fs.map (·.1) = (c.flds n).take ds.length ∧ RpAll c G (fs.map (·.2)) ds
  | .dct ks ds => ∃ kvs, H a = some (.dK kvs) ∧ ks = kvs.map (fun p => keyD p.1) ∧ RpAll c G (kvs.map (·.2)) ds
  | _ => False
abbrev Owns := List Addr
/-- lists that may be changed, at their places -/
inductive LsAll (c : Cfg) (G H : Hp) : List Addr → List (List D) → Prop
  | nil : LsAll c G H [] []
  | cons {b : Addr} {us : List V} {ds : List D} {bs : List Addr} {dss : List (List D)} : H b = some (.lst us) → RpAll c G us ds → LsAll c G H bs dss → LsAll c G H (b :: bs) (ds :: dss)
/-- a dict of such lists at a; os: all that is owned -/
def QCell (c : Cfg) (G H : Hp) (a : Addr) (ks : List D) (dss : List (List D)) (os : Owns) : Prop :=
  ∃ (kvs : List (Key × V)) (bs : List Addr), os = a :: bs ∧ H a = some (.dK kvs) ∧ ks = kvs.map (fun p => keyD p.1) ∧ kvs.map (·.2) = bs.map V.ref ∧ LsAll c G H bs dss
/-- where the cells of a def's arguments stand -/
structure Base where
  at_ : Nat → Option Addr
inductive Sl (c : Cfg) (B : Base) (G H : Hp) : En → List (Option V) → Owns → Prop
  | nil : Sl c B G H [] [] []
  | skip {v : Option V} {es : En} {vs : List (Option V)} {own : Owns} : Sl c B G H es vs own → Sl c B G H (none :: es) (v :: vs) own
  | d {v : V} {x : D} {es : En} {vs : List (Option V)} {own : Owns} : Rp c G v x → Sl c B G H es vs own → Sl c B G H (some (.d x) :: es) (some v :: vs) own
  | o {a : Addr} {b : Option Nat} {x : D} {es : En} {vs : List (Option V)} {own : Owns} : Cell c G H a x → (∀ p, b = some p → B.at_ p = some a) → Sl c B G H es vs own → Sl c B G H (some (.o b x) :: es) (some (.ref a) :: vs) (a :: own)
  | q {a : Addr} {ks : List D} {dss : List (List D)} {es : En} {vs : List (Option V)} {os own : Owns} : QCell c G H a ks dss os → Sl c B G H es vs own → Sl c B G H (some (.q ks dss) :: es) (some (.ref a) :: vs) (os ++ own)
def isTbl : HO → Bool
  | .tbl _ => true
  | _ => false
structure OkB (c : Cfg) (B : Base) (G H : Hp) (own : Owns) : Prop where
  sub : ∀ a o, G a = some o → H a = some o
  notbl : ∀ a o, G a = some o → isTbl o = false
  nd : own.Nodup
  out : ∀ p ∈ own, G p = none ∧ H p ≠ none
  tabs : Tabs c.T H
def Rep (c : Cfg) (B : Base) (ts : En) (vs : List (Option V)) (ρ : En) (σ : L2.St) (H : Hp) : Prop :=
  ∃ G o1 o2, OkB c B G H (o1 ++ o2) ∧ Sl c B G H ts vs o1 ∧ Sl c B G H ρ σ o2

section
variable {c : Cfg} {B : Base} {G G' H H' : Hp}
mutual
theorem Rp.mono (s : ∀ a o, G a = some o → G' a = some o) : ∀ {v : V} {d : D}, Rp c G v d → Rp c G' v d
  | _, _, .non => .non
  | _, _, .bl b => .bl b
  | _, _, .int i => .int i
  | _, _, .str x => .str x
  | _, _, .ty n => .ty n
  | _, _, .tup h k => .tup (by
      rcases h with (h | ⟨o, h⟩) | h
      · exact .inl (.inl (s _ _ h))
      · exact .inl (.inr ⟨o, s _ _ h⟩)
      · exact .inr h) (RpAll.mono s k)
  | _, _, .lst h k => .lst (s _ _ h) (RpAll.mono s k)
  | _, _, .scr h => .scr (Same.seq s h)
  | _, _, .ins h n k => .ins (s _ _ h) n (RpAll.mono s k)
  | _, _, .dct h k => .dct (s _ _ h) (RpAll.mono s k)
  | _, _, .fn h k => .fn (s _ _ h) (s _ _ k)
theorem RpAll.mono (s : ∀ a o, G a = some o → G' a = some o) : ∀ {vs : List V} {ds : List D}, RpAll c G vs ds → RpAll c G' vs ds
  | _, _, .nil => .nil
  | _, _, .cons h k => .cons (Rp.mono s h) (RpAll.mono s k)
end
theorem RpAll.length : ∀ {vs : List V} {ds : List D}, RpAll c G vs ds → vs.length = ds.length
  | _, _, .nil => rfl
  | _, _, .cons _ k => by rw [List.length_cons, List.length_cons, RpAll.length k]
theorem RpAll.get : ∀ {vs : List V} {ds : List D} {i : Nat} {d : D}, RpAll c G vs ds → ds[i]? = some d → ∃ v, vs[i]? = some v ∧ Rp c G v d
  | _, _, _, _, .nil, e => by simp at e
  | _, _, 0, _, .cons h _, e => by simp at e; subst e; exact ⟨_, rfl, h⟩
  | _, _, i + 1, _, .cons _ k, e => by
    obtain ⟨v, e1, e2⟩ := RpAll.get (i := i) k (by simpa using e)
    exact ⟨v, by simpa using e1, e2⟩
theorem RpAll.getV : ∀ {vs : List V} {ds : List D} {i : Nat} {v : V}, RpAll c G vs ds → vs[i]? = some v → ∃ d, ds[i]? = some d ∧ Rp c G v d
  | _, _, _, _, .nil, e => by simp at e
  | _, _, 0, _, .cons h _, e => by simp at e; subst e; exact ⟨_, rfl, h⟩
  | _, _, i + 1, _, .cons _ k, e => by
    obtain ⟨d, e1, e2⟩ := RpAll.getV (i := i) k (by simpa using e)
    exact ⟨d, by simpa using e1, e2⟩
theorem RpAll.app : ∀ {vs ws : List V} {ds es : List D}, RpAll c G vs ds → RpAll c G ws es → RpAll c G (vs ++ ws) (ds ++ es)
  | _, _, _, _, .nil, q => q
  | _, _, _, _, .cons h k, q => .cons h (RpAll.app k q)
theorem RpAll.take : ∀ {vs : List V} {ds : List D} (n : Nat), RpAll c G vs ds → RpAll c G (vs.take n) (ds.take n)
  | _, _, 0, _ => by simp only [List.take_zero]; exact .nil
  | _, _, _ + 1, .nil => .nil
  | _, _, n + 1, .cons h k => .cons h (RpAll.take n k)
theorem RpAll.drop : ∀ {vs : List V} {ds : List D} (n : Nat), RpAll c G vs ds → RpAll c G (vs.drop n) (ds.drop n)
  | _, _, 0, h => h
  | _, _, _ + 1, .nil => .nil
  | _, _, n + 1, .cons _ k => RpAll.drop n k
theorem RpAll.set : ∀ {vs : List V} {ds : List D} (i : Nat) {v : V} {d : D}, RpAll c G vs ds → Rp c G v d → RpAll c G (vs.set i v) (ds.set i d)
  | _, _, _, _, _, .nil, _ => .nil
  | _, _, 0, _, _, .cons _ k, q => .cons q k
  | _, _, i + 1, _, _, .cons h k, q => .cons h (RpAll.set i k q)
theorem RpAll.snoc {vs : List V} {ds : List D} {v : V} {d : D} (h : RpAll c G vs ds) (q : Rp c G v d) : RpAll c G (vs ++ [v]) (ds ++ [d]) := h.app (.cons q .nil)
theorem RpAll.of : ∀ {vs : List V} {ds : List D}, vs.length = ds.length → (∀ (i : Nat) (v : V), vs[i]? = some v → ∃ d, ds[i]? = some d ∧ Rp c G v d) → RpAll c G vs ds
  | [], [], _, _ => .nil
  | [], _ :: _, e, _ => by simp at e
  | _ :: _, [], e, _ => by simp at e
  | v :: vs, d :: ds, e, h => by
    obtain ⟨d', e1, h1⟩ := h 0 v rfl
    cases e1
    exact .cons h1 (RpAll.of (by simpa using e) fun i w hw => h (i + 1) w hw)
theorem RpAll.rev {vs : List V} {ds : List D} (h : RpAll c G vs ds) : RpAll c G vs.reverse ds.reverse := by
  refine .of (by simp [h.length]) fun i v e => ?_
  have hi : i < vs.length := by
    have := (List.getElem?_eq_some_iff.mp e).1
    simpa using this
  rw [List.getElem?_reverse hi] at e
  obtain ⟨d, e1, e2⟩ := h.getV e
  refine ⟨d, ?_, e2⟩
  rw [List.getElem?_reverse (by rw [← h.length]; exact hi), ← h.length]
  exact e1
theorem Cell.mono (s : ∀ a o, G a = some o → G' a = some o) {a : Addr} (e : H' a = H a) : ∀ {x : D}, Cell c G H a x → Cell c G' H' a x
  | .lst ds, ⟨vs, h, k⟩ => ⟨vs, e.trans h, k.mono s⟩
  | .ins n ds, ⟨dx, fs, h, hn, k⟩ => ⟨dx, fs, e.trans h, hn, k.mono s⟩
  | .dct ks ds, ⟨kvs, h, hk, k⟩ => ⟨kvs, e.trans h, hk, k.mono s⟩
theorem LsAll.mono (s : ∀ a o, G a = some o → G' a = some o) : ∀ {bs : List Addr} {dss : List (List D)}, (∀ p ∈ bs, H' p = H p) → LsAll c G H bs dss → LsAll c G' H' bs dss
  | _, _, _, .nil => .nil
  | _, _, e, .cons h k l => .cons ((e _ List.mem_cons_self).trans h) (k.mono s) (LsAll.mono s (fun p hp => e p (List.mem_cons_of_mem _ hp)) l)
theorem QCell.mono (s : ∀ a o, G a = some o → G' a = some o) {a : Addr} {ks : List D} {dss : List (List D)} {os : Owns} (e : ∀ p ∈ os, H' p = H p) (h : QCell c G H a ks dss os) : QCell c G' H' a ks dss os := by
  obtain ⟨kvs, bs, rfl, h1, h2, h3, h4⟩ := h
  exact ⟨kvs, bs, rfl, (e _ List.mem_cons_self).trans h1, h2, h3, h4.mono s fun p hp => e p (List.mem_cons_of_mem _ hp)⟩
theorem nodup_sub {os own own' : Owns} (nd : (os ++ own).Nodup) (h : ∀ p ∈ own', p ∈ own) (n : own'.Nodup) : (os ++ own').Nodup := by
  rw [List.nodup_append] at nd ⊢
  exact ⟨nd.1, n, fun x hx y hy => nd.2.2 x hx y (h y hy)⟩
theorem Sl.mono (s : ∀ a o, G a = some o → G' a = some o) : ∀ {es : En} {vs : List (Option V)} {own : Owns}, (∀ p ∈ own, H' p = H p) → Sl c B G H es vs own → Sl c B G' H' es vs own
  | _, _, _, _, .nil => .nil
  | _, _, _, e, .skip k => .skip (Sl.mono s e k)
  | _, _, _, e, .d h k => .d (h.mono s) (Sl.mono s e k)
  | _, _, _, e, .o h hb k => .o (h.mono s (e _ List.mem_cons_self)) hb (Sl.mono s (fun p hp => e p (List.mem_cons_of_mem _ hp)) k)
  | _, _, _, e, .q h k => .q (h.mono s fun p hp => e p (List.mem_append_left _ hp)) (Sl.mono s (fun p hp => e p (List.mem_append_right _ hp)) k)
theorem Sl.length : ∀ {es : En} {vs : List (Option V)} {own : Owns}, Sl c B G H es vs own → es.length = vs.length
  | _, _, _, .nil => rfl
  | _, _, _, .skip k => by rw [List.length_cons, List.length_cons, Sl.length k]
  | _, _, _, .d _ k => by rw [List.length_cons, List.length_cons, Sl.length k]
  | _, _, _, .o _ _ k => by rw [List.length_cons, List.length_cons, Sl.length k]
  | _, _, _, .q _ k => by rw [List.length_cons, List.length_cons, Sl.length k]
theorem Sl.getD : ∀ {es : En} {vs : List (Option V)} {own : Owns} {i : Nat} {x : D}, Sl c B G H es vs own → es[i]? = some (some (.d x)) → ∃ v, vs[i]? = some (some v) ∧ Rp c G v x
  | _, _, _, _, _, .nil, e => by simp at e
  | _, _, _, 0, _, .skip k, e => by simp at e
  | _, _, _, 0, _, .d h k, e => by simp at e; subst e; exact ⟨_, rfl, h⟩
  | _, _, _, 0, _, .o h _ k, e => by simp at e
  | _, _, _, i + 1, _, .skip k, e => Sl.getD (i := i) k (by simpa using e)
  | _, _, _, i + 1, _, .d h k, e => Sl.getD (i := i) k (by simpa using e)
  | _, _, _, i + 1, _, .o h _ k, e => Sl.getD (i := i) k (by simpa using e)
  | _, _, _, 0, _, .q h k, e => by simp at e
  | _, _, _, i + 1, _, .q _ k, e => Sl.getD (i := i) k (by simpa using e)
theorem Sl.getO : ∀ {es : En} {vs : List (Option V)} {own : Owns} {i : Nat} {b : Option Nat} {x : D}, Sl c B G H es vs own → es[i]? = some (some (.o b x)) → ∃ a, vs[i]? = some (some (.ref a)) ∧ Cell c G H a x ∧ a ∈ own ∧ ∀ p, b = some p → B.at_ p = some a
  | _, _, _, _, _, _, .nil, e => by simp at e
  | _, _, _, 0, _, _, .skip k, e => by simp at e
  | _, _, _, 0, _, _, .d h k, e => by simp at e
  | _, _, _, 0, _, _, .o h hb k, e => by simp at e; obtain ⟨rfl, rfl⟩ := e; exact ⟨_, rfl, h, List.mem_cons_self, hb⟩
  | _, _, _, i + 1, _, _, .skip k, e => Sl.getO (i := i) k (by simpa using e)
  | _, _, _, i + 1, _, _, .d h k, e => Sl.getO (i := i) k (by simpa using e)
  | _, _, _, i + 1, _, _, .o h _ k, e => by
    obtain ⟨a, h1, h2, h3, h4⟩ := Sl.getO (i := i) k (by simpa using e)
    exact ⟨a, h1, h2, List.mem_cons_of_mem _ h3, h4⟩
  | _, _, _, 0, _, _, .q h k, e => by simp at e
  | _, _, _, i + 1, _, _, .q _ k, e => by
    obtain ⟨a, h1, h2, h3, h4⟩ := Sl.getO (i := i) k (by simpa using e)
    exact ⟨a, h1, h2, List.mem_append_right _ h3, h4⟩
/-- one entry: its owned cell, if it has one -/
inductive En1 (c : Cfg) (B : Base) (G H : Hp) : S → V → Owns → Prop
  | d {v : V} {x : D} : Rp c G v x → En1 c B G H (.d x) v []
  | o {a : Addr} {b : Option Nat} {x : D} : Cell c G H a x → (∀ p, b = some p → B.at_ p = some a) → En1 c B G H (.o b x) (.ref a) [a]
  | q {a : Addr} {ks : List D} {dss : List (List D)} {os : Owns} : QCell c G H a ks dss os → En1 c B G H (.q ks dss) (.ref a) os
theorem Sl.one {s : S} {v : V} {os : Owns} {es : En} {vs : List (Option V)} {own : Owns} (h : En1 c B G H s v os) (k : Sl c B G H es vs own) : Sl c B G H (some s :: es) (some v :: vs) (os ++ own) := by
  cases h with
  | d h => exact .d h k
  | o h hb => exact .o h hb k
  | q h => exact .q h k
theorem Sl.unone {s : S} {v : Option V} {es : En} {vs : List (Option V)} {own : Owns} (k : Sl c B G H (some s :: es) (v :: vs) own) : ∃ w os own', v = some w ∧ En1 c B G H s w os ∧ own = os ++ own' ∧ Sl c B G H es vs own' := by
  cases k with
  | d h k => exact ⟨_, [], _, rfl, .d h, rfl, k⟩
  | o h hb k => exact ⟨_, [_], _, rfl, .o h hb, rfl, k⟩
  | q h k => exact ⟨_, _, _, rfl, .q h, rfl, k⟩
/-- a slot is set to an entry -/
theorem Sl.set : ∀ {es : En} {vs : List (Option V)} {own : Owns} (i : Nat) {s : S} {v : V} {os : Owns}, Sl c B G H es vs own → En1 c B G H s v os →
    ∃ own', Sl c B G H (es.set i (some s)) (vs.set i (some v)) own' ∧ (∀ p ∈ own', p ∈ os ∨ p ∈ own) ∧ ((os ++ own).Nodup → own'.Nodup)
  | _, _, _, _, _, _, os, .nil, _ => ⟨[], .nil, fun _ h => by simp at h, fun _ => by simp⟩
  | _, _, own, 0, _, _, os, .skip k, e => ⟨os ++ own, Sl.one e k, fun p hp => List.mem_append.mp hp, id⟩
  | _, _, own, 0, _, _, os, .d _ k, e => ⟨os ++ own, Sl.one e k, fun p hp => List.mem_append.mp hp, id⟩
  | _, _, a :: own, 0, _, _, os, .o _ _ k, e => ⟨os ++ own, Sl.one e k, fun p hp => (List.mem_append.mp hp).imp id (List.mem_cons_of_mem _), fun nd => nd.sublist (List.Sublist.append_left (List.sublist_cons_self _ _) _)⟩
  | _, _, _, i + 1, _, _, os, .skip k, e => by
    obtain ⟨own', h1, h2, h3⟩ := Sl.set i k e
    exact ⟨own', .skip h1, h2, h3⟩
  | _, _, _, i + 1, _, _, os, .d h k, e => by
    obtain ⟨own', h1, h2, h3⟩ := Sl.set i k e
    exact ⟨own', .d h h1, h2, h3⟩
  | _, _, a :: own, i + 1, _, _, os, .o h hb k, e => by
    obtain ⟨own', h1, h2, h3⟩ := Sl.set i k e
    refine ⟨a :: own', .o h hb h1, fun p hp => ?_, fun nd => ?_⟩
    · rcases List.mem_cons.mp hp with rfl | hp
      · exact .inr List.mem_cons_self
      · exact (h2 p hp).imp id (List.mem_cons_of_mem _)
    · rw [List.nodup_append] at nd
      obtain ⟨n1, n2, n3⟩ := nd
      obtain ⟨n4, n5⟩ := List.nodup_cons.mp n2
      rw [List.nodup_cons]
      refine ⟨fun hm => ?_, h3 ?_⟩
      · rcases h2 a hm with q | q
        · exact n3 a q a List.mem_cons_self rfl
        · exact n4 q
      · rw [List.nodup_append]
        exact ⟨n1, n5, fun x hx y hy => n3 x hx y (List.mem_cons_of_mem _ hy)⟩
  | _, _, _, 0, _, _, os, @Sl.q _ _ _ _ _ _ _ _ _ qs own _ k, e => ⟨os ++ own, Sl.one e k, fun p hp => (List.mem_append.mp hp).imp id (List.mem_append_right _), fun nd => nd.sublist (List.Sublist.append_left (List.sublist_append_right _ _) _)⟩
  | _, _, _, i + 1, _, _, os, @Sl.q _ _ _ _ _ _ _ _ _ qs own h k, e => by
    obtain ⟨own', h1, h2, h3⟩ := Sl.set i k e
    refine ⟨qs ++ own', .q h h1, fun p hp => ?_, fun nd => ?_⟩
    · rcases List.mem_append.mp hp with hp | hp
      · exact .inr (List.mem_append_left _ hp)
      · exact (h2 p hp).imp id (List.mem_append_right _)
    · rw [List.nodup_append] at nd
      obtain ⟨n1, n2, n3⟩ := nd
      rw [List.nodup_append] at n2 ⊢
      obtain ⟨n4, n5, n6⟩ := n2
      refine ⟨n4, h3 ?_, fun x hx y hy => ?_⟩
      · rw [List.nodup_append]
        exact ⟨n1, n5, fun x hx y hy => n3 x hx y (List.mem_append_right _ hy)⟩
      · rcases h2 y hy with z | z
        · exact fun e => n3 y z x (List.mem_append_left _ hx) e.symm
        · exact n6 x hx y z
/-- a slot is forgotten -/
theorem Sl.forget : ∀ {es : En} {vs : List (Option V)} {own : Owns} (i : Nat) (w : Option V), Sl c B G H es vs own →
    ∃ own', Sl c B G H (es.set i none) (vs.set i w) own' ∧ (∀ p ∈ own', p ∈ own) ∧ (own.Nodup → own'.Nodup)
  | _, _, _, _, _, .nil => ⟨[], .nil, fun _ h => h, id⟩
  | _, _, own, 0, _, .skip k => ⟨own, .skip k, fun _ h => h, id⟩
  | _, _, own, 0, _, .d _ k => ⟨own, .skip k, fun _ h => h, id⟩
  | _, _, a :: own, 0, _, .o _ _ k => ⟨own, .skip k, fun p hp => List.mem_cons_of_mem _ hp, fun nd => (List.nodup_cons.mp nd).2⟩
  | _, _, _, i + 1, w, .skip k => by
    obtain ⟨own', h1, h2, h3⟩ := Sl.forget i w k
    exact ⟨own', .skip h1, h2, h3⟩
  | _, _, _, i + 1, w, .d h k => by
    obtain ⟨own', h1, h2, h3⟩ := Sl.forget i w k
    exact ⟨own', .d h h1, h2, h3⟩
  | _, _, a :: own, i + 1, w, .o h hb k => by
    obtain ⟨own', h1, h2, h3⟩ := Sl.forget i w k
    refine ⟨a :: own', .o h hb h1, fun p hp => ?_, fun nd => ?_⟩
    · rcases List.mem_cons.mp hp with rfl | hp
      · exact List.mem_cons_self
      · exact List.mem_cons_of_mem _ (h2 p hp)
    · rw [List.nodup_cons] at nd ⊢
      exact ⟨fun hm => nd.1 (h2 a hm), h3 nd.2⟩
  | _, _, _, 0, _, @Sl.q _ _ _ _ _ _ _ _ _ qs own _ k => ⟨own, .skip k, fun p hp => List.mem_append_right _ hp, fun nd => (List.nodup_append.mp nd).2.1⟩
  | _, _, _, i + 1, w, @Sl.q _ _ _ _ _ _ _ _ _ qs own h k => by
    obtain ⟨own', h1, h2, h3⟩ := Sl.forget i w k
    refine ⟨qs ++ own', .q h h1, fun p hp => ?_, fun nd => nodup_sub nd h2 (h3 (List.nodup_append.mp nd).2.1)⟩
    rcases List.mem_append.mp hp with hp | hp
    · exact List.mem_append_left _ hp
    · exact List.mem_append_right _ (h2 p hp)
end
section
variable {c : Cfg} {B : Base} {G H H' : Hp} {own own' : Owns} {ts : En} {vs : List (Option V)} {ρ : En} {σ : L2.St}
theorem OkB.subO (k : OkB c B G H own) (h1 : ∀ p ∈ own', p ∈ own) (h2 : own'.Nodup) : OkB c B G H own' := ⟨k.sub, k.notbl, h2, fun p hp => k.out p (h1 p hp), k.tabs⟩
theorem isTbl_false {o : HO} (h : isTbl o = false) (ps : Array Value) : o ≠ .tbl ps := fun z => by
  rw [z] at h
  cases h
theorem tabs_new {T : List (Addr × Str)} {p : Addr} {o : HO} (t : Tabs T H) (hp : H p = none) : Tabs T (upd H p o) := fun q hq => by
  obtain ⟨ps, h1, h2, h3⟩ := t q hq
  refine ⟨ps, by rw [upd_ne (ne_of_none h1 hp)]; exact h1, h2, fun pos cv e => ?_⟩
  obtain ⟨cc, e1, e2⟩ := h3 pos cv e
  exact ⟨cc, e1, by rw [upd_ne (ne_of_none e2 hp)]; exact e2⟩
/-- a cell that is no table and no code object is written -/
def isCell : HO → Bool
  | .lst _ => true
  | .ins _ _ _ => true
  | .dK _ => true
  | _ => false
theorem tabs_put {T : List (Addr × Str)} {p : Addr} {u o : HO} (t : Tabs T H) (hp : H p = some u) (n : isCell u = true) : Tabs T (upd H p o) := fun q hq => by
  obtain ⟨ps, h1, h2, h3⟩ := t q hq
  refine ⟨ps, ?_, h2, fun pos cv e => ?_⟩
  · have : q.1 ≠ p := fun z => by
      rw [z, hp] at h1
      cases h1
      cases n
    rw [upd_ne this]
    exact h1
  · obtain ⟨cc, e1, e2⟩ := h3 pos cv e
    refine ⟨cc, e1, ?_⟩
    have : cc ≠ p := fun z => by
      rw [z, hp] at e2
      have e2 := Option.some.inj e2
      rw [e2] at n
      unfold CodeO at n
      cases n
    rw [upd_ne this]
    exact e2
theorem OkB.gnone (k : OkB c B G H own) {p : Addr} (hp : H p = none) : G p = none := by
  cases e : G p with
  | none => rfl
  | some o =>
    rw [k.sub p o e] at hp
    cases hp
theorem OkB.alloc (k : OkB c B G H own) {p : Addr} {o : HO} (hp : H p = none) (ho : isTbl o = false) : OkB c B (upd G p o) (upd H p o) own := by
  have gp := k.gnone hp
  refine ⟨fun a u e => ?_, fun a u e => ?_, k.nd, fun q hq => ?_, tabs_new k.tabs hp⟩
  · by_cases ha : a = p
    · subst ha
      rw [upd_same] at e ⊢
      exact e
    · rw [upd_ne ha] at e ⊢
      exact k.sub a u e
  · by_cases ha : a = p
    · subst ha
      rw [upd_same] at e
      cases e
      exact ho
    · rw [upd_ne ha] at e
      exact k.notbl a u e
  · obtain ⟨h1, h2⟩ := k.out q hq
    have ha : q ≠ p := fun z => h2 (by rw [z]; exact hp)
    rw [upd_ne ha, upd_ne ha]
    exact ⟨h1, h2⟩
/-- a new cell that may be changed -/
theorem OkB.allocO (k : OkB c B G H own) {p : Addr} {o : HO} (hp : H p = none) : OkB c B G (upd H p o) (p :: own) := by
  have gp := k.gnone hp
  refine ⟨fun a u e => ?_, k.notbl, ?_, fun q hq => ?_, tabs_new k.tabs hp⟩
  · have ha : a ≠ p := fun z => by rw [z, gp] at e; cases e
    rw [upd_ne ha]
    exact k.sub a u e
  · rw [List.nodup_cons]
    exact ⟨fun hm => (k.out p hm).2 hp, k.nd⟩
  · rcases List.mem_cons.mp hq with rfl | hq
    · exact ⟨gp, by rw [upd_same]; simp⟩
    · obtain ⟨h1, h2⟩ := k.out q hq
      have ha : q ≠ p := fun z => h2 (by rw [z]; exact hp)
      rw [upd_ne ha]
      exact ⟨h1, h2⟩
/-- an owned cell stays from here on -/
theorem OkB.freeze {p : Addr} {o : HO} (k : OkB c B G H own) (hp : p ∈ own) (e : H p = some o) (ho : isTbl o = false) (h1 : ∀ q ∈ own', q ∈ own ∧ q ≠ p) (h2 : own'.Nodup) : OkB c B (upd G p o) H own' := by
  obtain ⟨gp, _⟩ := k.out _ hp
  refine ⟨fun a u e' => ?_, fun a u e' => ?_, h2, fun q hq => ?_, k.tabs⟩
  · by_cases ha : a = p
    · subst ha
      rw [upd_same] at e'
      rw [e, ← e']
    · rw [upd_ne ha] at e'
      exact k.sub a u e'
  · by_cases ha : a = p
    · subst ha
      rw [upd_same] at e'
      cases e'
      exact ho
    · rw [upd_ne ha] at e'
      exact k.notbl a u e'
  · obtain ⟨m, ne⟩ := h1 q hq
    obtain ⟨h1, h2⟩ := k.out q m
    rw [upd_ne ne]
    exact ⟨h1, h2⟩
/-- an owned cell is written -/
theorem OkB.write {p : Addr} {u o : HO} (k : OkB c B G H own) (hp : p ∈ own) (e : H p = some u) (hu : isCell u = true) : OkB c B G (upd H p o) own := by
  obtain ⟨gp, _⟩ := k.out _ hp
  refine ⟨fun a u' e' => ?_, k.notbl, k.nd, fun q hq => ?_, tabs_put k.tabs e hu⟩
  · have ha : a ≠ p := fun z => by rw [z, gp] at e'; cases e'
    rw [upd_ne ha]
    exact k.sub a u' e'
  · obtain ⟨h1, h2⟩ := k.out q hq
    refine ⟨h1, ?_⟩
    by_cases ha : q = p
    · rw [ha, upd_same]
      simp
    · rw [upd_ne ha]
      exact h2
end
end Fx

/-! what a reading makes of a state -/
namespace Fx
open PySem PySem.Spec PyProof.Rows L2
open LamX (Tabs TabS TabB ExtN CodeO codeO_ne)

/-- data that wait, the last one first -/
abbrev tmp (ds : List D) : En := ds.reverse.map fun x => some (S.d x)
abbrev tmv (us : List V) : List (Option V) := us.reverse.map some
section
variable {c : Cfg} {B : Base} {G H H' : Hp} {own own' : Owns} {ts : En} {vs : List (Option V)} {ρ : En} {σ : L2.St}
theorem Sl.tmpR : ∀ {ds : List D} {us : List V} {own : Owns}, us.length = ds.length → Sl c B G H (ds.map (fun x => some (S.d x)) ++ ts) (us.map some ++ vs) own → RpAll c G us ds ∧ Sl c B G H ts vs own
  | [], [], _, _, h => ⟨.nil, h⟩
  | [], _ :: _, _, e, _ => by simp at e
  | _ :: _, [], _, e, _ => by simp at e
  | x :: ds, u :: us, _, e, h => by
    cases h with
    | d h k =>
      obtain ⟨h1, h2⟩ := Sl.tmpR (by simpa using e) k
      exact ⟨.cons h h1, h2⟩
theorem Sl.tmp {ds : List D} {us : List V} (e : us.length = ds.length) (h : Sl c B G H (tmp ds ++ ts) (tmv us ++ vs) own) : RpAll c G us ds ∧ Sl c B G H ts vs own := by
  obtain ⟨h1, h2⟩ := Sl.tmpR (by simpa using e) h
  refine ⟨?_, h2⟩
  have := h1.rev
  simpa using this
theorem upd_sub {p : Addr} {o : HO} (h : G p = none) : ∀ a u, G a = some u → upd G p o a = some u := fun a u e => by
  rw [upd_ne (ne_of_none e h)]
  exact e
/-- the owned cells stay behind a new object -/
theorem own_new {p : Addr} {o : HO} (k : OkB c B G H own) (hp : H p = none) : ∀ q ∈ own, upd H p o q = H q := fun q hq => by
  have ha : q ≠ p := fun z => (k.out q hq).2 (by rw [z]; exact hp)
  rw [upd_ne ha]
/-- a new object of what waits -/
theorem Rep.new {ds : List D} {us : List V} {p : Addr} {o : HO} {x : D} (r : Rep c B (tmp ds ++ ts) (tmv us ++ vs) ρ σ H) (hl : us.length = ds.length) (hp : H p = none) (ho : isTbl o = false) (hx : ∀ G', G' p = some o → RpAll c G' us ds → Rp c G' (.ref p) x) :
    Rep c B (some (.d x) :: ts) (some (.ref p) :: vs) ρ σ (upd H p o) := by
  obtain ⟨G, o1, o2, k, h1, h2⟩ := r
  obtain ⟨a1, a2⟩ := h1.tmp hl
  have gp := k.gnone hp
  have ow := own_new (o := o) k hp
  exact ⟨upd G p o, o1, o2, k.alloc hp ho, .d (hx _ upd_same (a1.mono (upd_sub gp))) (a2.mono (upd_sub gp) fun q hq => ow q (List.mem_append_left _ hq)), h2.mono (upd_sub gp) fun q hq => ow q (List.mem_append_right _ hq)⟩
theorem Rep.newO {ds : List D} {us : List V} {p : Addr} {o : HO} {x : D} (r : Rep c B (tmp ds ++ ts) (tmv us ++ vs) ρ σ H) (hl : us.length = ds.length) (hp : H p = none) (hx : ∀ G H', H' p = some o → RpAll c G us ds → Cell c G H' p x) :
    Rep c B (some (.o none x) :: ts) (some (.ref p) :: vs) ρ σ (upd H p o) := by
  obtain ⟨G, o1, o2, k, h1, h2⟩ := r
  obtain ⟨a1, a2⟩ := h1.tmp hl
  have ow := own_new (o := o) k hp
  refine ⟨G, p :: o1, o2, k.allocO hp, .o (hx _ _ upd_same a1) (fun _ e => nomatch e) (a2.mono (fun _ _ e => e) fun q hq => ow q (List.mem_append_left _ hq)), h2.mono (fun _ _ e => e) fun q hq => ow q (List.mem_append_right _ hq)⟩
/-- what waits gives a value, the heap as it is -/
theorem Rep.repl {ds : List D} {us : List V} {v : V} {x : D} (r : Rep c B (tmp ds ++ ts) (tmv us ++ vs) ρ σ H) (hl : us.length = ds.length) (hx : ∀ G, RpAll c G us ds → Rp c G v x) : Rep c B (some (.d x) :: ts) (some v :: vs) ρ σ H := by
  obtain ⟨G, o1, o2, k, h1, h2⟩ := r
  obtain ⟨a1, a2⟩ := h1.tmp hl
  exact ⟨G, o1, o2, k, .d (hx _ a1) a2, h2⟩
/-- what may be read of what waits -/
theorem Rep.read {ds : List D} {us : List V} (r : Rep c B (tmp ds ++ ts) (tmv us ++ vs) ρ σ H) (hl : us.length = ds.length) : ∃ G, (∀ a o, G a = some o → H a = some o) ∧ RpAll c G us ds := by
  obtain ⟨G, o1, o2, k, h1, h2⟩ := r
  exact ⟨G, k.sub, (h1.tmp hl).1⟩
theorem Rep.drop {s : Option S} {v : Option V} (r : Rep c B (s :: ts) (v :: vs) ρ σ H) : Rep c B ts vs ρ σ H := by
  obtain ⟨G, o1, o2, k, h1, h2⟩ := r
  cases h1 with
  | skip h => exact ⟨G, _, o2, k, h, h2⟩
  | d _ h => exact ⟨G, _, o2, k, h, h2⟩
  | o _ _ h =>
    refine ⟨G, _, o2, k.subO (fun p hp => List.mem_cons_of_mem _ hp) ?_, h, h2⟩
    have := k.nd
    rw [List.cons_append, List.nodup_cons] at this
    exact this.2
  | q _ h =>
    refine ⟨G, _, o2, k.subO (fun p hp => ?_) ?_, h, h2⟩
    · rw [List.append_assoc]
      exact List.mem_append_right _ hp
    · have := k.nd
      rw [List.append_assoc] at this
      exact (List.nodup_append.mp this).2.1
theorem Rep.dropN {ds : List D} {us : List V} (hl : us.length = ds.length) (r : Rep c B (tmp ds ++ ts) (tmv us ++ vs) ρ σ H) : Rep c B ts vs ρ σ H := by
  obtain ⟨G, o1, o2, k, h1, h2⟩ := r
  exact ⟨G, o1, o2, k, (h1.tmp hl).2, h2⟩
def canFz : D → Bool
  | .lst _ => true
  | .dct _ _ => true
  | _ => false
theorem Cell.fz {a : Addr} : ∀ {x : D}, canFz x = true → Cell c G H a x → ∃ o, H a = some o ∧ isTbl o = false ∧ ∀ G', (∀ b u, G b = some u → G' b = some u) → G' a = some o → Rp c G' (.ref a) x
  | .lst ds, _, ⟨vs, h, k⟩ => ⟨_, h, rfl, fun G' s e => .lst e (k.mono s)⟩
  | .dct ks ds, _, ⟨kvs, h, hk, k⟩ => ⟨_, h, rfl, fun G' s e => by rw [hk]; exact .dct e (k.mono s)⟩
/-- a new cell stays from here on -/
theorem Rep.fz {x : D} {v : V} (hx : canFz x = true) (r : Rep c B (some (.o none x) :: ts) (some v :: vs) ρ σ H) : Rep c B (some (.d x) :: ts) (some v :: vs) ρ σ H := by
  obtain ⟨G, o1, o2, k, h1, h2⟩ := r
  cases h1 with
  | @o a _ _ _ _ own hc hb h =>
    obtain ⟨o, e, ho, f⟩ := hc.fz hx
    have nd := k.nd
    rw [List.cons_append, List.nodup_cons] at nd
    have gp := (k.out _ (List.mem_append_left _ List.mem_cons_self)).1
    exact ⟨upd G a o, own, o2, k.freeze (List.mem_append_left _ List.mem_cons_self) e ho (fun q hq => ⟨List.mem_cons_of_mem _ hq, fun z => nd.1 (z ▸ hq)⟩) nd.2, .d (f _ (upd_sub gp) upd_same) (h.mono (upd_sub gp) fun _ _ => rfl), h2.mono (upd_sub gp) fun _ _ => rfl⟩
/-- a name's cell stays from here on -/
theorem Sl.fzAt : ∀ {es : En} {vs : List (Option V)} {own : Owns} {i : Nat} {b : Option Nat} {x : D} {a : Addr}, own.Nodup → Sl c B G H es vs own → es[i]? = some (some (.o b x)) → vs[i]? = some (some (.ref a)) → Rp c G (.ref a) x →
    ∃ own', Sl c B G H (es.set i (some (.d x))) vs own' ∧ (∀ q ∈ own', q ∈ own ∧ q ≠ a) ∧ own'.Nodup := by
  intro es
  induction es with
  | nil => intro vs own i b x a _ _ e; simp at e
  | cons s es ih =>
    intro vs own i b x a nd h e ev hr
    cases h with
    | skip k =>
      cases i with
      | zero => simp at e
      | succ i =>
        obtain ⟨own', h1, h2, h3⟩ := ih nd k (by simpa using e) (by simpa using ev) hr
        exact ⟨own', .skip h1, h2, h3⟩
    | d hh k =>
      cases i with
      | zero => simp at e
      | succ i =>
        obtain ⟨own', h1, h2, h3⟩ := ih nd k (by simpa using e) (by simpa using ev) hr
        exact ⟨own', .d hh h1, h2, h3⟩
    | @o a' b' x' _ _ own hh hb k =>
      rw [List.nodup_cons] at nd
      cases i with
      | zero =>
        simp at e ev
        obtain ⟨rfl, rfl⟩ := e
        subst ev
        exact ⟨own, .d hr k, fun q hq => ⟨List.mem_cons_of_mem _ hq, fun z => nd.1 (z ▸ hq)⟩, nd.2⟩
      | succ i =>
        have e' : es[i]? = some (some (.o b x)) := by simpa using e
        obtain ⟨a2, e2, _, m2, _⟩ := k.getO e'
        obtain ⟨own', h1, h2, h3⟩ := ih nd.2 k e' (by simpa using ev) hr
        have ea : a2 = a := by
          have : _ = some (some (V.ref a)) := (by simpa using ev)
          rw [this] at e2
          cases e2
          rfl
        subst ea
        refine ⟨a' :: own', .o hh hb h1, fun q hq => ?_, ?_⟩
        · rcases List.mem_cons.mp hq with rfl | hq
          · exact ⟨List.mem_cons_self, fun z => nd.1 (z ▸ m2)⟩
          · exact ⟨List.mem_cons_of_mem _ (h2 q hq).1, (h2 q hq).2⟩
        · rw [List.nodup_cons]
          exact ⟨fun hm => nd.1 (h2 a' hm).1, h3⟩
    | @q a' ks' dss' _ _ qs own hh k =>
      cases i with
      | zero => simp at e
      | succ i =>
        have e' : es[i]? = some (some (.o b x)) := by simpa using e
        obtain ⟨a2, e2, _, m2, _⟩ := k.getO e'
        have n2 := (List.nodup_append.mp nd)
        obtain ⟨own', h1, h2, h3⟩ := ih n2.2.1 k e' (by simpa using ev) hr
        have ea : a2 = a := by
          have : _ = some (some (V.ref a)) := (by simpa using ev)
          rw [this] at e2
          cases e2
          rfl
        subst ea
        refine ⟨qs ++ own', .q hh h1, fun q hq => ?_, nodup_sub nd (fun p hp => (h2 p hp).1) h3⟩
        rcases List.mem_append.mp hq with hq | hq
        · exact ⟨List.mem_append_left _ hq, fun z => n2.2.2 q hq a2 m2 z⟩
        · exact ⟨List.mem_append_right _ (h2 q hq).1, (h2 q hq).2⟩
theorem Rep.fzAt {i : Nat} {b : Option Nat} {x : D} (hx : canFz x = true) (e : ρ[i]? = some (some (.o b x))) (r : Rep c B ts vs ρ σ H) : Rep c B ts vs (ρ.set i (some (.d x))) σ H := by
  obtain ⟨G, o1, o2, k, h1, h2⟩ := r
  obtain ⟨a, ev, hc, hm, _⟩ := h2.getO e
  obtain ⟨o, eo, ho, f⟩ := hc.fz hx
  have gp := (k.out _ (List.mem_append_right _ hm)).1
  have nd := k.nd
  rw [List.nodup_append] at nd
  obtain ⟨n1, n2, n3⟩ := nd
  obtain ⟨own', g1, g2, g3⟩ := (h2.mono (upd_sub (o := o) gp) (fun _ _ => rfl) (H' := H)).fzAt n2 e ev (f _ (upd_sub gp) upd_same)
  refine ⟨upd G a o, o1, own', k.freeze (List.mem_append_right _ hm) eo ho (fun q hq => ?_) ?_, h1.mono (upd_sub gp) fun _ _ => rfl, g1⟩
  · rcases List.mem_append.mp hq with hq | hq
    · exact ⟨List.mem_append_left _ hq, fun z => n3 q hq a hm z⟩
    · exact ⟨List.mem_append_right _ (g2 q hq).1, (g2 q hq).2⟩
  · rw [List.nodup_append]
    exact ⟨n1, g3, fun x hx y hy => n3 x hx y (g2 y hy).1⟩
theorem Rep.var {i : Nat} {x : D} (e : ρ[i]? = some (some (.d x))) (r : Rep c B ts vs ρ σ H) : ∃ v, σ[i]? = some (some v) ∧ Rep c B (some (.d x) :: ts) (some v :: vs) ρ σ H := by
  obtain ⟨G, o1, o2, k, h1, h2⟩ := r
  obtain ⟨v, e1, hr⟩ := h2.getD e
  exact ⟨v, e1, G, o1, o2, k, .d hr h1, h2⟩
theorem Rep.varO {i : Nat} {b : Option Nat} {x : D} (e : ρ[i]? = some (some (.o b x))) (r : Rep c B ts vs ρ σ H) : ∃ a, σ[i]? = some (some (.ref a)) ∧ ∃ G, (∀ a o, G a = some o → H a = some o) ∧ Cell c G H a x := by
  obtain ⟨G, o1, o2, k, h1, h2⟩ := r
  obtain ⟨a, e1, hr, _⟩ := h2.getO e
  exact ⟨a, e1, G, k.sub, hr⟩
theorem Sl.getQ : ∀ {es : En} {vs : List (Option V)} {own : Owns} {i : Nat} {ks : List D} {dss : List (List D)}, Sl c B G H es vs own → es[i]? = some (some (.q ks dss)) → ∃ a os, vs[i]? = some (some (.ref a)) ∧ QCell c G H a ks dss os ∧ ∀ p ∈ os, p ∈ own
  | _, _, _, _, _, _, .nil, e => by simp at e
  | _, _, _, 0, _, _, .skip k, e => by simp at e
  | _, _, _, 0, _, _, .d h k, e => by simp at e
  | _, _, _, 0, _, _, .o h _ k, e => by simp at e
  | _, _, _, 0, _, _, .q h k, e => by simp at e; obtain ⟨rfl, rfl⟩ := e; exact ⟨_, _, rfl, h, fun p hp => List.mem_append_left _ hp⟩
  | _, _, _, i + 1, _, _, .skip k, e => Sl.getQ (i := i) k (by simpa using e)
  | _, _, _, i + 1, _, _, .d h k, e => Sl.getQ (i := i) k (by simpa using e)
  | _, _, _, i + 1, _, _, .o h _ k, e => by
    obtain ⟨a, os, h1, h2, h3⟩ := Sl.getQ (i := i) k (by simpa using e)
    exact ⟨a, os, h1, h2, fun p hp => List.mem_cons_of_mem _ (h3 p hp)⟩
  | _, _, _, i + 1, _, _, .q h k, e => by
    obtain ⟨a, os, h1, h2, h3⟩ := Sl.getQ (i := i) k (by simpa using e)
    exact ⟨a, os, h1, h2, fun p hp => List.mem_append_right _ (h3 p hp)⟩
theorem Rep.varQ {i : Nat} {ks : List D} {dss : List (List D)} (e : ρ[i]? = some (some (.q ks dss))) (r : Rep c B ts vs ρ σ H) : ∃ a, σ[i]? = some (some (.ref a)) ∧ ∃ G os, (∀ a o, G a = some o → H a = some o) ∧ QCell c G H a ks dss os := by
  obtain ⟨G, o1, o2, k, h1, h2⟩ := r
  obtain ⟨a, os, e1, hr, _⟩ := h2.getQ e
  exact ⟨a, e1, G, os, k.sub, hr⟩
/-- a value is stored -/
theorem Rep.set {i : Nat} {s : S} {v : V} (r : Rep c B (some s :: ts) (some v :: vs) ρ σ H) : Rep c B ts vs (ρ.set i (some s)) (σ.set i (some v)) H := by
  obtain ⟨G, o1, o2, k, h1, h2⟩ := r
  obtain ⟨w, os, o1', ew, e1, rfl, h1'⟩ := h1.unone
  cases ew
  obtain ⟨own', g1, g2, g3⟩ := h2.set i e1
  have nd := k.nd
  rw [List.append_assoc, List.nodup_append, List.nodup_append] at nd
  obtain ⟨n1, ⟨n2, n4, n5⟩, n3⟩ := nd
  refine ⟨G, o1', own', k.subO (fun p hp => ?_) ?_, h1', g1⟩
  · rcases List.mem_append.mp hp with hp | hp
    · exact List.mem_append_left _ (List.mem_append_right _ hp)
    · rcases g2 p hp with q | q
      · exact List.mem_append_left _ (List.mem_append_left _ q)
      · exact List.mem_append_right _ q
  · rw [List.nodup_append]
    refine ⟨n2, g3 ?_, fun x hx y hy z => ?_⟩
    · rw [List.nodup_append]
      exact ⟨n1, n4, fun x hx y hy => n3 x hx y (List.mem_append_right _ hy)⟩
    · rcases g2 y hy with hq | hq
      · exact n3 y hq x (List.mem_append_left _ hx) z.symm
      · exact n5 x hx y hq z
theorem Rep.forget {i : Nat} (w : Option V) (r : Rep c B ts vs ρ σ H) : Rep c B ts vs (ρ.set i none) (σ.set i w) H := by
  obtain ⟨G, o1, o2, k, h1, h2⟩ := r
  obtain ⟨own', g1, g2, g3⟩ := h2.forget i w
  have nd := k.nd
  rw [List.nodup_append] at nd
  refine ⟨G, o1, own', k.subO (fun p hp => (List.mem_append.mp hp).elim (List.mem_append_left _) fun h => List.mem_append_right _ (g2 p h)) ?_, h1, g1⟩
  rw [List.nodup_append]
  exact ⟨nd.1, g3 nd.2.1, fun x hx y hy => nd.2.2 x hx y (g2 y hy)⟩
/-- a name's cell is written -/
theorem Sl.write : ∀ {es : En} {vs : List (Option V)} {own : Owns} {i : Nat} {b : Option Nat} {x y : D} {a : Addr}, own.Nodup → Sl c B G H es vs own → es[i]? = some (some (.o b x)) → vs[i]? = some (some (.ref a)) → (∀ q, q ≠ a → H' q = H q) → Cell c G H' a y →
    Sl c B G H' (es.set i (some (.o b y))) vs own := by
  intro es
  induction es with
  | nil => intro vs own i b x y a _ _ e; simp at e
  | cons s es ih =>
    intro vs own i b x y a nd h e ev hh hc
    cases h with
    | skip k =>
      cases i with
      | zero => simp at e
      | succ i => exact .skip (ih nd k (by simpa using e) (by simpa using ev) hh hc)
    | d hr k =>
      cases i with
      | zero => simp at e
      | succ i => exact .d hr (ih nd k (by simpa using e) (by simpa using ev) hh hc)
    | @o a' b' x' _ _ own ho hb k =>
      rw [List.nodup_cons] at nd
      cases i with
      | zero =>
        simp at e ev
        obtain ⟨rfl, rfl⟩ := e
        subst ev
        exact .o hc hb (k.mono (fun _ _ e => e) fun q hq => hh _ fun z => nd.1 (z ▸ hq))
      | succ i =>
        have e' : es[i]? = some (some (.o b x)) := by simpa using e
        obtain ⟨a2, e2, _, m2, _⟩ := k.getO e'
        have ea : a2 = a := by
          have : _ = some (some (V.ref a)) := (by simpa using ev)
          rw [this] at e2
          cases e2
          rfl
        subst ea
        have na : a' ≠ a2 := fun z => nd.1 (z ▸ m2)
        exact .o (ho.mono (fun _ _ e => e) (hh _ na)) hb (ih nd.2 k e' (by simpa using ev) hh hc)
    | @q a' ks' dss' _ _ qs own ho k =>
      cases i with
      | zero => simp at e
      | succ i =>
        have e' : es[i]? = some (some (.o b x)) := by simpa using e
        obtain ⟨a2, e2, _, m2, _⟩ := k.getO e'
        have n2 := (List.nodup_append.mp nd)
        have ea : a2 = a := by
          have : _ = some (some (V.ref a)) := (by simpa using ev)
          rw [this] at e2
          cases e2
          rfl
        subst ea
        exact .q (ho.mono (fun _ _ e => e) fun p hp => hh _ fun z => n2.2.2 p hp a2 m2 z) (ih n2.2.1 k e' (by simpa using ev) hh hc)
theorem Rep.write {ds : List D} {us : List V} {i : Nat} {b : Option Nat} {x y : D} {a : Addr} {u o : HO} (e : ρ[i]? = some (some (.o b x))) (ev : σ[i]? = some (some (.ref a))) (hl : us.length = ds.length) (r : Rep c B (tmp ds ++ ts) (tmv us ++ vs) ρ σ H) (hu : H a = some u) (cu : isCell u = true)
    (hy : ∀ G H', H' a = some o → Cell c G H a x → RpAll c G us ds → Cell c G H' a y) : Rep c B ts vs (ρ.set i (some (.o b y))) σ (upd H a o) := by
  obtain ⟨G, o1, o2, k, h1, h2⟩ := r
  obtain ⟨a1, a2⟩ := h1.tmp hl
  obtain ⟨a', e1, hc, hm, _⟩ := h2.getO e
  rw [ev] at e1
  cases e1
  have nd := k.nd
  rw [List.nodup_append] at nd
  refine ⟨G, o1, o2, k.write (List.mem_append_right _ hm) hu cu, a2.mono (fun _ _ e => e) fun q hq => ?_, h2.write nd.2.1 e ev (fun q hq => upd_ne hq) (hy G _ upd_same hc a1)⟩
  exact upd_ne fun z => nd.2.2 q hq a hm z
end

/-! ### what a reading makes of a state -/
def Post {α : Type} (K : α → En → Prop) (E : Err → En → Prop) : Out α → Prop
  | .ok a ρ => K a ρ
  | .err e ρ => E e ρ
  | .stuck => False
theorem post_then {α β : Type} {K : β → En → Prop} {E : Err → En → Prop} {m : Out α} {f : α → En → Out β} : Post K E (m.then f) ↔ Post (fun a ρ => Post K E (f a ρ)) E m := by
  cases m <;> exact Iff.rfl
theorem Post.imp {α : Type} {K K' : α → En → Prop} {E E' : Err → En → Prop} {m : Out α} (h : Post K E m) (hk : ∀ a ρ, K a ρ → K' a ρ) (he : ∀ e ρ, E e ρ → E' e ρ) : Post K' E' m := by
  cases m with
  | ok a ρ => exact hk _ _ h
  | err e ρ => exact he _ _ h
  | stuck => exact h
theorem Post.imp1 {α : Type} {K K' : α → En → Prop} {E : Err → En → Prop} {m : Out α} (h : Post K E m) (hk : ∀ a ρ, K a ρ → K' a ρ) : Post K' E m := h.imp hk fun _ _ h => h
section
variable (c : Cfg) (W : WX)
/-- what is wanted of an exception -/
def ErrP (B : Base) (ts : En) (vs : List (Option V)) (σ : L2.St) (e : Err) (ρ : En) : Prop := ∀ k d H', c.err e k d H' → Rep c B ts vs ρ σ H' → W k d σ H'
def OkP (B : Base) (ts : En) (vs : List (Option V)) (σ : L2.St) (Q : VK) (s : S) (ρ : En) : Prop := ∀ v H', Rep c B (some s :: ts) (some v :: vs) ρ σ H' → Q v H'
def OkT (B : Base) (ts : En) (vs : List (Option V)) (σ : L2.St) (Q : Bool → Hp → Prop) (b : Bool) (ρ : En) : Prop := ∀ H', Rep c B ts vs ρ σ H' → Q b H'
def OkA (B : Base) (ts : En) (vs : List (Option V)) (σ : L2.St) (Q : List V → Hp → Prop) (ds : List D) (ρ : En) : Prop := ∀ us H', us.length = ds.length → Rep c B (tmp ds ++ ts) (tmv us ++ vs) ρ σ H' → Q us H'
def Den (te : TE) (f : M S) : Prop := ∀ B ts vs ρ σ H Q, Rep c B ts vs ρ σ H → Post (OkP c B ts vs σ Q) (ErrP c W B ts vs σ) (f ρ) → te σ H Q
def DenT (tt : TT) (f : M Bool) : Prop := ∀ B ts vs ρ σ H Q, Rep c B ts vs ρ σ H → Post (OkT c B ts vs σ Q) (ErrP c W B ts vs σ) (f ρ) → tt σ H Q
def DenA (ta : TA) (f : M (List D)) : Prop := ∀ B ts vs ρ σ H Q, Rep c B ts vs ρ σ H → Post (OkA c B ts vs σ Q) (ErrP c W B ts vs σ) (f ρ) → ta σ H Q
end
/-- a value that stays -/
def toD : S → Option D
  | .d x => some x
  | .o none x => if canFz x then some x else none
  | .o (some _) _ => none
  | .q _ _ => none
def dv (f : M S) : M D := fun ρ => (f ρ).then fun s ρ' => match toD s with
  | some x => .ok x ρ'
  | none => .stuck
section
variable {c : Cfg} {W : WX} {B : Base} {H : Hp} {ts : En} {vs : List (Option V)} {ρ : En} {σ : L2.St}
theorem ErrP.drop {s : Option S} {v : Option V} {e : Err} {ρ : En} (h : ErrP c W B ts vs σ e ρ) : ErrP c W B (s :: ts) (v :: vs) σ e ρ := fun k d H' he r => h k d H' he r.drop
theorem Rep.toD {s : S} {x : D} {v : V} (h : toD s = some x) (r : Rep c B (some s :: ts) (some v :: vs) ρ σ H) : Rep c B (some (.d x) :: ts) (some v :: vs) ρ σ H := by
  cases s with
  | d y => cases h; exact r
  | o b y =>
    cases b with
    | some _ => cases h
    | none =>
      have h : (if canFz y then some y else none) = some x := h
      split at h
      · rename_i hy
        cases h
        exact r.fz hy
      · cases h
  | q _ _ => cases h
theorem Den.dv {te : TE} {f : M S} {Q : VK} (h : Den c W te f) (r : Rep c B ts vs ρ σ H) (q : Post (fun x ρ' => ∀ v H', Rep c B (some (.d x) :: ts) (some v :: vs) ρ' σ H' → Q v H') (ErrP c W B ts vs σ) (dv f ρ)) : te σ H Q := by
  refine h B ts vs ρ σ H Q r ?_
  unfold Fx.dv at q
  rw [post_then] at q
  refine q.imp1 fun s ρ' p v H' r' => ?_
  split at p
  · rename_i x hx
    exact p v H' (r'.toD hx)
  · exact p.elim
end
def mVar (i : Nat) : M S := fun ρ => match ρ[i]? with
  | some (some (.d x)) => .ok (.d x) ρ
  | some (some (.o none x)) => if canFz x then .ok (.d x) (ρ.set i (some (.d x))) else .stuck
  | _ => .stuck
def mC (x : D) : M S := fun ρ => .ok (.d x) ρ
/-- a value of two, one, some -/
def mOp (g : D → D → Option S) (fa fb : M S) : M S := fun ρ => (dv fa ρ).then fun x ρ1 => (dv fb ρ1).then fun y ρ2 => match g x y with
  | some s => .ok s ρ2
  | none => .stuck
def mUn (g : D → Option S) (fa : M S) : M S := fun ρ => (dv fa ρ).then fun x ρ1 => match g x with
  | some s => .ok s ρ1
  | none => .stuck
def aNil : M (List D) := fun ρ => .ok [] ρ
def aCons (fa : M S) (fr : M (List D)) : M (List D) := fun ρ => (dv fa ρ).then fun x ρ1 => (fr ρ1).then fun ds ρ2 => .ok (x :: ds) ρ2
def mCB (g : List D → Option S) (fa : M (List D)) : M S := fun ρ => (fa ρ).then fun ds ρ1 => match g ds with
  | some s => .ok s ρ1
  | none => .stuck
/-- an operation on values does on data what g does -/
def OpDen (c : Cfg) (r : R2) (g : D → D → Option S) : Prop := ∀ (B : Base) (ts : En) (vs : List (Option V)) (ρ : En) (σ : L2.St) (H : Hp) (Q : VK) (x y : D) (v u : V) (s : S),
  Rep c B (some (.d y) :: some (.d x) :: ts) (some u :: some v :: vs) ρ σ H → g x y = some s → OkP c B ts vs σ Q s ρ → r v u H Q
def UnDen (c : Cfg) (r : V → Hp → VK → Prop) (g : D → Option S) : Prop := ∀ (B : Base) (ts : En) (vs : List (Option V)) (ρ : En) (σ : L2.St) (H : Hp) (Q : VK) (x : D) (v : V) (s : S),
  Rep c B (some (.d x) :: ts) (some v :: vs) ρ σ H → g x = some s → OkP c B ts vs σ Q s ρ → r v H Q
def CbDen (c : Cfg) (r : List V → Hp → VK → Prop) (g : List D → Option S) : Prop := ∀ (B : Base) (ts : En) (vs : List (Option V)) (ρ : En) (σ : L2.St) (H : Hp) (Q : VK) (ds : List D) (us : List V) (s : S),
  us.length = ds.length → Rep c B (tmp ds ++ ts) (tmv us ++ vs) ρ σ H → g ds = some s → OkP c B ts vs σ Q s ρ → r us H Q
section
variable {c : Cfg} {W : WX} {ta tb tc : TE} {fa fb fc : M S} {tt tu : TT} {ft fu : M Bool}
theorem den_var {i : Nat} : Den c W (tVar i) (mVar i) := by
  intro B ts vs ρ σ H Q r h
  unfold mVar at h
  split at h
  · rename_i x e
    obtain ⟨v, e1, r1⟩ := r.var e
    exact ⟨v, e1, h v H r1⟩
  · rename_i x e
    split at h
    · rename_i hx
      have r1 := r.fzAt hx e
      have hlt := (List.getElem?_eq_some_iff.mp e).1
      have e2 : (ρ.set i (some (.d x)))[i]? = some (some (.d x)) := by rw [List.getElem?_set_self hlt]
      obtain ⟨v, e1, r2⟩ := r1.var e2
      exact ⟨v, e1, h v H r2⟩
    · exact h.elim
  · exact h.elim
theorem den_c {v : V} {x : D} (hx : ∀ G, Rp c G v x) : Den c W (tC v) (mC x) := fun B ts vs ρ σ H Q r h => h v H (Rep.repl (ds := []) (us := []) r rfl fun G _ => hx G)
theorem den_op {r : R2} {g : D → D → Option S} (ho : OpDen c r g) (ha : Den c W ta fa) (hb : Den c W tb fb) : Den c W (tOp r ta tb) (mOp g fa fb) := by
  intro B ts vs ρ σ H Q rp h
  unfold mOp at h
  rw [post_then] at h
  refine ha.dv rp (h.imp1 fun x ρ1 h v H1 r1 => ?_)
  rw [post_then] at h
  refine hb.dv r1 (h.imp (fun y ρ2 h u H2 r2 => ?_) fun _ _ h => h.drop)
  split at h
  · rename_i s hs
    exact ho B ts vs ρ2 σ H2 Q x y v u s r2 hs h
  · exact h.elim
theorem den_un {r : V → Hp → VK → Prop} {g : D → Option S} (ho : UnDen c r g) (ha : Den c W ta fa) : Den c W (tUn r ta) (mUn g fa) := by
  intro B ts vs ρ σ H Q rp h
  unfold mUn at h
  rw [post_then] at h
  refine ha.dv rp (h.imp1 fun x ρ1 h v H1 r1 => ?_)
  split at h
  · rename_i s hs
    exact ho B ts vs ρ1 σ H1 Q x v s r1 hs h
  · exact h.elim
theorem den_nil : DenA c W tNil aNil := fun B ts vs ρ σ H Q r h => h [] H rfl r
theorem den_cons {tr : TA} {fr : M (List D)} (ha : Den c W ta fa) (hr : DenA c W tr fr) : DenA c W (tCons ta tr) (aCons fa fr) := by
  intro B ts vs ρ σ H Q rp h
  unfold aCons at h
  rw [post_then] at h
  refine ha.dv rp (h.imp1 fun x ρ1 h v H1 r1 => ?_)
  rw [post_then] at h
  refine hr B _ _ ρ1 σ H1 _ r1 (h.imp (fun ds ρ2 h us H2 hl r2 => ?_) fun _ _ h => h.drop)
  refine h (v :: us) H2 (by simp [hl]) ?_
  unfold tmp tmv
  rw [List.reverse_cons, List.map_append, List.reverse_cons, List.map_append, List.append_assoc, List.append_assoc]
  exact r2
theorem den_cb {r : List V → Hp → VK → Prop} {g : List D → Option S} {tA : TA} {fA : M (List D)} (ho : CbDen c r g) (ha : DenA c W tA fA) : Den c W (tCB r tA) (mCB g fA) := by
  intro B ts vs ρ σ H Q rp h
  unfold mCB at h
  rw [post_then] at h
  refine ha B ts vs ρ σ H _ rp (h.imp1 fun ds ρ1 h us H1 hl r1 => ?_)
  split at h
  · rename_i s hs
    exact ho B ts vs ρ1 σ H1 Q ds us s hl r1 hs h
  · exact h.elim
end
end Fx

/-! operations on data -/
namespace Fx
open PySem PySem.Spec PyProof.Rows L2

/-! ### data as the library has them -/
mutual
/-- plain, at most n deep -/
def pl : Nat → D → Bool
  | _, .non => true
  | _, .bl _ => true
  | _, .int _ => true
  | _, .str _ => true
  | n + 1, .tup ds => plA n ds
  | n + 1, .lst ds => plA n ds
  | _, _ => false
def plA : Nat → List D → Bool
  | _, [] => true
  | n, d :: ds => pl n d && plA n ds
end
mutual
def toP : D → PyData
  | .non => .none
  | .bl b => .bool b
  | .int i => .int i
  | .str s => .str s
  | .tup ds => .tuple (toPs ds)
  | .lst ds => .list (toPs ds)
  | _ => .none
def toPs : List D → List PyData
  | [] => []
  | d :: ds => toP d :: toPs ds
end
theorem toPs_map : ∀ ds : List D, toPs ds = ds.map toP
  | [] => by simp [toPs]
  | d :: ds => by simp [toPs, toPs_map ds]
mutual
theorem pl_plain : ∀ {n : Nat} {d : D}, pl n d = true → (toP d).plain = true ∧ (toP d).depth ≤ n
  | n, .non, h => by simp [toP, PyData.plain, PyData.depth]
  | n, .bl b, h => by simp [toP, PyData.plain, PyData.depth]
  | n, .int i, h => by simp [toP, PyData.plain, PyData.depth]
  | n, .str s, h => by simp [toP, PyData.plain, PyData.depth]
  | n + 1, .tup ds, h => by
    have h := plA_plain (n := n) (ds := ds) (by simpa [pl] using h)
    simp only [toP, PyData.plain, PyData.depth]
    exact ⟨h.1, by omega⟩
  | n + 1, .lst ds, h => by
    have h := plA_plain (n := n) (ds := ds) (by simpa [pl] using h)
    simp only [toP, PyData.plain, PyData.depth]
    exact ⟨h.1, by omega⟩
  | 0, .tup ds, h => by simp [pl] at h
  | 0, .lst ds, h => by simp [pl] at h
  | n, .ty _, h => by simp [pl] at h
  | n, .ins _ _, h => by simp [pl] at h
  | n, .dct _ _, h => by simp [pl] at h
  | n, .scr _, h => by simp [pl] at h
theorem plA_plain : ∀ {n : Nat} {ds : List D}, plA n ds = true → PyData.plainAll (toPs ds) = true ∧ PyData.depthAll (toPs ds) ≤ n
  | _, [], _ => by simp [toPs, PyData.plainAll, PyData.depthAll]
  | n, d :: ds, h => by
    simp only [plA, Bool.and_eq_true] at h
    have h1 := pl_plain h.1
    have h2 := plA_plain h.2
    simp only [toPs, PyData.plainAll, PyData.depthAll, Bool.and_eq_true]
    exact ⟨⟨h1.1, h2.1⟩, by omega⟩
end
theorem plA_all {n : Nat} : ∀ {ds : List D}, plA n ds = ds.all (pl n)
  | [] => by simp [plA]
  | d :: ds => by simp [plA, plA_all (ds := ds)]
mutual
theorem Rp.dp {c : Cfg} {G H : Hp} (s : ∀ a o, G a = some o → H a = some o) : ∀ {n : Nat} {v : V} {d : D}, pl n d = true → Rp c G v d → Dp c.K H v (toP d)
  | _, _, _, _, .non => by simp only [toP]; exact .non
  | _, _, _, _, .bl b => by simp only [toP]; exact .bl b
  | _, _, _, _, .int i => by simp only [toP]; exact .int i
  | _, _, _, _, .str x => by simp only [toP]; exact .str x
  | n + 1, _, _, h, .tup t k => by
    simp only [toP]
    refine .tup ?_ (RpAll.dp s (n := n) (by simpa [pl] using h) k)
    rcases t with (t | ⟨o, t⟩) | t
    · exact .inl (.inl (s _ _ t))
    · exact .inl (.inr ⟨o, s _ _ t⟩)
    · exact .inr t
  | n + 1, _, _, h, .lst t k => by
    simp only [toP]
    exact .lst (SqL.of (s _ _ t)) (RpAll.dp s (n := n) (by simpa [pl] using h) k)
  | 0, _, _, h, .tup _ _ => by simp [pl] at h
  | 0, _, _, h, .lst _ _ => by simp [pl] at h
  | _, _, _, h, .ty _ => by simp [pl] at h
  | _, _, _, h, .ins _ _ _ => by simp [pl] at h
  | _, _, _, h, .dct _ _ => by simp [pl] at h
  | _, _, _, h, .scr _ => by simp [pl] at h
theorem RpAll.dp {c : Cfg} {G H : Hp} (s : ∀ a o, G a = some o → H a = some o) : ∀ {n : Nat} {vs : List V} {ds : List D}, plA n ds = true → RpAll c G vs ds → DpAll c.K H vs (toPs ds)
  | _, _, _, _, .nil => by simp only [toPs]; exact .nil
  | n, _, _, h, .cons t k => by
    simp only [plA, Bool.and_eq_true] at h
    simp only [toPs]
    exact .cons (Rp.dp s h.1 t) (RpAll.dp s h.2 k)
end
def eqD (x y : D) : Bool := PyData.eqv (toP x) (toP y)
def ok1 (x : D) : Option S := some (.d x)

/-! ### rules that take more than one kind -/
section
variable {X : Cx} {f : Value → Value → Sem Value} {r r' : R2}
theorem OpR.or (h : OpR X f r) (h' : OpR X f r') : OpR X f (fun x y H Q => r x y H Q ∨ r' x y H Q) := by
  intro pins s σ H x y v u Q I rx ry q
  rcases q with q | q
  · exact h pins s σ H x y v u Q I rx ry q
  · exact h' pins s σ H x y v u Q I rx ry q
theorem OpDen.orL {c : Cfg} {g : D → D → Option S} (h : OpDen c r g) : OpDen c (fun x y H Q => r x y H Q ∨ r' x y H Q) g := fun B ts vs ρ σ H Q x y v u s r1 e q => .inl (h B ts vs ρ σ H Q x y v u s r1 e q)
/-- one of two, by what g does -/
def gOr (g g' : D → D → Option S) : D → D → Option S := fun x y => match g x y with
  | some s => some s
  | none => g' x y
theorem OpDen.or {c : Cfg} {g g' : D → D → Option S} (h : OpDen c r g) (h' : OpDen c r' g') : OpDen c (fun x y H Q => r x y H Q ∨ r' x y H Q) (gOr g g') := fun B ts vs ρ σ H Q x y v u s r1 e q => by
  unfold gOr at e
  split at e
  · rename_i s1 e1
    cases e
    exact .inl (h B ts vs ρ σ H Q x y v u s r1 e1 q)
  · exact .inr (h' B ts vs ρ σ H Q x y v u s r1 e q)
end
section
variable {c : Cfg} {B : Base} {ts : En} {vs : List (Option V)} {ρ : En} {σ : L2.St} {H : Hp}
/-- what waits, opened -/
structure Opn (c : Cfg) (B : Base) (ts : En) (vs : List (Option V)) (ρ : En) (σ : L2.St) (H G : Hp) : Prop where
  sub : ∀ a o, G a = some o → H a = some o
  val : ∀ {v : V} {x : D}, Rp c G v x → Rep c B (some (.d x) :: ts) (some v :: vs) ρ σ H
  new : ∀ {p : Addr} {o : HO} {x : D}, H p = none → isTbl o = false → (∀ G', (∀ a u, G a = some u → G' a = some u) → G' p = some o → Rp c G' (.ref p) x) → Rep c B (some (.d x) :: ts) (some (.ref p) :: vs) ρ σ (upd H p o)
  newO : ∀ {p : Addr} {o : HO} {x : D}, H p = none → (∀ H', H' p = some o → Cell c G H' p x) → Rep c B (some (.o none x) :: ts) (some (.ref p) :: vs) ρ σ (upd H p o)
theorem Rep.opn {ds : List D} {us : List V} (hl : us.length = ds.length) (r : Rep c B (tmp ds ++ ts) (tmv us ++ vs) ρ σ H) : ∃ G, Opn c B ts vs ρ σ H G ∧ RpAll c G us ds := by
  obtain ⟨G, o1, o2, k, h1, h2⟩ := r
  obtain ⟨a1, a2⟩ := h1.tmp hl
  refine ⟨G, ⟨k.sub, fun hv => ⟨G, o1, o2, k, .d hv a2, h2⟩, fun {p o x} hp ho hx => ?_, fun {p o x} hp hx => ?_⟩, a1⟩
  · have gp := k.gnone hp
    have ow := own_new (o := o) k hp
    exact ⟨upd G p o, o1, o2, k.alloc hp ho, .d (hx _ (upd_sub gp) upd_same) (a2.mono (upd_sub gp) fun q hq => ow q (List.mem_append_left _ hq)), h2.mono (upd_sub gp) fun q hq => ow q (List.mem_append_right _ hq)⟩
  · have ow := own_new (o := o) k hp
    exact ⟨G, p :: o1, o2, k.allocO hp, .o (hx _ upd_same) (fun _ e => nomatch e) (a2.mono (fun _ _ e => e) fun q hq => ow q (List.mem_append_left _ hq)), h2.mono (fun _ _ e => e) fun q hq => ow q (List.mem_append_right _ hq)⟩
theorem Rep.two {x y : D} {v u : V} (r : Rep c B (some (.d y) :: some (.d x) :: ts) (some u :: some v :: vs) ρ σ H) : ∃ G, Opn c B ts vs ρ σ H G ∧ Rp c G v x ∧ Rp c G u y := by
  obtain ⟨G, s, h⟩ := Rep.opn (ds := [x, y]) (us := [v, u]) rfl r
  cases h with
  | cons h1 h2 =>
    cases h2 with
    | cons h2 h3 => exact ⟨G, s, h1, h2⟩
theorem Rep.one {x : D} {v : V} (r : Rep c B (some (.d x) :: ts) (some v :: vs) ρ σ H) : ∃ G, Opn c B ts vs ρ σ H G ∧ Rp c G v x := by
  obtain ⟨G, s, h⟩ := Rep.opn (ds := [x]) (us := [v]) rfl r
  cases h with
  | cons h1 h2 => exact ⟨G, s, h1⟩
theorem SqT.up {K : PySem.W.Frag} {G H : Hp} {a : Addr} {xs : List V} (s : ∀ a o, G a = some o → H a = some o) (h : SqT K G a xs) : SqT K H a xs := by
  rcases h with (h | ⟨o, h⟩) | h
  · exact .inl (.inl (s _ _ h))
  · exact .inl (.inr ⟨o, s _ _ h⟩)
  · exact .inr h
end
theorem Rp.intE {c : Cfg} {G : Hp} {v : V} {i : Int} (h : Rp c G v (.int i)) : v = .int i := by cases h; rfl
theorem Rp.blE {c : Cfg} {G : Hp} {v : V} {b : Bool} (h : Rp c G v (.bl b)) : v = .bl b := by cases h; rfl
theorem Rp.strE {c : Cfg} {G : Hp} {v : V} {b : Str} (h : Rp c G v (.str b)) : v = .str b := by cases h; rfl
theorem Rp.nonE {c : Cfg} {G : Hp} {v : V} (h : Rp c G v .non) : v = .non := by cases h; rfl
theorem Rp.tyE {c : Cfg} {G : Hp} {v : V} {n : String} (h : Rp c G v (.ty n)) : v = .ty n := by cases h; rfl
theorem Rp.tupE {c : Cfg} {G : Hp} {v : V} {ds : List D} (h : Rp c G v (.tup ds)) : ∃ a xs, v = .ref a ∧ SqT c.K G a xs ∧ RpAll c G xs ds := by cases h with | tup h k => exact ⟨_, _, rfl, h, k⟩
theorem Rp.lstE {c : Cfg} {G : Hp} {v : V} {ds : List D} (h : Rp c G v (.lst ds)) : ∃ a xs, v = .ref a ∧ G a = some (.lst xs) ∧ RpAll c G xs ds := by cases h with | lst h k => exact ⟨_, _, rfl, h, k⟩
theorem Rp.scrE {c : Cfg} {G : Hp} {v : V} {ns : List Int} (h : Rp c G v (.scr ns)) : ∃ a, v = .ref a ∧ SqL c.K G a (ns.map V.int) := by cases h with | scr h => exact ⟨_, rfl, h⟩

/-! ### + - * % // ** -/
def gII (f : Int → Int → Int) : D → D → Option S
  | .int i, .int j => ok1 (.int (f i j))
  | _, _ => none
def gIIc (C : Int → Int → Bool) (f : Int → Int → Int) : D → D → Option S
  | .int i, .int j => if C i j then ok1 (.int (f i j)) else none
  | _, _ => none
theorem od_II {c : Cfg} {f : Int → Int → Int} : OpDen c (rI0 fun i j => .int (f i j)) (gII f) := by
  intro B ts vs ρ σ H Q x y v u s r e q
  obtain ⟨G, O, h1, h2⟩ := r.two
  cases x <;> cases y <;> first | cases e | skip
  cases h1
  cases h2
  exact ⟨_, _, rfl, rfl, q _ _ (O.val (.int _))⟩
theorem od_IIc {c : Cfg} {C : Int → Int → Prop} {Cb : Int → Int → Bool} {f : Int → Int → Int} (hC : ∀ i j, Cb i j = true → C i j) : OpDen c (rI C fun i j => .int (f i j)) (gIIc Cb f) := by
  intro B ts vs ρ σ H Q x y v u s r e q
  obtain ⟨G, O, h1, h2⟩ := r.two
  cases x <;> cases y <;> first | cases e | skip
  rename_i i j
  have e : (if Cb i j then ok1 (.int (f i j)) else none) = some s := e
  split at e
  · rename_i hc
    cases e
    cases h1
    cases h2
    exact ⟨_, _, rfl, rfl, hC _ _ hc, q _ _ (O.val (.int _))⟩
  · cases e
def small (n : Nat) : Bool := decide (n ≤ 16777216)
theorem small_line {n : Nat} (h : small n = true) : n ≤ sizeLine := by
  rw [sizeLine_eq]
  exact of_decide_eq_true h
def gCatT : D → D → Option S
  | .tup xs, .tup ys => if small (xs.length + ys.length) then ok1 (.tup (xs ++ ys)) else none
  | _, _ => none
theorem od_catT {c : Cfg} : OpDen c (rCatA c.K) gCatT := by
  intro B ts vs ρ σ H Q x y v u s r e q
  obtain ⟨G, O, h1, h2⟩ := r.two
  cases x <;> cases y <;> first | cases e | skip
  rename_i xs ys
  have e : (if small (xs.length + ys.length) then ok1 (.tup (xs ++ ys)) else none) = some s := e
  split at e
  · rename_i hz
    cases e
    obtain ⟨a, us, rfl, ha, ka⟩ := h1.tupE
    obtain ⟨b, ws, rfl, hb, kb⟩ := h2.tupE
    refine ⟨a, b, us, ws, rfl, rfl, SqT.up O.sub ha, SqT.up O.sub hb, by rw [ka.length, kb.length]; exact small_line hz, ?_⟩
    refine ⟨fun hx => ?_, fun hx hy => ?_, fun hx hy p hp => ?_⟩
    · subst hx
      cases ka
      exact q _ _ (O.val (.tup hb kb))
    · subst hy
      cases kb
      rw [List.append_nil] at q
      exact q _ _ (O.val (.tup ha ka))
    · exact q _ _ (O.new hp rfl fun G' m e => .tup (.inl (.inl e)) ((ka.app kb).mono m))
  · cases e
def gCatL : D → D → Option S
  | .lst xs, .lst ys => if small (xs.length + ys.length) then some (.o none (.lst (xs ++ ys))) else none
  | _, _ => none
theorem od_catL {c : Cfg} : OpDen c rCat gCatL := by
  intro B ts vs ρ σ H Q x y v u s r e q
  obtain ⟨G, O, h1, h2⟩ := r.two
  cases x <;> cases y <;> first | cases e | skip
  rename_i xs ys
  have e : (if small (xs.length + ys.length) then some (S.o none (.lst (xs ++ ys))) else none) = some s := e
  split at e
  · rename_i hz
    cases e
    obtain ⟨a, us, rfl, ha, ka⟩ := h1.lstE
    obtain ⟨b, ws, rfl, hb, kb⟩ := h2.lstE
    exact ⟨a, b, us, ws, rfl, rfl, O.sub _ _ ha, O.sub _ _ hb, by rw [ka.length, kb.length]; exact small_line hz, fun p hp => q _ _ (O.newO hp fun H' e => ⟨_, e, ka.app kb⟩)⟩
  · cases e
def gCatS : D → D → Option S
  | .str x, .str y => if small (x.length + y.length) then ok1 (.str (x ++ y)) else none
  | _, _ => none
theorem od_catS {c : Cfg} : OpDen c (fun x y H Q => ∃ i j, x = .str i ∧ y = .str j ∧ i.length + j.length ≤ sizeLine ∧ Q (.str (i ++ j)) H) gCatS := by
  intro B ts vs ρ σ H Q x y v u s r e q
  obtain ⟨G, O, h1, h2⟩ := r.two
  cases x <;> cases y <;> first | cases e | skip
  rename_i xs ys
  have e : (if small (xs.length + ys.length) then ok1 (.str (xs ++ ys)) else none) = some s := e
  split at e
  · rename_i hz
    cases e
    cases h1
    cases h2
    exact ⟨_, _, rfl, rfl, small_line hz, q _ _ (O.val (.str _))⟩
  · cases e
def rAddG (K : PySem.W.Frag) : R2 := fun x y H Q => rI0 (fun i j => .int (i + j)) x y H Q ∨ rCatA K x y H Q ∨ rCat x y H Q ∨ (∃ i j, x = .str i ∧ y = .str j ∧ i.length + j.length ≤ sizeLine ∧ Q (.str (i ++ j)) H)
theorem op_addG {X : Cx} : OpR X (binaryOp .Add) (rAddG X.K) := OpR.or op_add (OpR.or op_catA (OpR.or op_cat op_add_str))
def gAdd : D → D → Option S
  | .int i, .int j => ok1 (.int (i + j))
  | .tup xs, .tup ys => if small (xs.length + ys.length) then ok1 (.tup (xs ++ ys)) else none
  | .lst xs, .lst ys => if small (xs.length + ys.length) then some (.o none (.lst (xs ++ ys))) else none
  | .str x, .str y => if small (x.length + y.length) then ok1 (.str (x ++ y)) else none
  | _, _ => none
theorem od_add {c : Cfg} : OpDen c (rAddG c.K) gAdd := by
  intro B ts vs ρ σ H Q x y v u s r e q
  cases x <;> cases y <;> first | cases e | skip
  · exact .inl (od_II (f := (· + ·)) B ts vs ρ σ H Q _ _ v u _ r rfl q)
  · exact .inr (.inr (.inr (od_catS B ts vs ρ σ H Q _ _ v u s r e q)))
  · exact .inr (.inl (od_catT B ts vs ρ σ H Q _ _ v u s r e q))
  · exact .inr (.inr (.inl (od_catL B ts vs ρ σ H Q _ _ v u s r e q)))
end Fx

/-! more operations on data -/
namespace Fx
open PySem PySem.Spec PyProof.Rows L2

/-! ### - * % // ** -/
def gMinus : D → D → Option S := gII (· - ·)
theorem od_sub {c : Cfg} : OpDen c (rI0 fun i j => .int (i - j)) gMinus := od_II
def i64 (i : Int) : Bool := decide (-18446744073709551616 < i) && decide (i < 18446744073709551616)
theorem i64_iff {i : Int} : i64 i = true ↔ -(2 ^ 64) < i ∧ i < 2 ^ 64 := by
  unfold i64
  simp only [Bool.and_eq_true, decide_eq_true_eq]
  constructor <;> (intro h; constructor <;> omega)
def gMulI : D → D → Option S := gIIc (fun i j => i64 i || i64 j) (· * ·)
theorem od_mulI {c : Cfg} : OpDen c (rI CMul fun i j => .int (i * j)) gMulI := od_IIc fun i j h => by
  rw [Bool.or_eq_true, i64_iff, i64_iff] at h
  exact h
def gMod : D → D → Option S := gIIc (fun _ j => decide (0 < j)) (· % ·)
theorem od_mod {c : Cfg} : OpDen c (rI (fun _ j => 0 < j) fun i j => .int (i % j)) gMod := od_IIc fun i j h => of_decide_eq_true h
def gDiv : D → D → Option S := gIIc (fun _ j => decide (0 < j) && decide (j < 1073741824)) (· / ·)
theorem od_div {c : Cfg} : OpDen c (rI CDiv fun i j => .int (i / j)) gDiv := od_IIc fun i j h => by
  simp only [Bool.and_eq_true, decide_eq_true_eq] at h
  exact h
def gPow : D → D → Option S := gIIc (fun i j => decide (0 ≤ j) && decide (j ≤ 64) && decide (i.natAbs < 18446744073709551616)) (fun i j => i ^ j.toNat)
theorem od_pow {c : Cfg} : OpDen c (rI CPow fun i j => .int (i ^ j.toNat)) gPow := od_IIc fun i j h => by
  simp only [Bool.and_eq_true, decide_eq_true_eq] at h
  exact ⟨h.1.1, by omega, by have := h.2; omega⟩
def gNeg : D → Option S
  | .int i => ok1 (.int (-i))
  | _ => none
theorem ud_neg {c : Cfg} : UnDen c (rU fun i => .int (-i)) gNeg := by
  intro B ts vs ρ σ H Q x v s r e q
  obtain ⟨G, O, h1⟩ := r.one
  cases x <;> first | cases e | skip
  cases h1
  exact ⟨_, rfl, q _ _ (O.val (.int _))⟩
/-- list * int -/
def gRepL : D → D → Option S
  | .lst xs, .int k => if small (xs.length * k.toNat) && decide (k < 1073741824) && decide (-1073741824 < k) then some (.o none (.lst (List.replicate k.toNat xs).flatten)) else none
  | _, _ => none
theorem RpAll.rep {c : Cfg} {G : Hp} {us : List V} {xs : List D} (h : RpAll c G us xs) : ∀ n : Nat, RpAll c G (List.replicate n us).flatten (List.replicate n xs).flatten
  | 0 => .nil
  | n + 1 => by
    rw [List.replicate_succ, List.replicate_succ, List.flatten_cons, List.flatten_cons]
    exact h.app (RpAll.rep h n)
theorem od_repL {c : Cfg} : OpDen c rRep gRepL := by
  intro B ts vs ρ σ H Q x y v u s r e q
  obtain ⟨G, O, h1, h2⟩ := r.two
  cases x <;> cases y <;> first | cases e | skip
  rename_i xs k
  have e : (if small (xs.length * k.toNat) && decide (k < 1073741824) && decide (-1073741824 < k) then some (S.o none (.lst (List.replicate k.toNat xs).flatten)) else none) = some s := e
  split at e
  · rename_i hz
    simp only [Bool.and_eq_true, decide_eq_true_eq] at hz
    cases e
    cases h2
    obtain ⟨a, us, rfl, ha, ka⟩ := h1.lstE
    exact ⟨a, k, us, rfl, rfl, O.sub _ _ ha, by omega, by omega, by rw [ka.length]; exact small_line hz.1.1, fun p hp => q _ _ (O.newO hp fun H' e => ⟨_, e, ka.rep _⟩)⟩
  · cases e
def rMulG : R2 := fun x y H Q => rI CMul (fun i j => .int (i * j)) x y H Q ∨ rRep x y H Q
theorem op_mulG {X : Cx} : OpR X (binaryOp .Mult) rMulG := OpR.or op_mul op_rep
def gMul : D → D → Option S
  | .int i, .int j => if i64 i || i64 j then ok1 (.int (i * j)) else none
  | .lst xs, .int k => if small (xs.length * k.toNat) && decide (k < 1073741824) && decide (-1073741824 < k) then some (.o none (.lst (List.replicate k.toNat xs).flatten)) else none
  | _, _ => none
theorem od_mul {c : Cfg} : OpDen c rMulG gMul := by
  intro B ts vs ρ σ H Q x y v u s r e q
  cases x <;> cases y <;> first | cases e | skip
  · exact .inl (od_mulI B ts vs ρ σ H Q _ _ v u _ r e q)
  · exact .inr (od_repL B ts vs ρ σ H Q _ _ v u s r e q)

/-! ### comparisons -/
def pl60 (d : D) : Bool := pl 60 d
theorem pl60_shaped {d : D} (h : pl60 d = true) : (toP d).plain = true ∧ (toP d).depth ≤ 60 := pl_plain h
def rEqP (K : PySem.W.Frag) (neg : Bool) : R2 := fun x y H Q => ∃ d e, Dp K H x d ∧ Dp K H y e ∧ d.plain = true ∧ e.plain = true ∧ d.depth ≤ 64 ∧ Q (.bl (if neg then !PyData.eqv d e else PyData.eqv d e)) H
section
variable {X : Cx}
theorem op_eqP (hu : X.A.units + 66 < cLine) : OpR X (compareOp .Eq) (rEqP X.K false) := by
  intro pins s σ H x y v u Q I rx ry h
  obtain ⟨d, e, hd, he, sd, se, dp, q⟩ := h
  obtain ⟨as, r1⟩ := Dp.reads I d x v hd rx
  obtain ⟨bs, r2⟩ := Dp.reads I e y u he ry
  exact SeqAt.eq_plain r1 r2 sd se (by omega) ⟨.bl _, H, I, rfl, q⟩
theorem op_neP (hu : X.A.units + 66 < cLine) : OpR X (compareOp .NotEq) (rEqP X.K true) := by
  intro pins s σ H x y v u Q I rx ry h
  obtain ⟨d, e, hd, he, sd, se, dp, q⟩ := h
  obtain ⟨as, r1⟩ := Dp.reads I d x v hd rx
  obtain ⟨bs, r2⟩ := Dp.reads I e y u he ry
  exact SeqAt.ne_plain r1 r2 sd se (by omega) ⟨.bl _, H, I, rfl, q⟩
def rInP (K : PySem.W.Frag) (neg : Bool) : R2 := fun x y H Q => ∃ d ds, Dp K H x d ∧ (Dp K H y (.list ds) ∨ Dp K H y (.tuple ds)) ∧ d.plain = true ∧ PyData.plainAll ds = true ∧ d.depth ≤ 64 ∧ Q (.bl (if neg then !(ds.any fun z => PyData.eqv z d) else ds.any fun z => PyData.eqv z d)) H
theorem op_inP (hu : X.A.units + 66 < cLine) : OpR X (compareOp .In) (rInP X.K false) := by
  intro pins s σ H x y v u Q I rx ry h
  obtain ⟨d, ds, hd, he, sd, se, dp, q⟩ := h
  obtain ⟨as, r1⟩ := Dp.reads I d x v hd rx
  rcases he with he | he
  · obtain ⟨bs, r2⟩ := Dp.reads I _ y u he ry
    exact SeqAt.in_list_data r2 r1 se sd (by omega) ⟨.bl _, H, I, rfl, q⟩
  · obtain ⟨bs, r2⟩ := Dp.reads I _ y u he ry
    exact SeqAt.in_tuple_data r2 r1 se sd (by omega) ⟨.bl _, H, I, rfl, q⟩
theorem op_ninP (hu : X.A.units + 66 < cLine) : OpR X (compareOp .NotIn) (rInP X.K true) := by
  intro pins s σ H x y v u Q I rx ry h
  obtain ⟨d, ds, hd, he, sd, se, dp, q⟩ := h
  obtain ⟨as, r1⟩ := Dp.reads I d x v hd rx
  rcases he with he | he
  · obtain ⟨bs, r2⟩ := Dp.reads I _ y u he ry
    exact SeqAt.notIn_list_data r2 r1 se sd (by omega) ⟨.bl _, H, I, rfl, q⟩
  · obtain ⟨bs, r2⟩ := Dp.reads I _ y u he ry
    exact SeqAt.notIn_tuple_data r2 r1 se sd (by omega) ⟨.bl _, H, I, rfl, q⟩
end
def gEq (x y : D) : Option S := if pl60 x && pl60 y then ok1 (.bl (eqD x y)) else none
def gNe (x y : D) : Option S := if pl60 x && pl60 y then ok1 (.bl (!eqD x y)) else none
theorem od_eqN {c : Cfg} (neg : Bool) {g : D → D → Option S} (hg : ∀ x y s, g x y = some s → pl60 x = true ∧ pl60 y = true ∧ s = .d (.bl (if neg then !eqD x y else eqD x y))) : OpDen c (rEqP c.K neg) g := by
  intro B ts vs ρ σ H Q x y v u s r e q
  obtain ⟨G, O, h1, h2⟩ := r.two
  obtain ⟨p1, p2, rfl⟩ := hg x y s e
  exact ⟨toP x, toP y, h1.dp O.sub p1, h2.dp O.sub p2, (pl60_shaped p1).1, (pl60_shaped p2).1, Nat.le_trans (pl60_shaped p1).2 (by decide), q _ _ (O.val (.bl _))⟩
theorem od_eq {c : Cfg} : OpDen c (rEqP c.K false) gEq := od_eqN false fun x y s e => by
  unfold gEq at e
  split at e
  · rename_i h
    rw [Bool.and_eq_true] at h
    cases e
    exact ⟨h.1, h.2, rfl⟩
  · cases e
theorem od_ne {c : Cfg} : OpDen c (rEqP c.K true) gNe := od_eqN true fun x y s e => by
  unfold gNe at e
  split at e
  · rename_i h
    rw [Bool.and_eq_true] at h
    cases e
    exact ⟨h.1, h.2, rfl⟩
  · cases e
/-- the items of a list, a tuple -/
def itemsD : D → Option (List D)
  | .tup ds => some ds
  | .lst ds => some ds
  | _ => none
def inD (x : D) (ds : List D) : Bool := ds.any fun z => eqD z x
def gInN (neg : Bool) (x y : D) : Option S := match itemsD y with
  | some ds => if pl60 x && plA 60 ds then ok1 (.bl (if neg then !inD x ds else inD x ds)) else none
  | none => none
def gIn : D → D → Option S := gInN false
def gNotIn : D → D → Option S := gInN true
theorem od_in {c : Cfg} {neg : Bool} : OpDen c (rInP c.K neg) (gInN neg) := by
  intro B ts vs ρ σ H Q x y v u s r e q
  obtain ⟨G, O, h1, h2⟩ := r.two
  unfold gInN at e
  split at e
  · rename_i ds hi
    split at e
    · rename_i hp
      rw [Bool.and_eq_true] at hp
      cases e
      have e3 : (toPs ds).any (fun z => PyData.eqv z (toP x)) = inD x ds := by
        rw [toPs_map, List.any_map]
        rfl
      refine ⟨toP x, toPs ds, h1.dp O.sub hp.1, ?_, (pl60_shaped hp.1).1, (plA_plain hp.2).1, Nat.le_trans (pl60_shaped hp.1).2 (by decide), ?_⟩
      · cases y <;> first | cases hi | skip
        · have := h2.dp (n := 61) O.sub (by simpa [pl] using hp.2)
          simp only [toP] at this
          exact .inr this
        · have := h2.dp (n := 61) O.sub (by simpa [pl] using hp.2)
          simp only [toP] at this
          exact .inl this
      · rw [e3]
        exact q _ _ (O.val (.bl _))
    · cases e
  · cases e
def gBB (f : Int → Int → Bool) : D → D → Option S
  | .int i, .int j => ok1 (.bl (f i j))
  | _, _ => none
theorem od_BB {c : Cfg} {f : Int → Int → Bool} : OpDen c (rI0 fun i j => .bl (f i j)) (gBB f) := by
  intro B ts vs ρ σ H Q x y v u s r e q
  obtain ⟨G, O, h1, h2⟩ := r.two
  cases x <;> cases y <;> first | cases e | skip
  cases h1
  cases h2
  exact ⟨_, _, rfl, rfl, q _ _ (O.val (.bl _))⟩
def gLt : D → D → Option S := gBB fun i j => decide (i < j)
def gLe : D → D → Option S := gBB fun i j => decide (i ≤ j)
def gGt : D → D → Option S := gBB fun i j => decide (j < i)
def gGe : D → D → Option S := gBB fun i j => decide (j ≤ i)
def isN : D → Bool
  | .non => true
  | _ => false
def gIsN (x y : D) : Option S := if isN y then ok1 (.bl (isN x)) else none
def gNotN (x y : D) : Option S := if isN y then ok1 (.bl (!isN x)) else none
theorem Rp.isN {c : Cfg} {G : Hp} {v : V} {x : D} (h : Rp c G v x) : decide (v = .non) = isN x := by
  cases h <;> rfl
theorem od_isN {c : Cfg} : OpDen c (fun x y H Q => y = .non ∧ Q (.bl (decide (x = .non))) H) gIsN := by
  intro B ts vs ρ σ H Q x y v u s r e q
  obtain ⟨G, O, h1, h2⟩ := r.two
  unfold gIsN at e
  split at e
  · rename_i hy
    cases e
    have : u = .non := by
      rw [← h2.isN] at hy
      exact of_decide_eq_true hy
    exact ⟨this, by rw [h1.isN]; exact q _ _ (O.val (.bl _))⟩
  · cases e
theorem od_notN {c : Cfg} : OpDen c (fun x y H Q => y = .non ∧ Q (.bl (!decide (x = .non))) H) gNotN := by
  intro B ts vs ρ σ H Q x y v u s r e q
  obtain ⟨G, O, h1, h2⟩ := r.two
  unfold gNotN at e
  split at e
  · rename_i hy
    cases e
    have : u = .non := by
      rw [← h2.isN] at hy
      exact of_decide_eq_true hy
    exact ⟨this, by rw [h1.isN]; exact q _ _ (O.val (.bl _))⟩
  · cases e

/-! ### subscripts -/
def gIx : D → D → Option S
  | .tup xs, .int i => (atI xs i).bind ok1
  | .lst xs, .int i => (atI xs i).bind ok1
  | .scr ns, .int i => (atI ns i).bind fun n => ok1 (.int n)
  | .str z, .int i => if small z.length then (atI z.cps.toList i).bind fun k => ok1 (.str ⟨#[k]⟩) else none
  | _, _ => none
theorem RpAll.atI {c : Cfg} {G : Hp} {us : List V} {xs : List D} {i : Int} {d : D} (h : RpAll c G us xs) (e : atI xs i = some d) : ∃ v, atI us i = some v ∧ Rp c G v d := by
  unfold L2.atI at e ⊢
  rw [h.length]
  cases e1 : ixN xs.length i with
  | none => rw [e1] at e; cases e
  | some j =>
    rw [e1] at e
    exact h.get e
theorem atI_map {α β : Type} {f : α → β} {xs : List α} {i : Int} : atI (xs.map f) i = (atI xs i).map f := by
  unfold atI
  rw [List.length_map]
  cases ixN xs.length i with
  | none => rfl
  | some j => exact List.getElem?_map
theorem od_ix {c : Cfg} : OpDen c (rIx c.K) gIx := by
  intro B ts vs ρ σ H Q x y v u s r e q
  obtain ⟨G, O, h1, h2⟩ := r.two
  cases x <;> cases y <;> first | cases e | skip
  · rename_i z i
    have e : (if small z.length then (atI z.cps.toList i).bind fun k => ok1 (.str ⟨#[k]⟩) else none) = some s := e
    split at e
    · rename_i hz
      cases h1
      cases h2
      cases e1 : atI z.cps.toList i with
      | none => rw [e1] at e; cases e
      | some k =>
        rw [e1] at e
        cases e
        exact .inr (.inr ⟨z, i, k, rfl, rfl, small_line hz, e1, q _ _ (O.val (.str _))⟩)
    · cases e
  · rename_i xs i
    have e : (atI xs i).bind ok1 = some s := e
    cases e1 : atI xs i with
    | none => rw [e1] at e; cases e
    | some d =>
      rw [e1] at e
      cases e
      cases h2
      obtain ⟨a, us, rfl, ha, ka⟩ := h1.tupE
      obtain ⟨w, e2, hw⟩ := ka.atI e1
      exact .inr (.inl ⟨a, us, i, w, rfl, rfl, SqT.up O.sub ha, e2, q _ _ (O.val hw)⟩)
  · rename_i xs i
    have e : (atI xs i).bind ok1 = some s := e
    cases e1 : atI xs i with
    | none => rw [e1] at e; cases e
    | some d =>
      rw [e1] at e
      cases e
      cases h2
      obtain ⟨a, us, rfl, ha, ka⟩ := h1.lstE
      obtain ⟨w, e2, hw⟩ := ka.atI e1
      exact .inl ⟨a, us, i, w, rfl, rfl, SqL.of (O.sub _ _ ha), e2, q _ _ (O.val hw)⟩
  · rename_i ns i
    have e : (atI ns i).bind (fun n => ok1 (.int n)) = some s := e
    cases e1 : atI ns i with
    | none => rw [e1] at e; cases e
    | some n =>
      rw [e1] at e
      cases e
      cases h2
      obtain ⟨a, rfl, ha⟩ := h1.scrE
      exact .inl ⟨a, _, i, _, rfl, rfl, Same.seq O.sub ha, by rw [atI_map, e1]; rfl, q _ _ (O.val (.int _))⟩

/-! ### displays -/
def mTup (fa : M (List D)) : M S := fun ρ => (fa ρ).then fun ds ρ1 => if small ds.length then .ok (.d (.tup ds)) ρ1 else .stuck
def mLst (fa : M (List D)) : M S := fun ρ => (fa ρ).then fun ds ρ1 => if small ds.length then .ok (.o none (.lst ds)) ρ1 else .stuck
section
variable {c : Cfg} {W : WX} {tA : TA} {fA : M (List D)}
theorem den_tup (ha : DenA c W tA fA) : Den c W (tTup tA) (mTup fA) := by
  intro B ts vs ρ σ H Q rp h
  unfold mTup at h
  rw [post_then] at h
  refine ha B ts vs ρ σ H _ rp (h.imp1 fun ds ρ1 h us H1 hl r1 => ?_)
  split at h
  · rename_i hz
    obtain ⟨G, O, k⟩ := r1.opn hl
    exact ⟨by rw [hl]; exact small_line hz, fun p hp => h _ _ (O.new hp rfl fun G' m e => .tup (.inl (.inl e)) (k.mono m))⟩
  · exact h.elim
theorem den_lst (ha : DenA c W tA fA) : Den c W (tLst tA) (mLst fA) := by
  intro B ts vs ρ σ H Q rp h
  unfold mLst at h
  rw [post_then] at h
  refine ha B ts vs ρ σ H _ rp (h.imp1 fun ds ρ1 h us H1 hl r1 => ?_)
  split at h
  · rename_i hz
    obtain ⟨G, O, k⟩ := r1.opn hl
    exact ⟨by rw [hl]; exact small_line hz, fun p hp => h _ _ (O.newO hp fun H' e => ⟨_, e, k⟩)⟩
  · exact h.elim
end

/-! ### calls of built-ins -/
theorem Rep.one' {c : Cfg} {B : Base} {ts : En} {vs : List (Option V)} {ρ : En} {σ : L2.St} {H : Hp} {x : D} {us : List V} (hl : us.length = [x].length) (r : Rep c B (tmp [x] ++ ts) (tmv us ++ vs) ρ σ H) : ∃ v, us = [v] ∧ ∃ G, Opn c B ts vs ρ σ H G ∧ Rp c G v x := by
  obtain ⟨G, O, k⟩ := r.opn hl
  cases k with
  | cons h k =>
    cases k
    exact ⟨_, rfl, G, O, h⟩
theorem Rep.two' {c : Cfg} {B : Base} {ts : En} {vs : List (Option V)} {ρ : En} {σ : L2.St} {H : Hp} {x y : D} {us : List V} (hl : us.length = [x, y].length) (r : Rep c B (tmp [x, y] ++ ts) (tmv us ++ vs) ρ σ H) : ∃ v w, us = [v, w] ∧ ∃ G, Opn c B ts vs ρ σ H G ∧ Rp c G v x ∧ Rp c G w y := by
  obtain ⟨G, O, k⟩ := r.opn hl
  cases k with
  | cons h k =>
    cases k with
    | cons h' k =>
      cases k
      exact ⟨_, _, rfl, G, O, h, h'⟩
def rLenG (K : PySem.W.Frag) : List V → Hp → VK → Prop := fun xs H Q => (∃ p ys, xs = [.ref p] ∧ (SqL K H p ys ∨ SqT K H p ys) ∧ Q (.int ys.length) H) ∨ (∃ z, xs = [.str z] ∧ z.length ≤ sizeLine ∧ Q (.int z.length) H)
theorem cr_lenG {X : Cx} : CallR X (.builtin "len") (rLenG X.K) := CallR.or call_len_seq call_len_str
def lenD : D → Option Nat
  | .tup ds => some ds.length
  | .lst ds => some ds.length
  | .scr ns => some ns.length
  | .str z => if small z.length then some z.length else none
  | _ => none
def gLen : List D → Option S
  | [x] => (lenD x).bind fun n => ok1 (.int n)
  | _ => none
theorem cd_len {c : Cfg} : CbDen c (rLenG c.K) gLen := by
  intro B ts vs ρ σ H Q ds us s hl r e q
  match ds, hl, r, e with
  | [x], hl, r, e =>
    obtain ⟨v, rfl, G, O, h⟩ := r.one' hl
    have e : (lenD x).bind (fun n => ok1 (.int n)) = some s := e
    cases x with
    | str z =>
      have e : ((if small z.length then some z.length else none).bind fun n => ok1 (.int n)) = some s := e
      split at e
      · rename_i hz
        cases e
        cases h
        exact .inr ⟨z, rfl, small_line hz, q _ _ (O.val (.int _))⟩
      · cases e
    | tup ds =>
      cases e
      obtain ⟨a, xs, rfl, ha, ka⟩ := h.tupE
      exact .inl ⟨a, xs, rfl, .inr (SqT.up O.sub ha), by rw [ka.length]; exact q _ _ (O.val (.int _))⟩
    | lst ds =>
      cases e
      obtain ⟨a, xs, rfl, ha, ka⟩ := h.lstE
      exact .inl ⟨a, xs, rfl, .inl (SqL.of (O.sub _ _ ha)), by rw [ka.length]; exact q _ _ (O.val (.int _))⟩
    | scr ns =>
      cases e
      obtain ⟨a, rfl, ha⟩ := h.scrE
      exact .inl ⟨a, _, rfl, .inl (Same.seq O.sub ha), by rw [List.length_map]; exact q _ _ (O.val (.int _))⟩
    | _ => cases e
  | [], _, _, e => cases e
  | _ :: _ :: _, _, _, e => cases e
/-- tuple(x), list(x) of a list, a tuple -/
def gTuple : List D → Option S
  | [.tup ds] => ok1 (.tup ds)
  | [.lst ds] => ok1 (.tup ds)
  | _ => none
theorem cd_tuple {c : Cfg} : CbDen c (fun xs H Q => ∃ p ys, xs = [.ref p] ∧ ((SqL c.K H p ys ∧ ∀ l, H l = none → Q (.ref l) (upd H l (.tup ys))) ∨ (SqT c.K H p ys ∧ Q (.ref p) H))) gTuple := by
  intro B ts vs ρ σ H Q ds us s hl r e q
  match ds, hl, r, e with
  | [.tup ds], hl, r, e =>
    cases e
    obtain ⟨v, rfl, G, O, h⟩ := r.one' hl
    obtain ⟨a, xs, rfl, ha, ka⟩ := h.tupE
    exact ⟨a, xs, rfl, .inr ⟨SqT.up O.sub ha, q _ _ (O.val (.tup ha ka))⟩⟩
  | [.lst ds], hl, r, e =>
    cases e
    obtain ⟨v, rfl, G, O, h⟩ := r.one' hl
    obtain ⟨a, xs, rfl, ha, ka⟩ := h.lstE
    exact ⟨a, xs, rfl, .inl ⟨SqL.of (O.sub _ _ ha), fun p hp => q _ _ (O.new hp rfl fun G' m e => .tup (.inl (.inl e)) (ka.mono m))⟩⟩
def gList : List D → Option S
  | [.tup ds] => some (.o none (.lst ds))
  | [.lst ds] => some (.o none (.lst ds))
  | _ => none
theorem cd_list {c : Cfg} : CbDen c (fun xs H Q => ∃ p ys, xs = [.ref p] ∧ (SqL c.K H p ys ∨ SqT c.K H p ys) ∧ ∀ l, H l = none → Q (.ref l) (upd H l (.lst ys))) gList := by
  intro B ts vs ρ σ H Q ds us s hl r e q
  match ds, hl, r, e with
  | [.tup ds], hl, r, e =>
    cases e
    obtain ⟨v, rfl, G, O, h⟩ := r.one' hl
    obtain ⟨a, xs, rfl, ha, ka⟩ := h.tupE
    exact ⟨a, xs, rfl, .inr (SqT.up O.sub ha), fun p hp => q _ _ (O.newO hp fun H' e => ⟨_, e, ka⟩)⟩
  | [.lst ds], hl, r, e =>
    cases e
    obtain ⟨v, rfl, G, O, h⟩ := r.one' hl
    obtain ⟨a, xs, rfl, ha, ka⟩ := h.lstE
    exact ⟨a, xs, rfl, .inl (SqL.of (O.sub _ _ ha)), fun p hp => q _ _ (O.newO hp fun H' e => ⟨_, e, ka⟩)⟩
/-- all, any of a list of bools -/
def blsD : List D → Option (List Bool)
  | [] => some []
  | .bl b :: ds => (blsD ds).map (b :: ·)
  | _ => none
theorem RpAll.bls {c : Cfg} {G : Hp} : ∀ {us : List V} {ds : List D} {bs : List Bool}, blsD ds = some bs → RpAll c G us ds → us = bs.map V.bl
  | _, [], _, e, h => by cases e; cases h; rfl
  | _, d :: ds, bs, e, h => by
    cases d <;> first | cases e | skip
    rename_i b
    have e : (blsD ds).map (b :: ·) = some bs := e
    cases e1 : blsD ds with
    | none => rw [e1] at e; cases e
    | some bs' =>
      rw [e1] at e
      cases e
      cases h with
      | cons h k =>
        cases h
        rw [k.bls e1]
        rfl
def gAll : List D → Option S
  | [.lst ds] => (blsD ds).bind fun bs => ok1 (.bl (bs.all id))
  | _ => none
def gAny : List D → Option S
  | [.lst ds] => (blsD ds).bind fun bs => ok1 (.bl (bs.any id))
  | _ => none
theorem cd_all {c : Cfg} : CbDen c (rAll c.K) gAll := by
  intro B ts vs ρ σ H Q ds us s hl r e q
  match ds, hl, r, e with
  | [.lst ds], hl, r, e =>
    obtain ⟨v, rfl, G, O, h⟩ := r.one' hl
    obtain ⟨a, xs, rfl, ha, ka⟩ := h.lstE
    have e : (blsD ds).bind (fun bs => ok1 (.bl (bs.all id))) = some s := e
    cases e1 : blsD ds with
    | none => rw [e1] at e; cases e
    | some bs =>
      rw [e1] at e
      cases e
      have := ka.bls e1
      subst this
      exact ⟨a, bs, rfl, SqL.of (O.sub _ _ ha), q _ _ (O.val (.bl _))⟩
theorem cd_any {c : Cfg} : CbDen c (rAny c.K) gAny := by
  intro B ts vs ρ σ H Q ds us s hl r e q
  match ds, hl, r, e with
  | [.lst ds], hl, r, e =>
    obtain ⟨v, rfl, G, O, h⟩ := r.one' hl
    obtain ⟨a, xs, rfl, ha, ka⟩ := h.lstE
    have e : (blsD ds).bind (fun bs => ok1 (.bl (bs.any id))) = some s := e
    cases e1 : blsD ds with
    | none => rw [e1] at e; cases e
    | some bs =>
      rw [e1] at e
      cases e
      have := ka.bls e1
      subst this
      exact ⟨a, bs, rfl, SqL.of (O.sub _ _ ha), q _ _ (O.val (.bl _))⟩
/-- int(n) of an int -/
def gInt : List D → Option S
  | [.int i] => ok1 (.int i)
  | _ => none
end Fx

/-! tests, statements, targets, loops, comprehensions -/
namespace Fx
open PySem PySem.Spec PyProof.Rows L2

theorem RpAll.sl {c : Cfg} {B : Base} {G H : Hp} {ts : En} {vs : List (Option V)} {own : Owns} : ∀ {us : List V} {ds : List D}, RpAll c G us ds → Sl c B G H ts vs own → Sl c B G H ((ds.map fun x => some (S.d x)) ++ ts) (us.map some ++ vs) own
  | _, _, .nil, h => h
  | _, _, .cons a k, h => .d a (RpAll.sl k h)
/-! ### tests -/
def mTest (f : M S) : M Bool := fun ρ => (dv f ρ).then fun x ρ' => match x with
  | .bl b => .ok b ρ'
  | _ => .stuck
def mNot (f : M Bool) : M Bool := fun ρ => (f ρ).then fun b ρ' => .ok (!b) ρ'
def mAnd (f g : M Bool) : M Bool := fun ρ => (f ρ).then fun b ρ' => if b = true then g ρ' else .ok false ρ'
def mOr (f g : M Bool) : M Bool := fun ρ => (f ρ).then fun b ρ' => if b = true then .ok true ρ' else g ρ'
def mAndV (f g : M S) : M S := fun ρ => (mTest f ρ).then fun b ρ' => if b = true then g ρ' else .ok (.d (.bl false)) ρ'
def mOrV (f g : M S) : M S := fun ρ => (mTest f ρ).then fun b ρ' => if b = true then .ok (.d (.bl true)) ρ' else g ρ'
def mNotV (f : M S) : M S := fun ρ => (mTest f ρ).then fun b ρ' => .ok (.d (.bl (!b))) ρ'
def mIf (t : M Bool) (f g : M S) : M S := fun ρ => (t ρ).then fun b ρ' => if b = true then f ρ' else g ρ'
def mYes : M Bool := fun ρ => .ok true ρ
section
variable {c : Cfg} {W : WX} {B : Base} {H : Hp} {ts : En} {vs : List (Option V)} {ρ : En} {σ : L2.St} {te ta tb : TE} {fe fa fb : M S} {tt tu : TT} {ft fu : M Bool}
theorem Den.test (h : Den c W te fe) {Q : Bool → Hp → Prop} (r : Rep c B ts vs ρ σ H) (q : Post (fun b ρ' => ∀ H', Rep c B ts vs ρ' σ H' → Q b H') (ErrP c W B ts vs σ) (mTest fe ρ)) : te σ H fun x H' => ∃ k, x = .bl k ∧ Q k H' := by
  unfold mTest at q
  rw [post_then] at q
  refine h.dv r (q.imp1 fun x ρ' p v H' r' => ?_)
  cases x <;> first | exact p.elim | skip
  obtain ⟨G, O, hv⟩ := r'.one
  cases hv
  exact ⟨_, rfl, p H' r'.drop⟩
theorem dt_test (h : Den c W te fe) : DenT c W (tTest te) (mTest fe) := fun B ts vs ρ σ H Q r q => h.test r q
theorem dt_B (h : Den c W te fe) : DenT c W (tB te) (mTest fe) := fun B ts vs ρ σ H Q r q => h.test r q
theorem dt_not (h : DenT c W tt ft) : DenT c W (tNot tt) (mNot ft) := fun B ts vs ρ σ H Q r q => by
  unfold mNot at q
  rw [post_then] at q
  exact h B ts vs ρ σ H _ r q
theorem dt_and (h : DenT c W tt ft) (k : DenT c W tu fu) : DenT c W (tAnd tt tu) (mAnd ft fu) := fun B ts vs ρ σ H Q r q => by
  unfold mAnd at q
  rw [post_then] at q
  refine h B ts vs ρ σ H _ r (q.imp1 fun b ρ' p H' r' => ?_)
  cases b with
  | true => exact k B ts vs ρ' σ H' Q r' p
  | false => exact p H' r'
theorem dt_or (h : DenT c W tt ft) (k : DenT c W tu fu) : DenT c W (tOr tt tu) (mOr ft fu) := fun B ts vs ρ σ H Q r q => by
  unfold mOr at q
  rw [post_then] at q
  refine h B ts vs ρ σ H _ r (q.imp1 fun b ρ' p H' r' => ?_)
  cases b with
  | true => exact p H' r'
  | false => exact k B ts vs ρ' σ H' Q r' p
theorem dt_yes : DenT c W tYes mYes := fun B ts vs ρ σ H Q r q => q H r
theorem OkP.bl {Q : VK} {b : Bool} {ρ : En} (h : OkP c B ts vs σ Q (.d (.bl b)) ρ) {H : Hp} (r : Rep c B ts vs ρ σ H) : Q (.bl b) H := h _ _ (Rep.repl (ds := []) (us := []) r rfl fun G _ => .bl b)
theorem den_andV (h : Den c W ta fa) (k : Den c W tb fb) : Den c W (tAndV ta tb) (mAndV fa fb) := fun B ts vs ρ σ H Q r q => by
  unfold mAndV at q
  rw [post_then] at q
  refine h.test (Q := fun b H1 => if b = true then tb σ H1 Q else Q (.bl false) H1) r (q.imp1 fun b ρ' p H' r' => ?_)
  cases b with
  | true => exact k B ts vs ρ' σ H' Q r' p
  | false => exact OkP.bl p r'
theorem den_orV (h : Den c W ta fa) (k : Den c W tb fb) : Den c W (tOrV ta tb) (mOrV fa fb) := fun B ts vs ρ σ H Q r q => by
  unfold mOrV at q
  rw [post_then] at q
  refine h.test (Q := fun b H1 => if b = true then Q (.bl true) H1 else tb σ H1 Q) r (q.imp1 fun b ρ' p H' r' => ?_)
  cases b with
  | true => exact OkP.bl p r'
  | false => exact k B ts vs ρ' σ H' Q r' p
theorem den_notV (h : Den c W ta fa) : Den c W (tNotV ta) (mNotV fa) := fun B ts vs ρ σ H Q r q => by
  unfold mNotV at q
  rw [post_then] at q
  exact h.test r (q.imp1 fun b ρ' p H' r' => OkP.bl p r')
theorem den_if (h : DenT c W tt ft) (ka : Den c W ta fa) (kb : Den c W tb fb) : Den c W (tIf tt ta tb) (mIf ft fa fb) := fun B ts vs ρ σ H Q r q => by
  unfold mIf at q
  rw [post_then] at q
  refine h B ts vs ρ σ H _ r (q.imp1 fun b ρ' p H' r' => ?_)
  cases b with
  | true => exact ka B ts vs ρ' σ H' Q r' p
  | false => exact kb B ts vs ρ' σ H' Q r' p
end

/-! ### statements -/
inductive Fl where
  | nx | rt (s : S) | bk | ct
def EndP (c : Cfg) (B : Base) (ts : En) (vs : List (Option V)) (D : Ends) : Fl → En → Prop
  | .nx, ρ => ∀ σ H, Rep c B ts vs ρ σ H → D.nx σ H
  | .bk, ρ => ∀ σ H, Rep c B ts vs ρ σ H → D.bk σ H
  | .ct, ρ => ∀ σ H, Rep c B ts vs ρ σ H → D.ct σ H
  | .rt s, ρ => ∀ v σ H, Rep c B (some s :: ts) (some v :: vs) ρ σ H → D.rt v H
def ErrS (c : Cfg) (W : WX) (B : Base) (ts : En) (vs : List (Option V)) (e : Err) (ρ : En) : Prop := ∀ σ k d H, c.err e k d H → Rep c B ts vs ρ σ H → W k d σ H
def DenS (c : Cfg) (W : WX) (t : TS) (F : M Fl) : Prop := ∀ B ts vs ρ σ H D, Rep c B ts vs ρ σ H → Post (EndP c B ts vs D) (ErrS c W B ts vs) (F ρ) → t D σ H
/-- but for the slots js -/
def Off (js : List Nat) (σ σ' : L2.St) : Prop := σ'.length = σ.length ∧ ∀ i, i ∉ js → σ'[i]? = σ[i]?
def DenG (c : Cfg) (W : WX) (g : TG) (F : D → M Unit) (js : List Nat) : Prop := ∀ B ts vs ρ σ H x v Q, Rep c B (some (.d x) :: ts) (some v :: vs) ρ σ H → Post (fun _ ρ' => ∀ σ' H', Off js σ σ' → Rep c B ts vs ρ' σ' H' → Q σ' H') (ErrS c W B ts vs) (F x ρ) → g v σ H Q
def DenGs (c : Cfg) (W : WX) (g : TGs) (F : List D → M Unit) (js : List Nat) : Prop := ∀ B ts vs ρ σ H ds us Q, us.length = ds.length → Rep c B ((ds.map fun x => some (S.d x)) ++ ts) (us.map some ++ vs) ρ σ H → Post (fun _ ρ' => ∀ σ' H', Off js σ σ' → Rep c B ts vs ρ' σ' H' → Q σ' H') (ErrS c W B ts vs) (F ds ρ) → g us σ H Q

def mNx : M Fl := fun ρ => .ok .nx ρ
def mBk : M Fl := fun ρ => .ok .bk ρ
def mCt : M Fl := fun ρ => .ok .ct ρ
def mSt : M Fl := fun _ => .stuck
def mSeq (F G : M Fl) : M Fl := fun ρ => (F ρ).then fun f ρ' => match f with
  | .nx => G ρ'
  | .rt s => .ok (.rt s) ρ'
  | .bk => .ok .bk ρ'
  | .ct => .ok .ct ρ'
def mRet (f : M S) : M Fl := fun ρ => (f ρ).then fun s ρ' => .ok (.rt s) ρ'
def mRetN : M Fl := fun ρ => .ok (.rt (.d .non)) ρ
/-- the value of a name is handed back, its cell with it -/
def mRetO (i : Nat) : M Fl := fun ρ => match ρ[i]? with
  | some (some (.o none x)) => .ok (.rt (.o none x)) (ρ.set i none)
  | some (some (.d x)) => .ok (.rt (.d x)) ρ
  | _ => .stuck
def mIfS (t : M Bool) (F G : M Fl) : M Fl := fun ρ => (t ρ).then fun b ρ' => if b = true then F ρ' else G ρ'
def mDrop (f : M S) : M Fl := fun ρ => (f ρ).then fun _ ρ' => .ok .nx ρ'
def mAsg (f : M S) (g : D → M Unit) : M Fl := fun ρ => (dv f ρ).then fun x ρ' => (g x ρ').then fun _ ρ2 => .ok .nx ρ2
def mAsgO (i : Nat) (f : M S) : M Fl := fun ρ => (f ρ).then fun s ρ' => match s with
  | .o none x => .ok .nx (ρ'.set i (some (.o none x)))
  | .d x => .ok .nx (ρ'.set i (some (.d x)))
  | _ => .stuck
def gmName (i : Nat) : D → M Unit := fun x ρ => .ok () (ρ.set i (some (.d x)))
def gmNil : List D → M Unit := fun ds ρ => match ds with
  | [] => .ok () ρ
  | _ => .stuck
def gmCons (g : D → M Unit) (gs : List D → M Unit) : List D → M Unit := fun ds ρ => match ds with
  | d :: r => (g d ρ).then fun _ ρ' => gs r ρ'
  | [] => .stuck
def gmTup (n : Nat) (gs : List D → M Unit) : D → M Unit := fun x ρ => match x with
  | .tup ds => if ds.length = n then gs ds ρ else .stuck
  | _ => .stuck
section
variable {c : Cfg} {W : WX} {te : TE} {fe : M S} {tt : TT} {ft : M Bool} {t u : TS} {F G : M Fl} {g : TG} {gm : D → M Unit} {js js' : List Nat}
theorem ErrS.toP {B : Base} {ts : En} {vs : List (Option V)} {σ : L2.St} {e : Err} {ρ : En} (h : ErrS c W B ts vs e ρ) : ErrP c W B ts vs σ e ρ := fun k d H' he r => h σ k d H' he r
theorem ErrS.drop {B : Base} {ts : En} {vs : List (Option V)} {s : Option S} {v : Option V} {e : Err} {ρ : En} (h : ErrS c W B ts vs e ρ) : ErrS c W B (s :: ts) (v :: vs) e ρ := fun σ k d H' he r => h σ k d H' he r.drop
theorem ds_nx : DenS c W tNext mNx := fun B ts vs ρ σ H D r q => q σ H r
theorem ds_bk : DenS c W tBreak mBk := fun B ts vs ρ σ H D r q => q σ H r
theorem ds_ct : DenS c W tCont mCt := fun B ts vs ρ σ H D r q => q σ H r
theorem ds_never : DenS c W tNever mSt := fun B ts vs ρ σ H D r q => q
theorem ds_seq (h : DenS c W t F) (k : DenS c W u G) : DenS c W (tSeq t u) (mSeq F G) := fun B ts vs ρ σ H D r q => by
  unfold mSeq at q
  rw [post_then] at q
  refine h B ts vs ρ σ H { D with nx := u D } r (q.imp1 fun f ρ' p => ?_)
  cases f with
  | nx => exact fun σ' H' r' => k B ts vs ρ' σ' H' D r' p
  | rt s => exact p
  | bk => exact p
  | ct => exact p
theorem ds_ret (h : Den c W te fe) : DenS c W (tRet te) (mRet fe) := fun B ts vs ρ σ H D r q => by
  unfold mRet at q
  rw [post_then] at q
  exact h B ts vs ρ σ H _ r (q.imp (fun s ρ' p v H' r' => p v σ H' r') fun _ _ h => h.toP)
theorem ds_retN : DenS c W tRetN mRetN := fun B ts vs ρ σ H D r q => q _ σ H (Rep.repl (ds := []) (us := []) r rfl fun G _ => .non)
theorem ds_if (h : DenT c W tt ft) (k : DenS c W t F) (l : DenS c W u G) : DenS c W (tIfS tt t u) (mIfS ft F G) := fun B ts vs ρ σ H D r q => by
  unfold mIfS at q
  rw [post_then] at q
  refine h B ts vs ρ σ H _ r (q.imp (fun b ρ' p H' r' => ?_) fun _ _ h => h.toP)
  cases b with
  | true => exact k B ts vs ρ' σ H' D r' p
  | false => exact l B ts vs ρ' σ H' D r' p
theorem ds_drop (h : Den c W te fe) : DenS c W (tDrop te) (mDrop fe) := fun B ts vs ρ σ H D r q => by
  unfold mDrop at q
  rw [post_then] at q
  exact h B ts vs ρ σ H _ r (q.imp (fun s ρ' p v H' r' => p σ H' r'.drop) fun _ _ h => h.toP)
theorem ds_asg (h : Den c W te fe) (k : DenG c W g gm js) : DenS c W (tAsg te g) (mAsg fe gm) := fun B ts vs ρ σ H D r q => by
  unfold mAsg at q
  rw [post_then] at q
  refine h.dv r (q.imp (fun x ρ' p v H' r' => ?_) fun _ _ h => h.toP)
  rw [post_then] at p
  exact k B ts vs ρ' σ H' x v D.nx r' (p.imp1 fun _ ρ2 p2 σ2 H2 _ r2 => p2 σ2 H2 r2)
theorem ds_asgO {i : Nat} (h : Den c W te fe) : DenS c W (tAsg te (gName i)) (mAsgO i fe) := fun B ts vs ρ σ H D r q => by
  unfold mAsgO at q
  rw [post_then] at q
  refine h B ts vs ρ σ H _ r (q.imp (fun s ρ' p v H' r' => ?_) fun _ _ h => h.toP)
  cases s with
  | d x => exact p _ H' r'.set
  | o b x =>
    cases b with
    | some _ => exact p.elim
    | none => exact p _ H' r'.set
  | q _ _ => exact p.elim
theorem dg_name {i : Nat} : DenG c W (gName i) (gmName i) [i] := fun B ts vs ρ σ H x v Q r q => q _ H ⟨by rw [List.length_set], fun j hj => List.getElem?_set_ne fun e => hj (by simp [e])⟩ r.set
theorem dgs_nil : DenGs c W gNil gmNil [] := fun B ts vs ρ σ H ds us Q hl r q => by
  cases ds with
  | nil =>
    cases us with
    | nil => exact ⟨rfl, q σ H ⟨rfl, fun _ _ => rfl⟩ r⟩
    | cons _ _ => simp at hl
  | cons _ _ => exact q.elim
theorem dgs_cons {gs : TGs} {gms : List D → M Unit} (h : DenG c W g gm js) (k : DenGs c W gs gms js') : DenGs c W (gCons g gs) (gmCons gm gms) (js ++ js') := fun B ts vs ρ σ H ds us Q hl r q => by
  cases ds with
  | nil => exact q.elim
  | cons x ds =>
    cases us with
    | nil => simp at hl
    | cons v us =>
      have hl' : us.length = ds.length := by simpa using hl
      refine ⟨v, us, rfl, ?_⟩
      have q : Post _ _ ((gm x ρ).then fun _ ρ' => gms ds ρ') := q
      rw [post_then] at q
      refine h B _ _ ρ σ H x v _ r (q.imp (fun _ ρ' p σ' H' o1 r' => k B ts vs ρ' σ' H' ds us Q hl' r' (p.imp1 fun _ ρ2 p σ2 H2 o2 r2 => p σ2 H2 ⟨o2.1.trans o1.1, fun i hi => (o2.2 i fun z => hi (List.mem_append_right _ z)).trans (o1.2 i fun z => hi (List.mem_append_left _ z))⟩ r2)) fun e ρ' h σ' k' d H' he r' => h σ' k' d H' he ?_)
      have r2 := Rep.dropN (ds := ds.reverse) (us := us.reverse) (by simpa using hl') (by simpa [tmp, tmv] using r')
      exact r2
theorem dg_tup {gs : TGs} {gms : List D → M Unit} {n : Nat} (k : DenGs c W gs gms js) : DenG c W (gTup c.K n gs) (gmTup n gms) js := fun B ts vs ρ σ H x v Q r q => by
  cases x <;> first | exact q.elim | skip
  rename_i ds
  have q : Post _ _ (if ds.length = n then gms ds ρ else .stuck) := q
  split at q
  · rename_i hn
    obtain ⟨G, o1, o2, kk, h1, h2⟩ := r
    cases h1 with
    | d hv h1 =>
      obtain ⟨a, xs, rfl, ha, ka⟩ := hv.tupE
      refine ⟨a, xs, rfl, SqT.up kk.sub ha, by rw [ka.length, hn], k B ts vs ρ σ H ds xs Q ka.length ⟨G, o1, o2, kk, ?_, h2⟩ q⟩
      exact ka.sl h1
  · exact q.elim
end

/-! ### loops -/
/-- what a walk gives, turn by turn, while what it walks waits -/
def IsWalk (c : Cfg) (st : List D) (sv : List V) (J : It) (items : List D) : Prop := ∃ n Gw Y, Walk J n Gw Y ∧ n = items.length ∧
  (∀ B ts vs ρ σ H, Rep c B (tmp st ++ ts) (tmv sv ++ vs) ρ σ H → Gw H) ∧
  ∀ B ts vs ρ σ H k x H', k < n → Rep c B (tmp st ++ ts) (tmv sv ++ vs) ρ σ H → Y k H x H' → ∃ d, items[k]? = some d ∧ Rep c B (some (.d d) :: (tmp st ++ ts)) (some x :: (tmv sv ++ vs)) ρ σ H'
def OkI (c : Cfg) (B : Base) (ts : En) (vs : List (Option V)) (σ : L2.St) (R : It → Hp → Prop) (items : List D) (ρ : En) : Prop :=
  ∀ J st sv H', sv.length = st.length → Rep c B (tmp st ++ ts) (tmv sv ++ vs) ρ σ H' → IsWalk c st sv J items → R J H'
def DenI (c : Cfg) (W : WX) (wi : TI) (f : M (List D)) : Prop := ∀ B ts vs ρ σ H R, Rep c B ts vs ρ σ H → Post (OkI c B ts vs σ R) (ErrP c W B ts vs σ) (f ρ) → wi σ H R
/-- a for's turns -/
def mLoop (gm : D → M Unit) (F : M Fl) : List D → M Fl
  | [] => fun ρ => .ok .nx ρ
  | x :: xs => fun ρ => (gm x ρ).then fun _ ρ1 => (F ρ1).then fun f ρ2 => match f with
    | .nx => mLoop gm F xs ρ2
    | .ct => mLoop gm F xs ρ2
    | .bk => .ok .nx ρ2
    | .rt s => .ok (.rt s) ρ2
def mFor (fI : M (List D)) (gm : D → M Unit) (F : M Fl) : M Fl := fun ρ => (fI ρ).then fun items ρ1 => mLoop gm F items ρ1
def mWhile (ft : M Bool) (F : M Fl) : Nat → M Fl
  | 0 => fun _ => .stuck
  | n + 1 => fun ρ => (ft ρ).then fun b ρ1 => if b = true then (F ρ1).then fun f ρ2 => match f with
      | .nx => mWhile ft F n ρ2
      | .ct => mWhile ft F n ρ2
      | .bk => .ok .nx ρ2
      | .rt s => .ok (.rt s) ρ2
    else .ok .nx ρ1
section
variable {c : Cfg} {W : WX} {wi : TI} {fI : M (List D)} {te : TE} {fe : M S} {tt : TT} {ft : M Bool} {t u : TS} {F G : M Fl} {g : TG} {gm : D → M Unit} {js js' : List Nat}
theorem EndP.dropN {B : Base} {ts : En} {vs : List (Option V)} {st : List D} {sv : List V} {s : S} {v : V} {ρ : En} {σ : L2.St} {H : Hp} (hl : sv.length = st.length) (r : Rep c B (some s :: (tmp st ++ ts)) (some v :: (tmv sv ++ vs)) ρ σ H) : Rep c B (some s :: ts) (some v :: vs) ρ σ H := by
  obtain ⟨G, o1, o2, k, h1, h2⟩ := r
  obtain ⟨w, os, o1', ew, e1, rfl, h1'⟩ := h1.unone
  cases ew
  exact ⟨G, os ++ o1', o2, k, Sl.one e1 (h1'.tmp hl).2, h2⟩
theorem ds_for (h : DenI c W wi fI) (k : DenG c W g gm js) (l : DenS c W t F) : DenS c W (tFor wi g t) (mFor fI gm F) := fun B ts vs ρ σ H D r q => by
  unfold mFor at q
  rw [post_then] at q
  refine h B ts vs ρ σ H _ r (q.imp (fun items ρ1 q J st sv H1 hl r1 w => ?_) fun _ _ h => h.toP)
  obtain ⟨n, Gw, Y, wk, rfl, hG, hY⟩ := w
  refine for_it wk (fun i σ H => ∃ ρ, Rep c B (tmp st ++ ts) (tmv sv ++ vs) ρ σ H ∧ Post (EndP c B ts vs D) (ErrS c W B ts vs) (mLoop gm F (items.drop i) ρ)) ⟨ρ1, r1, q⟩ (fun i σ H _ ⟨ρ, r, _⟩ => hG _ _ _ _ _ _ r) ?_ ?_
  · rintro i x σ1 H1 H2 hi ⟨ρ, r, q⟩ y
    obtain ⟨d, ed, r2⟩ := hY _ _ _ _ _ _ _ _ _ hi r y
    have hd : items.drop i = d :: items.drop (i + 1) := by
      rw [List.drop_eq_getElem_cons hi]
      rw [List.getElem?_eq_getElem hi] at ed
      cases ed
      rfl
    rw [hd] at q
    have q : Post _ _ ((gm d ρ).then fun _ ρ1 => (F ρ1).then fun f ρ2 => _) := q
    rw [post_then] at q
    have er : ∀ e ρ, ErrS c W B ts vs e ρ → ErrS c W B (tmp st ++ ts) (tmv sv ++ vs) e ρ := fun e ρ h σ k d H' he r => h σ k d H' he (r.dropN hl)
    refine k B _ _ ρ σ1 H2 d x _ r2 (q.imp (fun _ ρ2 q σ2 H3 _ r3 => ?_) er)
    rw [post_then] at q
    refine l B _ _ ρ2 σ2 H3 _ r3 (q.imp (fun f ρ3 p => ?_) er)
    cases f with
    | nx => exact fun σ4 H4 r4 => ⟨ρ3, r4, p⟩
    | ct => exact fun σ4 H4 r4 => ⟨ρ3, r4, p⟩
    | bk => exact fun σ4 H4 r4 => p σ4 H4 (r4.dropN hl)
    | rt s => exact fun v σ4 H4 r4 => p v σ4 H4 (EndP.dropN hl r4)
  · rintro σ1 H1 ⟨ρ, r, q⟩
    rw [List.drop_length] at q
    exact q σ1 H1 (r.dropN hl)
theorem ds_while {n : Nat} (h : DenT c W tt ft) (l : DenS c W t F) : DenS c W (tWhile tt t) (mWhile ft F n) := fun B ts vs ρ σ H D r q => by
  refine ⟨fun m σ H => ∃ ρ, Rep c B ts vs ρ σ H ∧ Post (EndP c B ts vs D) (ErrS c W B ts vs) (mWhile ft F m ρ), ⟨n, ρ, r, q⟩, ?_⟩
  rintro m σ H ⟨ρ, r, q⟩
  cases m with
  | zero => exact q.elim
  | succ m =>
    have q : Post _ _ ((ft ρ).then fun b ρ1 => _) := q
    rw [post_then] at q
    refine h B ts vs ρ σ H _ r (q.imp (fun b ρ1 q H1 r1 => ?_) fun _ _ h => h.toP)
    cases b with
    | false => exact q σ H1 r1
    | true =>
      have q : Post _ _ ((F ρ1).then fun f ρ2 => _) := q
      rw [post_then] at q
      refine ⟨fun σ H => ∃ ρ, Rep c B ts vs ρ σ H ∧ Post (EndP c B ts vs D) (ErrS c W B ts vs) (mWhile ft F m ρ), fun σ' H' h => ⟨m, Nat.lt_succ_self m, h⟩, ?_⟩
      refine l B ts vs ρ1 σ H1 _ r1 (q.imp1 fun f ρ2 p => ?_)
      cases f with
      | nx => exact fun σ4 H4 r4 => ⟨ρ2, r4, p⟩
      | ct => exact fun σ4 H4 r4 => ⟨ρ2, r4, p⟩
      | bk => exact p
      | rt s => exact p
end
/-! ### what is walked -/
def iSeq (f : M S) : M (List D) := fun ρ => (dv f ρ).then fun x ρ' => match itemsD x with
  | some ds => .ok ds ρ'
  | none => .stuck
def intsFrom (lo : Int) : Nat → List D
  | 0 => []
  | n + 1 => .int lo :: intsFrom (lo + 1) n
theorem intsFrom_length : ∀ (n : Nat) (lo : Int), (intsFrom lo n).length = n
  | 0, _ => rfl
  | n + 1, lo => by simp [intsFrom, intsFrom_length n]
theorem intsFrom_get : ∀ (n : Nat) (lo : Int) (k : Nat), k < n → (intsFrom lo n)[k]? = some (.int (lo + k))
  | 0, _, _, h => absurd h (Nat.not_lt_zero _)
  | n + 1, lo, 0, _ => by simp [intsFrom]
  | n + 1, lo, k + 1, h => by
    simp only [intsFrom, List.getElem?_cons_succ]
    rw [intsFrom_get n (lo + 1) k (by omega)]
    congr 2
    push_cast
    omega
def rOk (i : Int) : Bool := decide (-4611686018427387904 ≤ i) && decide (i < 4611686018427387904)
def iRange1 (fa : M (List D)) : M (List D) := fun ρ => (fa ρ).then fun ds ρ' => match ds with
  | [.int j] => if rOk j then .ok (intsFrom 0 j.toNat) ρ' else .stuck
  | _ => .stuck
def iRange2 (fa : M (List D)) : M (List D) := fun ρ => (fa ρ).then fun ds ρ' => match ds with
  | [.int i, .int j] => if rOk i && rOk j then .ok (intsFrom i (j - i).toNat) ρ' else .stuck
  | _ => .stuck
section
variable {c : Cfg} {W : WX} {wi : TI} {fI : M (List D)} {te : TE} {fe : M S} {tA : TA} {fA : M (List D)}
theorem rOk_iff {i : Int} : rOk i = true ↔ -(2 ^ 62) ≤ i ∧ i < 2 ^ 62 := by
  unfold rOk
  simp only [Bool.and_eq_true, decide_eq_true_eq]
  constructor <;> (intro h; constructor <;> omega)
theorem walk_ints {lo : Int} {n : Nat} : IsWalk c [] [] (Itr lo n) (intsFrom lo n) := by
  refine ⟨n, _, _, walk_range, (intsFrom_length n lo).symm, fun _ _ _ _ _ _ _ => trivial, ?_⟩
  rintro B ts vs ρ σ H k x H' hk r ⟨rfl, rfl⟩
  exact ⟨_, intsFrom_get n lo k hk, Rep.repl (ds := []) (us := []) r rfl fun G _ => .int _⟩
theorem di_range1 (h : DenA c W tA fA) : DenI c W (iRng1 tA) (iRange1 fA) := fun B ts vs ρ σ H R r q => by
  unfold iRange1 at q
  rw [post_then] at q
  refine h B ts vs ρ σ H _ r (q.imp1 fun ds ρ' p us H' hl r' => ?_)
  split at p
  · rename_i j
    split at p
    · rename_i hj
      rw [rOk_iff] at hj
      obtain ⟨v, rfl, G, O, hv⟩ := r'.one' hl
      cases hv
      exact ⟨j, rfl, hj.1, hj.2, p _ [] [] H' rfl (Rep.dropN (ds := [.int j]) (us := [.int j]) rfl r') walk_ints⟩
    · exact p.elim
  · exact p.elim
theorem di_range2 (h : DenA c W tA fA) : DenI c W (iRng2 tA) (iRange2 fA) := fun B ts vs ρ σ H R r q => by
  unfold iRange2 at q
  rw [post_then] at q
  refine h B ts vs ρ σ H _ r (q.imp1 fun ds ρ' p us H' hl r' => ?_)
  split at p
  · rename_i i j
    split at p
    · rename_i hj
      rw [Bool.and_eq_true, rOk_iff, rOk_iff] at hj
      obtain ⟨v, w, rfl, G, O, hv, hw⟩ := r'.two' hl
      cases hv
      cases hw
      exact ⟨i, j, rfl, ⟨hj.1.1, hj.1.2, hj.2.1, hj.2.2⟩, p _ [] [] H' rfl (Rep.dropN (ds := [.int i, .int j]) (us := [.int i, .int j]) rfl r') walk_ints⟩
    · exact p.elim
  · exact p.elim
end
end Fx

/-! what is walked, comprehensions -/
namespace Fx
open PySem PySem.Spec PyProof.Rows L2

section
variable {X : Cx} {tg e : Expr} {w1 w2 : TI}
theorem PI.or (h1 : PI X tg e w1) (h2 : PI X tg e w2) : PI X tg e (fun σ H R => w1 σ H R ∨ w2 σ H R) :=
  ⟨fun pins s σ H R I h => h.elim (h1.run pins s σ H R I) (h2.run pins s σ H R I)⟩
end
def iSeqT (K : PySem.W.Frag) (tl : TE) : TI := fun σ H R => iList K tl σ H R ∨ iTup K tl σ H R
def iEnumG (K : PySem.W.Frag) (ta : TA) : TI := fun σ H R => iEnum K ta σ H R ∨ Rw.iEnumT K ta σ H R
section
variable {c : Cfg} {W : WX} {B : Base} {ts : En} {vs : List (Option V)} {ρ : En} {σ : L2.St} {H : Hp} {te : TE} {fe : M S} {tA : TA} {fA : M (List D)}
/-- the first that waits, opened, still waiting -/
theorem Rep.top {x : D} {v : V} (r : Rep c B (some (.d x) :: ts) (some v :: vs) ρ σ H) : ∃ G, Opn c B (some (.d x) :: ts) (some v :: vs) ρ σ H G ∧ Rp c G v x := by
  obtain ⟨G, o1, o2, k, h1, h2⟩ := id r
  cases h1 with
  | d hv h1 =>
    refine ⟨G, ⟨k.sub, fun hv' => ⟨G, o1, o2, k, .d hv' (.d hv h1), h2⟩, fun {p o x} hp ho hx => ?_, fun {p o x} hp hx => ?_⟩, hv⟩
    · have gp := k.gnone hp
      have ow := own_new (o := o) k hp
      exact ⟨upd G p o, o1, o2, k.alloc hp ho, .d (hx _ (upd_sub gp) upd_same) (.d (hv.mono (upd_sub gp)) (h1.mono (upd_sub gp) fun q hq => ow q (List.mem_append_left _ hq))), h2.mono (upd_sub gp) fun q hq => ow q (List.mem_append_right _ hq)⟩
    · have ow := own_new (o := o) k hp
      exact ⟨G, p :: o1, o2, k.allocO hp, .o (hx _ upd_same) (fun _ e => nomatch e) (.d hv (h1.mono (fun _ _ e => e) fun q hq => ow q (List.mem_append_left _ hq))), h2.mono (fun _ _ e => e) fun q hq => ow q (List.mem_append_right _ hq)⟩
theorem Rep.top2 {x y : D} {v w : V} (r : Rep c B (some (.d y) :: some (.d x) :: ts) (some w :: some v :: vs) ρ σ H) : ∃ G, Opn c B (some (.d y) :: some (.d x) :: ts) (some w :: some v :: vs) ρ σ H G ∧ Rp c G v x ∧ Rp c G w y := by
  obtain ⟨G, o1, o2, k, h1, h2⟩ := id r
  cases h1 with
  | d hw h1 =>
    cases h1 with
    | d hv h1 =>
      refine ⟨G, ⟨k.sub, fun hv' => ⟨G, o1, o2, k, .d hv' (.d hw (.d hv h1)), h2⟩, fun {p o x} hp ho hx => ?_, fun {p o x} hp hx => ?_⟩, hv, hw⟩
      · have gp := k.gnone hp
        have ow := own_new (o := o) k hp
        exact ⟨upd G p o, o1, o2, k.alloc hp ho, .d (hx _ (upd_sub gp) upd_same) (.d (hw.mono (upd_sub gp)) (.d (hv.mono (upd_sub gp)) (h1.mono (upd_sub gp) fun q hq => ow q (List.mem_append_left _ hq)))), h2.mono (upd_sub gp) fun q hq => ow q (List.mem_append_right _ hq)⟩
      · have ow := own_new (o := o) k hp
        exact ⟨G, p :: o1, o2, k.allocO hp, .o (hx _ upd_same) (fun _ e => nomatch e) (.d hw (.d hv (h1.mono (fun _ _ e => e) fun q hq => ow q (List.mem_append_left _ hq)))), h2.mono (fun _ _ e => e) fun q hq => ow q (List.mem_append_right _ hq)⟩
/-- how a list, a tuple is read -/
def SqI (K : PySem.W.Frag) (l : Bool) (H : Hp) (a : Addr) (us : List V) : Prop := if l then SqL K H a us else SqT K H a us
def isLst : D → Bool
  | .lst _ => true
  | _ => false
theorem Rp.seq {G H : Hp} {v : V} {x : D} {ds : List D} (s : ∀ a o, G a = some o → H a = some o) (h : Rp c G v x) (e : itemsD x = some ds) : ∃ a us, v = .ref a ∧ SqI c.K (isLst x) H a us ∧ RpAll c G us ds := by
  cases x <;> first | cases e | skip
  · obtain ⟨a, us, rfl, ha, k⟩ := h.tupE
    exact ⟨a, us, rfl, SqT.up s ha, k⟩
  · obtain ⟨a, us, rfl, ha, k⟩ := h.lstE
    exact ⟨a, us, rfl, SqL.of (s _ _ ha), k⟩
/-- one whose items are ds, at a -/
def SrcAt (c : Cfg) (l : Bool) (n : Nat) (a : Addr) (H : Hp) : Prop := ∃ us, SqI c.K l H a us ∧ us.length = n
theorem src_of {x : D} {a : Addr} {ds : List D} (e : itemsD x = some ds) (r : Rep c B (some (.d x) :: ts) (some (.ref a) :: vs) ρ σ H) : SrcAt c (isLst x) ds.length a H := by
  obtain ⟨G, O, h⟩ := r.top
  obtain ⟨a', us, e1, h1, k⟩ := h.seq O.sub e
  cases e1
  exact ⟨us, h1, k.length⟩
/-- the turn's item, by any reading of the source -/
def TurnAt (c : Cfg) (l : Bool) (a : Addr) (k : Nat) (H : Hp) (x : V) : Prop := ∀ us, SqI c.K l H a us → us[k]? = some x
theorem turn_val {x : D} {a : Addr} {ds : List D} {k : Nat} {v : V} (e : itemsD x = some ds) (hk : k < ds.length) (r : Rep c B (some (.d x) :: ts) (some (.ref a) :: vs) ρ σ H) (t : TurnAt c (isLst x) a k H v) :
    ∃ d, ds[k]? = some d ∧ Rep c B (some (.d d) :: some (.d x) :: ts) (some v :: some (.ref a) :: vs) ρ σ H := by
  obtain ⟨G, O, h⟩ := r.top
  obtain ⟨a', us, e1, h1, kk⟩ := h.seq O.sub e
  cases e1
  obtain ⟨d, ed, hd⟩ := kk.getV (t us h1)
  exact ⟨d, ed, O.val hd⟩
theorem walk_seq {x : D} {a : Addr} {ds : List D} {J : It} (e : itemsD x = some ds) (hgo : ∀ i H, (∃ us y, SqI c.K (isLst x) H a us ∧ us[i]? = some y) → J.go i H) (hst : ∀ i H, (∃ us, SqI c.K (isLst x) H a us ∧ us.length = i) → J.stop i H)
    (hy : ∀ i H y H', J.yld i H y H' → H' = H ∧ TurnAt c (isLst x) a i H y) : IsWalk c [x] [.ref a] J ds := by
  refine ⟨ds.length, SrcAt c (isLst x) ds.length a, fun i H y H' => H' = H ∧ TurnAt c (isLst x) a i H y, ⟨?_, ?_, ?_⟩, rfl, fun B ts vs ρ σ H r => src_of e r, ?_⟩
  · rintro i H hi ⟨us, h1, h2⟩
    exact hgo i H ⟨us, us[i]'(by omega), h1, List.getElem?_eq_getElem (by omega)⟩
  · rintro H ⟨us, h1, h2⟩
    exact hst _ H ⟨us, h1, h2⟩
  · intro i H y H' _ _ h
    exact hy i H y H' h
  · rintro B ts vs ρ σ H k y H' hk r ⟨rfl, t⟩
    exact turn_val e hk r t
theorem di_seq (h : Den c W te fe) : DenI c W (iSeqT c.K te) (iSeq fe) := fun B ts vs ρ σ H R r q => by
  unfold iSeq at q
  rw [post_then] at q
  cases hk : dv fe ρ with
  | stuck => rw [hk] at q; exact q.elim
  | err e ρ' =>
    refine .inl (h.dv r ?_)
    rw [hk] at q ⊢
    exact q
  | ok x ρ' =>
    rw [hk] at q
    have q : Post (OkI c B ts vs σ R) (ErrP c W B ts vs σ) (match itemsD x with
      | some ds => .ok ds ρ'
      | none => .stuck) := q
    cases e : itemsD x with
    | none => rw [e] at q; exact q.elim
    | some ds =>
      rw [e] at q
      have q : OkI c B ts vs σ R ds ρ' := q
      by_cases hl : isLst x = true
      · refine .inl (h.dv r ?_)
        rw [hk]
        intro v H' r'
        obtain ⟨G, O, hv⟩ := r'.top
        obtain ⟨a, us, rfl, h1, k⟩ := hv.seq O.sub e
        rw [hl] at h1
        refine ⟨a, rfl, ⟨us, h1⟩, q _ [x] [.ref a] H' rfl r' (walk_seq e ?_ ?_ ?_)⟩
        · rintro i H ⟨us, y, h1, h2⟩
          rw [hl] at h1
          exact ⟨us, y, h1, h2⟩
        · rintro i H ⟨us, h1, h2⟩
          rw [hl] at h1
          exact ⟨us, h1, by omega⟩
        · rintro i H y H' ⟨rfl, h2⟩
          rw [hl]
          exact ⟨rfl, fun us h => h2 us h⟩
      · have hl : isLst x = false := by simpa using hl
        refine .inr (h.dv r ?_)
        rw [hk]
        intro v H' r'
        obtain ⟨G, O, hv⟩ := r'.top
        obtain ⟨a, us, rfl, h1, k⟩ := hv.seq O.sub e
        rw [hl] at h1
        refine ⟨a, rfl, ⟨us, h1⟩, q _ [x] [.ref a] H' rfl r' (walk_seq e ?_ ?_ ?_)⟩
        · rintro i H ⟨us, y, h1, h2⟩
          rw [hl] at h1
          exact ⟨us, y, h1, h2⟩
        · rintro i H ⟨us, h1, h2⟩
          rw [hl] at h1
          exact ⟨us, h1, by omega⟩
        · rintro i H y H' ⟨rfl, h2⟩
          rw [hl]
          exact ⟨rfl, fun us h => h2 us h⟩

/-! ### enumerate, zip, reversed -/
def enumD (n : Nat) : List D → List D
  | [] => []
  | d :: ds => .tup [.int n, d] :: enumD (n + 1) ds
theorem enumD_length : ∀ (ds : List D) (n : Nat), (enumD n ds).length = ds.length
  | [], _ => rfl
  | d :: ds, n => by simp [enumD, enumD_length ds]
theorem enumD_get : ∀ (ds : List D) (n k : Nat) (d : D), ds[k]? = some d → (enumD n ds)[k]? = some (.tup [.int ((n + k : Nat) : Int), d])
  | [], _, _, _, e => by simp at e
  | d :: ds, n, 0, d', e => by simp at e; subst e; simp [enumD]
  | d :: ds, n, k + 1, d', e => by
    simp only [enumD, List.getElem?_cons_succ]
    rw [enumD_get ds (n + 1) k d' (by simpa using e), show n + 1 + k = n + (k + 1) by omega]
def zipD : List D → List D → List D
  | d :: ds, e :: es => .tup [d, e] :: zipD ds es
  | _, _ => []
theorem zipD_length : ∀ (ds es : List D), (zipD ds es).length = min ds.length es.length
  | [], _ => by simp [zipD]
  | _ :: _, [] => by simp [zipD]
  | d :: ds, e :: es => by simp [zipD, zipD_length ds es]
theorem zipD_get : ∀ (ds es : List D) (k : Nat) (d e : D), ds[k]? = some d → es[k]? = some e → (zipD ds es)[k]? = some (.tup [d, e])
  | [], _, _, _, _, h, _ => by simp at h
  | _ :: _, [], _, _, _, _, h => by simp at h
  | d :: ds, e :: es, 0, d', e', h, h' => by simp at h h'; subst h; subst h'; simp [zipD]
  | d :: ds, e :: es, k + 1, d', e', h, h' => by
    simp only [zipD, List.getElem?_cons_succ]
    exact zipD_get ds es k d' e' (by simpa using h) (by simpa using h')
def iEnu (fA : M (List D)) : M (List D) := fun ρ => (fA ρ).then fun ds ρ' => match ds with
  | [x] => match itemsD x with
    | some es => .ok (enumD 0 es) ρ'
    | none => .stuck
  | _ => .stuck
theorem walk_enu {x : D} {a : Addr} {ds : List D} {J : It} (e : itemsD x = some ds) (hgo : ∀ i H, (∃ us y, SqI c.K (isLst x) H a us ∧ us[i]? = some y) → J.go i H) (hst : ∀ i H, (∃ us, SqI c.K (isLst x) H a us ∧ us.length = i) → J.stop i H)
    (hy : ∀ i H y H', J.yld i H y H' → ∃ T z, y = .ref T ∧ H T = none ∧ H' = upd H T (.tup [.int (i : Nat), z]) ∧ TurnAt c (isLst x) a i H z) : IsWalk c [x] [.ref a] J (enumD 0 ds) := by
  refine ⟨ds.length, SrcAt c (isLst x) ds.length a, fun i H y H' => ∃ T z, y = .ref T ∧ H T = none ∧ H' = upd H T (.tup [.int (i : Nat), z]) ∧ TurnAt c (isLst x) a i H z, ⟨?_, ?_, ?_⟩, (enumD_length ds 0).symm, fun B ts vs ρ σ H r => src_of e r, ?_⟩
  · rintro i H hi ⟨us, h1, h2⟩
    exact hgo i H ⟨us, us[i]'(by omega), h1, List.getElem?_eq_getElem (by omega)⟩
  · rintro H ⟨us, h1, h2⟩
    exact hst _ H ⟨us, h1, h2⟩
  · intro i H y H' _ _ h
    exact hy i H y H' h
  · rintro B ts vs ρ σ H k y H' hk r ⟨T, z, rfl, hT, rfl, t⟩
    obtain ⟨G, O, h⟩ := r.top
    obtain ⟨a', us, e1, h1, kk⟩ := h.seq O.sub e
    cases e1
    obtain ⟨d, ed, hd⟩ := kk.getV (t us h1)
    refine ⟨_, enumD_get ds 0 k d ed, ?_⟩
    rw [Nat.zero_add]
    exact O.new hT rfl fun G' m e' => .tup (.inl (.inl e')) (.cons (.int _) (.cons (hd.mono m) .nil))
theorem di_enu (h : DenA c W tA fA) : DenI c W (iEnumG c.K tA) (iEnu fA) := fun B ts vs ρ σ H R r q => by
  unfold iEnu at q
  rw [post_then] at q
  cases hk : fA ρ with
  | stuck => rw [hk] at q; exact q.elim
  | err e ρ' =>
    refine .inl (h B ts vs ρ σ H _ r ?_)
    rw [hk] at q ⊢
    exact q
  | ok ds ρ' =>
    rw [hk] at q
    match ds, q with
    | [x], q =>
      have q : Post (OkI c B ts vs σ R) (ErrP c W B ts vs σ) (match itemsD x with
        | some es => .ok (enumD 0 es) ρ'
        | none => .stuck) := q
      cases e : itemsD x with
      | none => rw [e] at q; exact q.elim
      | some es =>
        rw [e] at q
        have q : OkI c B ts vs σ R (enumD 0 es) ρ' := q
        by_cases hl : isLst x = true
        · refine .inl (h B ts vs ρ σ H _ r ?_)
          rw [hk]
          intro us H' hlen r'
          match us, hlen with
          | [v], _ =>
            obtain ⟨G, O, hv⟩ := Rep.top (ts := ts) (vs := vs) r'
            obtain ⟨a, us, rfl, h1, k⟩ := hv.seq O.sub e
            rw [hl] at h1
            refine ⟨a, us, rfl, h1, q _ [x] [.ref a] H' rfl r' (walk_enu e ?_ ?_ ?_)⟩
            · rintro i H ⟨us, y, h1, h2⟩
              rw [hl] at h1
              exact ⟨us, y, h1, h2⟩
            · rintro i H ⟨us, h1, h2⟩
              rw [hl] at h1
              exact ⟨us, h1, by omega⟩
            · rintro i H y H' ⟨T, z, h1, h2, h3, h4⟩
              rw [hl]
              exact ⟨T, z, h1, h2, h3, fun us h => h4 us h⟩
        · have hl : isLst x = false := by simpa using hl
          refine .inr (h B ts vs ρ σ H _ r ?_)
          rw [hk]
          intro us H' hlen r'
          match us, hlen with
          | [v], _ =>
            obtain ⟨G, O, hv⟩ := Rep.top (ts := ts) (vs := vs) r'
            obtain ⟨a, us, rfl, h1, k⟩ := hv.seq O.sub e
            rw [hl] at h1
            refine ⟨a, us, rfl, h1, q _ [x] [.ref a] H' rfl r' (walk_enu e ?_ ?_ ?_)⟩
            · rintro i H ⟨us, y, h1, h2⟩
              rw [hl] at h1
              exact ⟨us, y, h1, h2⟩
            · rintro i H ⟨us, h1, h2⟩
              rw [hl] at h1
              exact ⟨us, h1, h2⟩
            · rintro i H y H' ⟨T, z, h1, h2, h3, h4⟩
              rw [hl]
              exact ⟨T, z, h1, h2, h3, fun us h => h4 us h⟩
def iZip' (fA : M (List D)) : M (List D) := fun ρ => (fA ρ).then fun ds ρ' => match ds with
  | [.lst xs, .lst ys] => .ok (zipD xs ys) ρ'
  | [.tup xs, .tup ys] => .ok (zipD xs ys) ρ'
  | _ => .stuck
theorem walk_zipG {x y : D} {a b : Addr} {ds es : List D} {J : It} {l : Bool} (e : itemsD x = some ds) (e' : itemsD y = some es) (l1 : isLst x = l) (l2 : isLst y = l)
    (hgo : ∀ i H, (∃ us ws u w, SqI c.K l H a us ∧ SqI c.K l H b ws ∧ us[i]? = some u ∧ ws[i]? = some w) → J.go i H) (hst : ∀ i H, (∃ us ws, SqI c.K l H a us ∧ SqI c.K l H b ws ∧ (us.length ≤ i ∨ ws.length ≤ i)) → J.stop i H)
    (hy : ∀ i H v H', J.yld i H v H' → ∃ T u w, v = .ref T ∧ H T = none ∧ H' = upd H T (.tup [u, w]) ∧ TurnAt c l a i H u ∧ TurnAt c l b i H w) : IsWalk c [x, y] [.ref a, .ref b] J (zipD ds es) := by
  refine ⟨(zipD ds es).length, fun H => SrcAt c l ds.length a H ∧ SrcAt c l es.length b H, fun i H v H' => ∃ T u w, v = .ref T ∧ H T = none ∧ H' = upd H T (.tup [u, w]) ∧ TurnAt c l a i H u ∧ TurnAt c l b i H w, ⟨?_, ?_, ?_⟩, rfl, ?_, ?_⟩
  · rintro i H hi ⟨⟨us, h1, h2⟩, ws, h3, h4⟩
    rw [zipD_length] at hi
    exact hgo i H ⟨us, ws, us[i]'(by omega), ws[i]'(by omega), h1, h3, List.getElem?_eq_getElem (by omega), List.getElem?_eq_getElem (by omega)⟩
  · rintro H ⟨⟨us, h1, h2⟩, ws, h3, h4⟩
    exact hst _ H ⟨us, ws, h1, h3, by rw [zipD_length]; omega⟩
  · intro i H y H' _ _ h
    exact hy i H y H' h
  · intro B ts vs ρ σ H r
    have r1 : Rep c B (some (.d y) :: some (.d x) :: ts) (some (.ref b) :: some (.ref a) :: vs) ρ σ H := r
    have s2 := src_of e' r1
    have s1 := src_of e r1.drop
    rw [l1] at s1
    rw [l2] at s2
    exact ⟨s1, s2⟩
  · rintro B ts vs ρ σ H k v H' hk r ⟨T, u, w, rfl, hT, rfl, t1, t2⟩
    have r1 : Rep c B (some (.d y) :: some (.d x) :: ts) (some (.ref b) :: some (.ref a) :: vs) ρ σ H := r
    obtain ⟨G, O, hx, hy⟩ := r1.top2
    obtain ⟨a', us, e1, h1, k1⟩ := hx.seq O.sub e
    cases e1
    obtain ⟨b', ws, e2, h2, k2⟩ := hy.seq O.sub e'
    cases e2
    rw [l1] at h1
    rw [l2] at h2
    obtain ⟨d, ed, hd⟩ := k1.getV (t1 us h1)
    obtain ⟨d', ed', hd'⟩ := k2.getV (t2 ws h2)
    exact ⟨_, zipD_get ds es k d d' ed ed', O.new hT rfl fun G' m e' => .tup (.inl (.inl e')) (.cons (hd.mono m) (.cons (hd'.mono m) .nil))⟩
theorem di_zip (h : DenA c W tA fA) : DenI c W (RZ.iZipA c.K tA) (iZip' fA) := fun B ts vs ρ σ H R r q => by
  unfold iZip' at q
  rw [post_then] at q
  refine h B ts vs ρ σ H _ r (q.imp1 fun ds ρ' p us H' hlen r' => ?_)
  split at p
  · rename_i xs ys
    match us, hlen with
    | [v, w], _ =>
      have r1 : Rep c B (some (.d (.lst ys)) :: some (.d (.lst xs)) :: ts) (some w :: some v :: vs) ρ' σ H' := r'
      obtain ⟨G, O, hx, hy⟩ := r1.top2
      obtain ⟨a, us, rfl, h1, k1⟩ := hx.seq O.sub rfl
      obtain ⟨b, ws, rfl, h2, k2⟩ := hy.seq O.sub rfl
      refine ⟨a, b, us, ws, rfl, .inl ⟨h1, h2, p _ [.lst xs, .lst ys] [.ref a, .ref b] H' rfl r' (walk_zipG (l := true) rfl rfl rfl rfl ?_ ?_ ?_)⟩⟩
      · rintro i H ⟨us, ws, u, w, h1, h2, h3, h4⟩
        exact ⟨us, ws, u, w, h1, h2, h3, h4⟩
      · rintro i H ⟨us, ws, h1, h2, h3⟩
        exact ⟨us, ws, h1, h2, h3⟩
      · rintro i H v H' ⟨T, u, w, h1, h2, h3, h4, h5⟩
        exact ⟨T, u, w, h1, h2, h3, fun us h => h4 us h, fun us h => h5 us h⟩
  · rename_i xs ys
    match us, hlen with
    | [v, w], _ =>
      have r1 : Rep c B (some (.d (.tup ys)) :: some (.d (.tup xs)) :: ts) (some w :: some v :: vs) ρ' σ H' := r'
      obtain ⟨G, O, hx, hy⟩ := r1.top2
      obtain ⟨a, us, rfl, h1, k1⟩ := hx.seq O.sub rfl
      obtain ⟨b, ws, rfl, h2, k2⟩ := hy.seq O.sub rfl
      refine ⟨a, b, us, ws, rfl, .inr ⟨h1, h2, p _ [.tup xs, .tup ys] [.ref a, .ref b] H' rfl r' (walk_zipG (l := false) rfl rfl rfl rfl ?_ ?_ ?_)⟩⟩
      · rintro i H ⟨us, ws, u, w, h1, h2, h3, h4⟩
        exact ⟨us, ws, u, w, h1, h2, h3, h4⟩
      · rintro i H ⟨us, ws, h1, h2, h3⟩
        exact ⟨us, ws, h1, h2, h3⟩
      · rintro i H v H' ⟨T, u, w, h1, h2, h3, h4, h5⟩
        exact ⟨T, u, w, h1, h2, h3, fun us h => h4 us h, fun us h => h5 us h⟩
  · exact p.elim
end

/-! ### comprehensions -/
def wipeE (ρ : En) : List Nat → En
  | [] => ρ
  | v :: vs => (wipeE ρ vs).set v none
theorem wipeE_at (ρ : En) : ∀ (vs : List Nat) (i : Nat), i ∈ vs → (wipeE ρ vs).set i none = wipeE ρ vs
  | v :: vs, i, h => by
    unfold wipeE
    by_cases hv : v = i
    · subst hv
      rw [List.set_set]
    · rw [List.set_comm _ _ hv, wipeE_at ρ vs i ((List.mem_cons.mp h).resolve_left fun e => hv e.symm)]
theorem wipeE_id {ρ : En} : ∀ {own : List Nat}, (∀ v ∈ own, ρ.set v none = ρ) → wipeE ρ own = ρ
  | [], _ => rfl
  | v :: own, h => by
    unfold wipeE
    rw [wipeE_id fun w hw => h w (List.mem_cons_of_mem _ hw), h v List.mem_cons_self]
theorem wipe_in (σ : L2.St) : ∀ (vs : List Nat) (i : Nat), i ∈ vs → (wipe σ vs)[i]? = if i < σ.length then some none else none
  | v :: vs, i, h => by
    unfold wipe
    by_cases hv : v = i
    · subst hv
      by_cases hl : v < σ.length
      · rw [if_pos hl, List.getElem?_set_self (by rw [wipe_length]; exact hl)]
      · rw [if_neg hl, List.getElem?_eq_none (by rw [List.length_set, wipe_length]; omega)]
    · rw [List.getElem?_set_ne hv, wipe_in σ vs i ((List.mem_cons.mp h).resolve_left fun e => hv e.symm)]
theorem wipe_off (σ : L2.St) : ∀ (vs : List Nat) (i : Nat), i ∉ vs → (wipe σ vs)[i]? = σ[i]?
  | [], i, _ => rfl
  | v :: vs, i, h => by
    unfold wipe
    rw [List.getElem?_set_ne fun e => h (by simp [e]), wipe_off σ vs i fun e => h (List.mem_cons_of_mem _ e)]
theorem Off.wipe {js own : List Nat} {σ σ' : L2.St} (h : ∀ j ∈ js, j ∈ own) (o : Off js (wipe σ own) σ') : wipe σ' own = wipe σ own := by
  have hl : σ'.length = σ.length := by rw [o.1, wipe_length]
  apply List.ext_getElem?
  intro i
  by_cases hi : i ∈ own
  · rw [wipe_in _ _ _ hi, wipe_in _ _ _ hi, hl]
  · rw [wipe_off _ _ _ hi, o.2 i fun z => hi (h i z)]
section
variable {c : Cfg} {B : Base} {ts : En} {vs : List (Option V)} {ρ : En} {σ : L2.St} {H : Hp}
theorem Rep.wipe (r : Rep c B ts vs ρ σ H) : ∀ own : List Nat, Rep c B ts vs (wipeE ρ own) (wipe σ own) H
  | [] => r
  | v :: own => (Rep.wipe r own).forget none
theorem Rep.unwipe : ∀ (own : List Nat), (∀ v ∈ own, ρ.set v none = ρ) → Rep c B ts vs ρ (L2.wipe σ own) H → Rep c B ts vs ρ σ H
  | [], _, r => r
  | v :: own, h, r => by
    refine Rep.unwipe own (fun w hw => h w (List.mem_cons_of_mem _ hw)) ?_
    have r1 := r.forget (i := v) ((L2.wipe σ own)[v]?.getD none)
    rw [h v List.mem_cons_self] at r1
    have e : (L2.wipe σ (v :: own)).set v ((L2.wipe σ own)[v]?.getD none) = L2.wipe σ own := by
      show ((L2.wipe σ own).set v none).set v _ = _
      rw [List.set_set]
      apply List.ext_getElem?
      intro i
      by_cases hi : v = i
      · subst hi
        by_cases hl : v < (L2.wipe σ own).length
        · rw [List.getElem?_set_self hl, List.getElem?_eq_getElem hl]
          rfl
        · rw [List.getElem?_eq_none (by rw [List.length_set]; omega), List.getElem?_eq_none (by omega)]
      · rw [List.getElem?_set_ne hi]
    rw [e] at r1
    exact r1
/-- back from a turn -/
theorem Rep.back {σ2 : L2.St} {own : List Nat} (e : L2.wipe σ2 own = L2.wipe σ own) (r : Rep c B ts vs ρ σ2 H) : Rep c B ts vs (wipeE ρ own) σ H := by
  have r1 := r.wipe own
  rw [e] at r1
  exact Rep.unwipe own (fun v hv => wipeE_at ρ own v hv) r1
theorem RpAll.tmpS {c : Cfg} {B : Base} {G H : Hp} {us : List V} {ds : List D} {own : Owns} (k : RpAll c G us ds) (h : Sl c B G H ts vs own) : Sl c B G H (tmp ds ++ ts) (tmv us ++ vs) own := k.rev.sl h
theorem Rep.insO {st : List D} {sv : List V} {p : Addr} (hl : sv.length = st.length) (r : Rep c B (tmp st ++ ts) (tmv sv ++ vs) ρ σ H) (hp : H p = none) :
    Rep c B (tmp st ++ (some (.o none (.lst [])) :: ts)) (tmv sv ++ (some (.ref p) :: vs)) ρ σ (upd H p (.lst [])) := by
  obtain ⟨G, o1, o2, k, h1, h2⟩ := r
  obtain ⟨a1, a2⟩ := h1.tmp hl
  have ow := own_new (o := .lst []) k hp
  exact ⟨G, p :: o1, o2, k.allocO hp, a1.tmpS (.o ⟨[], upd_same, .nil⟩ (fun _ e => nomatch e) (a2.mono (fun _ _ e => e) fun q hq => ow q (List.mem_append_left _ hq))), h2.mono (fun _ _ e => e) fun q hq => ow q (List.mem_append_right _ hq)⟩
theorem Rep.appT {st acc : List D} {sv : List V} {p : Addr} {y : D} {v : V} (hl : sv.length = st.length) (r : Rep c B (some (.d y) :: (tmp st ++ (some (.o none (.lst acc)) :: ts))) (some v :: (tmv sv ++ (some (.ref p) :: vs))) ρ σ H) :
    ∃ us, H p = some (.lst us) ∧ us.length = acc.length ∧ Rep c B (tmp st ++ (some (.o none (.lst (acc ++ [y]))) :: ts)) (tmv sv ++ (some (.ref p) :: vs)) ρ σ (upd H p (.lst (us ++ [v]))) := by
  obtain ⟨G, o1, o2, k, h1, h2⟩ := r
  cases h1 with
  | d hv h1 =>
    obtain ⟨a1, a2⟩ := h1.tmp hl
    cases a2 with
    | @o _ _ _ _ _ own hc hb a2 =>
      obtain ⟨us, e, ku⟩ := hc
      have nd := k.nd
      rw [List.cons_append, List.nodup_cons] at nd
      have ne : ∀ q ∈ own ++ o2, upd H p (.lst (us ++ [v])) q = H q := fun q hq => upd_ne fun z => nd.1 (z ▸ hq)
      refine ⟨us, e, ku.length, G, p :: own, o2, k.write (List.mem_append_left _ List.mem_cons_self) e rfl, a1.tmpS (.o ⟨_, upd_same, ku.snoc hv⟩ hb (a2.mono (fun _ _ e => e) fun q hq => ne q (List.mem_append_left _ hq))), h2.mono (fun _ _ e => e) fun q hq => ne q (List.mem_append_right _ hq)⟩
theorem Rep.accT {st acc : List D} {sv : List V} {p : Addr} (hl : sv.length = st.length) (r : Rep c B (tmp st ++ (some (.o none (.lst acc)) :: ts)) (tmv sv ++ (some (.ref p) :: vs)) ρ σ H) : Rep c B (some (.o none (.lst acc)) :: ts) (some (.ref p) :: vs) ρ σ H := r.dropN hl
end
/-- an exception may not leave a comprehension -/
def Out.calm {α : Type} : Out α → Out α
  | .err _ _ => .stuck
  | o => o
def W0 : WX := fun _ _ _ _ => False
def mComp (gm : D → M Unit) (ft : M Bool) (fe : M S) (own : List Nat) : List D → List D → En → Out (List D)
  | [], acc, ρ => .ok acc ρ
  | x :: xs, acc, ρ => (gm x ρ).calm.then fun _ ρ1 => (ft ρ1).calm.then fun b ρ2 => if b = true then (dv fe ρ2).calm.then fun y ρ3 => if small (acc.length + 1) then mComp gm ft fe own xs (acc ++ [y]) (wipeE ρ3 own) else .stuck
    else mComp gm ft fe own xs acc (wipeE ρ2 own)
def mLc (fI : M (List D)) (gm : D → M Unit) (ft : M Bool) (fe : M S) (own : List Nat) : M S := fun ρ => (fI ρ).then fun items ρ1 => (mComp gm ft fe own items [] (wipeE ρ1 own)).then fun ds ρ2 => .ok (.o none (.lst ds)) ρ2
theorem post_calm {α : Type} {K : α → En → Prop} {E E' : Err → En → Prop} {m : Out α} (h : Post K E m.calm) : Post K E' m := by
  cases m with
  | ok a ρ => exact h
  | err e ρ => exact h.elim
  | stuck => exact h
theorem calm_E {α : Type} {K : α → En → Prop} {E E' : Err → En → Prop} {m : Out α} (h : Post K E m.calm) : Post K E' m.calm := by
  cases m with
  | ok a ρ => exact h
  | err e ρ => exact h.elim
  | stuck => exact h
section
variable {c : Cfg} {W : WX} {wi : TI} {fI : M (List D)} {te : TE} {fe : M S} {tt : TT} {ft : M Bool} {g : TG} {gm : D → M Unit} {js own : List Nat}
theorem den_lc (h : DenI c W wi fI) (k : DenG c W0 g gm js) (kt : DenT c W0 tt ft) (ke : Den c W0 te fe) (hj : ∀ j ∈ js, j ∈ own) : Den c W (tLc wi g tt te own) (mLc fI gm ft fe own) := fun B ts vs ρ σ H Q r q => by
  unfold mLc at q
  rw [post_then] at q
  refine h B ts vs ρ σ H _ r (q.imp1 fun items ρ1 q J st sv H1 hl r1 w D hD => ?_)
  obtain ⟨n, Gw, Y, wk, rfl, hG, hY⟩ := w
  rw [post_then] at q
  refine lc_it wk (fun i H => ∃ ρ acc, Rep c B (tmp st ++ (some (.o none (.lst acc)) :: ts)) (tmv sv ++ (some (.ref D) :: vs)) ρ σ H ∧ (∀ v ∈ own, ρ.set v none = ρ) ∧
    Post (fun ds ρ2 => OkP c B ts vs σ Q (.o none (.lst ds)) ρ2) (ErrP c W B ts vs σ) (mComp gm ft fe own (items.drop i) acc ρ)) ⟨wipeE ρ1 own, [], ?_, fun v hv => wipeE_at ρ1 own v hv, q⟩ (fun i H _ ⟨ρ, acc, r, _⟩ => hG _ _ _ _ _ _ r) ?_ ?_
  · exact (Rep.insO hl r1 hD).back rfl
  · rintro i x H1 H2 hi ⟨ρ, acc, r, hw, q⟩ y
    obtain ⟨d, ed, r2⟩ := hY _ _ _ _ _ _ _ _ _ hi r y
    have hd : items.drop i = d :: items.drop (i + 1) := by
      rw [List.drop_eq_getElem_cons hi]
      rw [List.getElem?_eq_getElem hi] at ed
      cases ed
      rfl
    rw [hd] at q
    have q : Post _ _ ((gm d ρ).calm.then fun _ ρ1 => (ft ρ1).calm.then fun b ρ2 => _) := q
    rw [post_then] at q
    have r3 : Rep c B (some (.d d) :: (tmp st ++ (some (.o none (.lst acc)) :: ts))) (some x :: (tmv sv ++ (some (.ref D) :: vs))) ρ (L2.wipe σ own) H2 := by
      have := r2.wipe own
      have e := wipeE_id hw
      rw [e] at this
      exact this
    refine k B _ _ ρ _ H2 d x _ r3 (post_calm (q.imp1 fun _ ρ2 q σ2 H3 o r4 => ?_))
    have eo := Off.wipe hj o
    refine ⟨eo, ?_⟩
    rw [post_then] at q
    refine kt B _ _ ρ2 σ2 H3 _ r4 (post_calm (q.imp1 fun b ρ3 q H4 r5 => ?_))
    cases b with
    | false => exact ⟨wipeE ρ3 own, acc, r5.back eo, fun v hv => wipeE_at ρ3 own v hv, q⟩
    | true =>
      have q : Post _ _ ((dv fe ρ3).calm.then fun y ρ4 => _) := q
      rw [post_then] at q
      refine ke.dv r5 (post_calm (q.imp1 fun y ρ4 q v H5 r6 => ?_))
      split at q
      · rename_i hz
        obtain ⟨us, e1, e2, r7⟩ := Rep.appT hl r6
        refine ⟨us, e1, ?_, wipeE ρ4 own, acc ++ [y], r7.back eo, fun v hv => wipeE_at ρ4 own v hv, q⟩
        have := small_line hz
        omega
      · exact q.elim
  · rintro H1 ⟨ρ, acc, r, _, q⟩
    rw [List.drop_length] at q
    exact q _ H1 (r.accT hl)

def mComp2 (gm : D → M Unit) (ft : M Bool) (fI1 : M (List D)) (gm1 : D → M Unit) (ft1 : M Bool) (fe : M S) (own vs1 : List Nat) : List D → List D → En → Out (List D)
  | [], acc, ρ => .ok acc ρ
  | x :: xs, acc, ρ => (gm x ρ).calm.then fun _ ρ1 => (ft ρ1).calm.then fun b ρ2 => if b = true then (fI1 ρ2).calm.then fun items ρ3 => (mComp gm1 ft1 fe vs1 items acc (wipeE ρ3 vs1)).then fun acc' ρ4 => mComp2 gm ft fI1 gm1 ft1 fe own vs1 xs acc' (wipeE ρ4 own)
    else mComp2 gm ft fI1 gm1 ft1 fe own vs1 xs acc (wipeE ρ2 own)
def mLc2 (fI : M (List D)) (gm : D → M Unit) (ft : M Bool) (fI1 : M (List D)) (gm1 : D → M Unit) (ft1 : M Bool) (fe : M S) (own vs1 : List Nat) : M S := fun ρ => (fI ρ).then fun items ρ1 => (mComp2 gm ft fI1 gm1 ft1 fe own vs1 items [] (wipeE ρ1 own)).then fun ds ρ2 => .ok (.o none (.lst ds)) ρ2
theorem Rep.two_tmp {c : Cfg} {B : Base} {st st1 : List D} {sv sv1 : List V} {ts : En} {vs : List (Option V)} {ρ : En} {σ : L2.St} {H : Hp} : Rep c B (tmp st1 ++ (tmp st ++ ts)) (tmv sv1 ++ (tmv sv ++ vs)) ρ σ H ↔ Rep c B (tmp (st ++ st1) ++ ts) (tmv (sv ++ sv1) ++ vs) ρ σ H := by
  have e1 : tmp st1 ++ (tmp st ++ ts) = tmp (st ++ st1) ++ ts := by simp [tmp]
  have e2 : tmv sv1 ++ (tmv sv ++ vs) = tmv (sv ++ sv1) ++ vs := by simp [tmv]
  rw [e1, e2]
theorem den_lc2 {wi1 : TI} {fI1 : M (List D)} {tt1 : TT} {ft1 : M Bool} {g1 : TG} {gm1 : D → M Unit} {js1 vs1 : List Nat} (h : DenI c W wi fI) (k : DenG c W0 g gm js) (kt : DenT c W0 tt ft) (h1 : DenI c W0 wi1 fI1) (k1 : DenG c W0 g1 gm1 js1) (kt1 : DenT c W0 tt1 ft1) (ke : Den c W0 te fe)
    (hj : ∀ j ∈ js, j ∈ own) (hj1 : ∀ j ∈ js1, j ∈ vs1) (hv : ∀ j ∈ vs1, j ∈ own) : Den c W (tLc2 wi g tt wi1 g1 tt1 te own vs1) (mLc2 fI gm ft fI1 gm1 ft1 fe own vs1) := fun B ts vs ρ σ H Q r q => by
  unfold mLc2 at q
  rw [post_then] at q
  refine h B ts vs ρ σ H _ r (q.imp1 fun items ρ1 q J st sv H1 hl r1 w D hD => ?_)
  obtain ⟨n, Gw, Y, wk, rfl, hG, hY⟩ := w
  rw [post_then] at q
  let Pv : Nat → Hp → Prop := fun i H => ∃ ρ acc, Rep c B (tmp st ++ (some (.o none (.lst acc)) :: ts)) (tmv sv ++ (some (.ref D) :: vs)) ρ σ H ∧ (∀ v ∈ own, ρ.set v none = ρ) ∧
    Post (fun ds ρ2 => OkP c B ts vs σ Q (.o none (.lst ds)) ρ2) (ErrP c W B ts vs σ) (mComp2 gm ft fI1 gm1 ft1 fe own vs1 (items.drop i) acc ρ)
  refine ⟨fun i m H => m = items.length - i ∧ i ≤ items.length ∧ Pv i H, ⟨items.length, by simp, Nat.zero_le _, wipeE ρ1 own, [], (Rep.insO hl r1 hD).back rfl, fun v hv => wipeE_at ρ1 own v hv, q⟩, ?_⟩
  rintro i m H1 ⟨rfl, hi, ρ, acc, r, hw, q⟩
  have hg := hG _ _ _ _ _ _ r
  by_cases hlt : i < items.length
  · refine .inr ⟨wk.goes i H1 hlt hg, Pv (i + 1), fun H' p => ⟨items.length - (i + 1), by omega, rfl, hlt, p⟩, fun x H2 y => ?_⟩
    obtain ⟨d, ed, r2⟩ := hY _ _ _ _ _ _ _ _ _ hlt r (wk.yields i H1 x H2 hlt hg y)
    have hd : items.drop i = d :: items.drop (i + 1) := by
      rw [List.drop_eq_getElem_cons hlt]
      rw [List.getElem?_eq_getElem hlt] at ed
      cases ed
      rfl
    rw [hd] at q
    have q : Post _ _ ((gm d ρ).calm.then fun _ ρ1 => (ft ρ1).calm.then fun b ρ2 => _) := q
    rw [post_then] at q
    have r3 : Rep c B (some (.d d) :: (tmp st ++ (some (.o none (.lst acc)) :: ts))) (some x :: (tmv sv ++ (some (.ref D) :: vs))) ρ (L2.wipe σ own) H2 := by
      have := r2.wipe own
      rw [wipeE_id hw] at this
      exact this
    refine k B _ _ ρ _ H2 d x _ r3 (post_calm (q.imp1 fun _ ρ2 q σ2 H3 o r4 => ?_))
    have eo := Off.wipe hj o
    refine ⟨eo, ?_⟩
    rw [post_then] at q
    refine kt B _ _ ρ2 σ2 H3 _ r4 (post_calm (q.imp1 fun b ρ3 q H4 r5 => ?_))
    cases b with
    | false => exact ⟨wipeE ρ3 own, acc, r5.back eo, fun v hv => wipeE_at ρ3 own v hv, q⟩
    | true =>
      have q : Post _ _ ((fI1 ρ3).calm.then fun items1 ρ4 => _) := q
      rw [post_then] at q
      refine h1 B _ _ ρ3 σ2 H4 _ r5 (post_calm (q.imp1 fun items1 ρ4 q J1 st1 sv1 H5 hl1 r6 w1 => ?_))
      obtain ⟨n1, Gw1, Y1, wk1, rfl, hG1, hY1⟩ := w1
      have q : Post _ _ ((mComp gm1 ft1 fe vs1 items1 acc (wipeE ρ4 vs1)).then fun acc' ρ5 => _) := q
      rw [post_then] at q
      have hll : (sv ++ sv1).length = (st ++ st1).length := by simp [hl, hl1]
      let Pv1 : Nat → Hp → Prop := fun j H => ∃ ρ acc, Rep c B (tmp st1 ++ (tmp st ++ (some (.o none (.lst acc)) :: ts))) (tmv sv1 ++ (tmv sv ++ (some (.ref D) :: vs))) ρ σ2 H ∧ (∀ v ∈ vs1, ρ.set v none = ρ) ∧
        Post (fun acc' ρ5 => Post (fun ds ρ2 => OkP c B ts vs σ Q (.o none (.lst ds)) ρ2) (ErrP c W B ts vs σ) (mComp2 gm ft fI1 gm1 ft1 fe own vs1 (items.drop (i + 1)) acc' (wipeE ρ5 own))) (ErrP c W B ts vs σ) (mComp gm1 ft1 fe vs1 (items1.drop j) acc ρ)
      refine ⟨fun j m H => m = items1.length - j ∧ j ≤ items1.length ∧ Pv1 j H, ⟨items1.length, by simp, Nat.zero_le _, wipeE ρ4 vs1, acc, r6.back rfl, fun v hv => wipeE_at ρ4 vs1 v hv, q⟩, ?_⟩
      rintro j m H6 ⟨rfl, hj', ρ5, acc5, r7, hw7, q⟩
      have hg1 := hG1 _ _ _ _ _ _ r7
      by_cases hlt1 : j < items1.length
      · refine .inr ⟨wk1.goes j H6 hlt1 hg1, Pv1 (j + 1), fun H' p => ⟨items1.length - (j + 1), by omega, rfl, hlt1, p⟩, fun x1 H7 y1 => ?_⟩
        obtain ⟨d1, ed1, r8⟩ := hY1 _ _ _ _ _ _ _ _ _ hlt1 r7 (wk1.yields j H6 x1 H7 hlt1 hg1 y1)
        have hd1 : items1.drop j = d1 :: items1.drop (j + 1) := by
          rw [List.drop_eq_getElem_cons hlt1]
          rw [List.getElem?_eq_getElem hlt1] at ed1
          cases ed1
          rfl
        rw [hd1] at q
        have q : Post _ _ ((gm1 d1 ρ5).calm.then fun _ ρ1 => (ft1 ρ1).calm.then fun b ρ2 => _) := q
        rw [post_then] at q
        have r9 : Rep c B (some (.d d1) :: (tmp st1 ++ (tmp st ++ (some (.o none (.lst acc5)) :: ts)))) (some x1 :: (tmv sv1 ++ (tmv sv ++ (some (.ref D) :: vs)))) ρ5 (L2.wipe σ2 vs1) H7 := by
          have := r8.wipe vs1
          rw [wipeE_id hw7] at this
          exact this
        refine k1 B _ _ ρ5 _ H7 d1 x1 _ r9 (post_calm (q.imp1 fun _ ρ6 q σ3 H8 o1 r10 => ?_))
        have eo1 := Off.wipe hj1 o1
        refine ⟨eo1, ?_⟩
        rw [post_then] at q
        refine kt1 B _ _ ρ6 σ3 H8 _ r10 (post_calm (q.imp1 fun b ρ7 q H9 r11 => ?_))
        cases b with
        | false => exact ⟨wipeE ρ7 vs1, acc5, r11.back eo1, fun v hv => wipeE_at ρ7 vs1 v hv, q⟩
        | true =>
          have q : Post _ _ ((dv fe ρ7).calm.then fun y ρ8 => _) := q
          rw [post_then] at q
          refine ke.dv r11 (post_calm (q.imp1 fun y ρ8 q v H10 r12 => ?_))
          split at q
          · rename_i hz
            have r12' : Rep c B (some (.d y) :: (tmp (st ++ st1) ++ (some (.o none (.lst acc5)) :: ts))) (some v :: (tmv (sv ++ sv1) ++ (some (.ref D) :: vs))) ρ8 σ3 H10 := by
              have e1 : tmp st1 ++ (tmp st ++ (some (S.o none (.lst acc5)) :: ts)) = tmp (st ++ st1) ++ (some (.o none (.lst acc5)) :: ts) := by simp [tmp]
              have e2 : tmv sv1 ++ (tmv sv ++ (some (V.ref D) :: vs)) = tmv (sv ++ sv1) ++ (some (.ref D) :: vs) := by simp [tmv]
              rw [← e1, ← e2]
              exact r12
            obtain ⟨us, e1, e2, r13⟩ := Rep.appT hll r12'
            refine ⟨us, e1, ?_, wipeE ρ8 vs1, acc5 ++ [y], (Rep.two_tmp.mpr r13).back eo1, fun v hv => wipeE_at ρ8 vs1 v hv, q⟩
            have := small_line hz
            omega
          · exact q.elim
      · have e : j = items1.length := by omega
        subst e
        rw [List.drop_length] at q
        refine .inl ⟨wk1.stops H6 hg1, wipeE ρ5 own, acc5, (Rep.dropN hl1 r7).back eo, fun v hv => wipeE_at ρ5 own v hv, q⟩
  · have e : i = items.length := by omega
    subst e
    rw [List.drop_length] at q
    exact .inl ⟨wk.stops H1 hg, q _ H1 (r.accT hl)⟩
end
end Fx

/-! defs, their calls, fields, what is made -/
namespace Fx
open PySem PySem.Spec PyProof.Rows L2
open C8 (Cal Mak pe_c pe_mk)

/-! ### states within states -/
def er : S → S
  | .d x => .d x
  | .o _ x => .o none x
  | .q ks dss => .q ks dss
def erE (es : En) : En := es.map (Option.map er)
def bare (s : S) : Bool := match s with
  | .d _ => true
  | .o none _ => true
  | .o (some _) _ => false
  | .q _ _ => false
section
variable {c : Cfg} {B B' : Base} {G G' H H' : Hp} {ts es es' : En} {vs ws : List (Option V)} {ρ : En} {σ : L2.St} {own own' : Owns}
theorem Sl.er : ∀ {es : En} {vs : List (Option V)} {own : Owns}, Sl c B G H es vs own → Sl c B' G H (erE es) vs own
  | _, _, _, .nil => .nil
  | _, _, _, .skip k => .skip (Sl.er k)
  | _, _, _, .d h k => .d h (Sl.er k)
  | _, _, _, .o h _ k => .o h (fun _ e => nomatch e) (Sl.er k)
  | _, _, _, .q h k => .q h (Sl.er k)
theorem Sl.unflag : ∀ {es : En} {vs : List (Option V)} {own own' : Owns}, Sl c B G H es vs own → Sl c B' G' H' (erE es) vs own' → Sl c B G' H' es vs own'
  | [], _, _, _, .nil, h => by
    cases h
    exact .nil
  | none :: es, _, _, _, .skip k, h => by
    have h : Sl c B' G' H' (none :: erE es) _ _ := h
    cases h with
    | skip h => exact .skip (Sl.unflag k h)
  | some (.d x) :: es, _, _, _, .d _ k, h => by
    have h : Sl c B' G' H' (some (.d x) :: erE es) _ _ := h
    cases h with
    | d h1 h => exact .d h1 (Sl.unflag k h)
  | some (.o b x) :: es, _, _, _, .o _ hb k, h => by
    have h : Sl c B' G' H' (some (.o none x) :: erE es) _ _ := h
    cases h with
    | o h1 _ h2 => exact .o h1 hb (Sl.unflag k h2)
  | some (.q ks dss) :: es, _, _, _, .q _ k, h => by
    have h : Sl c B' G' H' (some (.q ks dss) :: erE es) _ _ := h
    cases h with
    | q h1 h2 => exact .q h1 (Sl.unflag k h2)
theorem Sl.app : ∀ {es : En} {vs : List (Option V)} {o1 o2 : Owns}, Sl c B G H es vs o1 → Sl c B G H es' ws o2 → Sl c B G H (es ++ es') (vs ++ ws) (o1 ++ o2)
  | _, _, _, _, .nil, h => h
  | _, _, _, _, .skip k, h => .skip (Sl.app k h)
  | _, _, _, _, .d a k, h => .d a (Sl.app k h)
  | _, _, _, _, .o a b k, h => .o a b (Sl.app k h)
  | _, _, _, _, .q a k, h => by
    rw [List.append_assoc]
    exact .q a (Sl.app k h)
theorem Sl.split : ∀ {es : En} {vs : List (Option V)} {own : Owns}, es.length = vs.length → Sl c B G H (es ++ es') (vs ++ ws) own → ∃ o1 o2, own = o1 ++ o2 ∧ Sl c B G H es vs o1 ∧ Sl c B G H es' ws o2
  | [], [], own, _, h => ⟨[], own, rfl, .nil, h⟩
  | [], _ :: _, _, e, _ => by simp at e
  | _ :: _, [], _, e, _ => by simp at e
  | none :: es, v :: vs, _, e, h => by
    have h : Sl c B G H (none :: (es ++ es')) (v :: (vs ++ ws)) _ := h
    cases h with
    | skip h =>
      obtain ⟨o1, o2, rfl, h1, h2⟩ := Sl.split (by simpa using e) h
      exact ⟨o1, o2, rfl, .skip h1, h2⟩
  | some (.d x) :: es, v :: vs, _, e, h => by
    have h : Sl c B G H (some (.d x) :: (es ++ es')) (v :: (vs ++ ws)) _ := h
    cases h with
    | d a h =>
      obtain ⟨o1, o2, rfl, h1, h2⟩ := Sl.split (by simpa using e) h
      exact ⟨o1, o2, rfl, .d a h1, h2⟩
  | some (.o b x) :: es, v :: vs, _, e, h => by
    have h : Sl c B G H (some (.o b x) :: (es ++ es')) (v :: (vs ++ ws)) _ := h
    cases h with
    | o a hb h3 =>
      obtain ⟨o1, o2, rfl, h1, h2⟩ := Sl.split (by simpa using e) h3
      exact ⟨_ :: o1, o2, rfl, .o a hb h1, h2⟩
  | some (.q ks dss) :: es, v :: vs, _, e, h => by
    have h : Sl c B G H (some (.q ks dss) :: (es ++ es')) (v :: (vs ++ ws)) _ := h
    cases h with
    | q a h3 =>
      obtain ⟨o1, o2, rfl, h1, h2⟩ := Sl.split (by simpa using e) h3
      exact ⟨_ ++ o1, o2, by rw [List.append_assoc], .q a h1, h2⟩
theorem RpAll.slot {us : List V} {ds : List D} (k : RpAll c G us ds) : Sl c B G H (ds.map fun x => some (S.d x)) (us.map some) [] := by
  have := k.sl (B := B) (H := H) (ts := []) (vs := []) (own := []) .nil
  rwa [List.append_nil, List.append_nil] at this
theorem OkB.anyB (k : OkB c B G H own) : OkB c B' G H own := ⟨k.sub, k.notbl, k.nd, k.out, k.tabs⟩
/-- into a def: what waits are its arguments, all else waits -/
theorem Rep.enter {ds : List D} {us : List V} (hl : us.length = ds.length) (r : Rep c B (tmp ds ++ ts) (tmv us ++ vs) ρ σ H) : Rep c B' (erE ts ++ erE ρ) (vs ++ σ) (ds.map fun x => some (S.d x)) (us.map some) H := by
  obtain ⟨G, o1, o2, k, h1, h2⟩ := r
  obtain ⟨a1, a2⟩ := h1.tmp hl
  exact ⟨G, o1 ++ o2, [], by rw [List.append_nil]; exact k.anyB, (a2.er).app h2.er, a1.slot⟩
/-- back from it -/
theorem Rep.leave {s : S} {v : V} {ρ' : En} {σ' : L2.St} {H0 : Hp} (hs : bare s = true) (r0 : Rep c B ts vs ρ σ H0) (r : Rep c B' (some s :: (erE ts ++ erE ρ)) (some v :: (vs ++ σ)) ρ' σ' H) : Rep c B (some s :: ts) (some v :: vs) ρ σ H := by
  obtain ⟨G0, p1, p2, k0, g1, g2⟩ := r0
  obtain ⟨G, o1, o2, k, h1, h2⟩ := r
  obtain ⟨w, os, o1', ew, e1, rfl, h1'⟩ := h1.unone
  cases ew
  obtain ⟨q1, q2, rfl, f1, f2⟩ := h1'.split (by rw [show (erE ts).length = ts.length by simp [erE]]; exact g1.length)
  have e1' : En1 c B G H s v os := by
    cases e1 with
    | d h => exact .d h
    | @o a b x hc hb =>
      cases b with
      | none => exact .o hc fun _ e => nomatch e
      | some k => cases hs
    | q h => cases hs
  refine ⟨G, os ++ q1, q2, k.anyB.subO (fun p hp => ?_) ?_, Sl.one e1' (g1.unflag f1), g2.unflag f2⟩
  · simp only [List.mem_append] at hp ⊢
    rcases hp with (hp | hp) | hp
    · exact .inl (.inl hp)
    · exact .inl (.inr (.inl hp))
    · exact .inl (.inr (.inr hp))
  · refine k.nd.sublist ?_
    rw [List.append_assoc os]
    exact List.sublist_append_left _ _
theorem Rep.leaveE {ρ' : En} {σ' : L2.St} {H0 : Hp} (r0 : Rep c B ts vs ρ σ H0) (r : Rep c B' (erE ts ++ erE ρ) (vs ++ σ) ρ' σ' H) : Rep c B ts vs ρ σ H := by
  obtain ⟨G0, p1, p2, k0, g1, g2⟩ := r0
  obtain ⟨G, o1, o2, k, h1', h2⟩ := r
  obtain ⟨q1, q2, rfl, f1, f2⟩ := h1'.split (by rw [show (erE ts).length = ts.length by simp [erE]]; exact g1.length)
  refine ⟨G, q1, q2, k.anyB.subO (fun p hp => List.mem_append_left _ hp) (k.nd.sublist (List.sublist_append_left _ _)), g1.unflag f1, g2.unflag f2⟩
end

/-! ### defs -/
abbrev Fn := List S → Out S
/-- a def of np parameters and nN names, by its body -/
def runF (np nN : Nat) (body : M Fl) : Fn := fun args => if args.length = np then match body (args.map some ++ List.replicate (nN - np) none) with
    | .ok (.rt s) ρ => .ok s ρ
    | .ok .nx ρ => .ok (.d .non) ρ
    | .err e ρ => .err e ρ
    | _ => .stuck
  else .stuck
/-- what a def promises that nothing leaves by an exception -/
def spF (c : Cfg) (F : Fn) : Sp := fun vs H Q _ => ∃ B ts ws args, Rep c B ts ws (args.map some) (vs.map some) H ∧ Post (fun s ρ' => ∀ v σ' H', Rep c B (some s :: ts) (some v :: ws) ρ' σ' H' → Q v H') (fun _ _ => False) (F args)
theorem Rep.slots {c : Cfg} {B : Base} {ts : En} {vs : List (Option V)} {ρ : En} {σ : L2.St} {H : Hp} (n : Nat) (r : Rep c B ts vs ρ σ H) : Rep c B ts vs (ρ ++ List.replicate n none) (σ ++ List.replicate n none) H := by
  obtain ⟨G, o1, o2, k, h1, h2⟩ := r
  have : ∀ n : Nat, Sl c B G H (List.replicate n none) (List.replicate n none) [] := by
    intro n
    induction n with
    | zero => exact .nil
    | succ n ih => exact .skip ih
  refine ⟨G, o1, o2, k, h1, ?_⟩
  have := h2.app (this n)
  rwa [List.append_nil] at this
section
variable {P : Program} {w : World} {K : PySem.W.Frag} {mg : Str → Option Value} {base : Heap}
theorem fn_den {c : Cfg} {x qual : Str} {st : Stmt} {f : Addr} {fd : FuncData} {N ps : List Str} {k : Nat} {body : M Fl} (F : Fun K x qual st f fd) (Sc : FnScope N ps (defScope st))
    (hbody : ∀ (cdv : Value) (A : Around) (outer : List Env) (s : Shared) (H : Hp) (E : XK), Room k (A.deeper (envOfC qual (defScope st) s.heap.objs.size f cdv)) →
      ∃ t, PSs (cxOf L2.CX0 P w K mg base N qual (defScope st) f cdv A outer s H E).nox (defBody st) t ∧ DenS c W0 t body) : FnOk P w K mg base L2.CX0 (k + 1) f fd ps (spF c (runF ps.length N.length body)) := by
  have len : ∀ vs H Q E, spF c (runF ps.length N.length body) vs H Q E → vs.length = ps.length := by
    rintro vs H Q E ⟨B, ts, ws, args, r, p⟩
    obtain ⟨G, o1, o2, k, h1, h2⟩ := r
    have e := h2.length
    rw [List.length_map, List.length_map] at e
    unfold runF at p
    split at p
    · rename_i ha
      omega
    · exact p.elim
  refine F.ok Sc len fun cdv A outer s H vs Q E hr h => ?_
  have hl := len vs H Q E h
  obtain ⟨B, ts, ws, args, r, p⟩ := h
  obtain ⟨t, h1, h2⟩ := hbody cdv A outer s H E hr
  refine ⟨t, h1, ?_⟩
  unfold runF at p
  split at p
  · rename_i ha
    have r2 := r.slots (N.length - ps.length)
    have e1 : vs.map some ++ List.replicate (N.length - ps.length) none = L2.start N vs := by
      unfold L2.start
      rw [hl]
    rw [e1] at r2
    refine h2 B ts ws _ _ H _ r2 ?_
    cases hb : body (args.map some ++ List.replicate (N.length - ps.length) none) with
    | stuck => rw [hb] at p; exact p.elim
    | err e ρ => rw [hb] at p; exact p.elim
    | ok f ρ =>
      rw [hb] at p
      cases f with
      | rt s => exact fun v σ' H' r' => p v σ' H' r'
      | nx => exact fun σ' H' r' => p .non σ' H' (Rep.repl (ds := []) (us := []) r' rfl fun G _ => .non)
      | bk => exact p.elim
      | ct => exact p.elim
  · exact p.elim
end

/-! ### calls -/
def mCall (F : Fn) (fA : M (List D)) : M S := fun ρ => (fA ρ).then fun ds ρ1 => match F (ds.map .d) with
  | .ok s _ => if bare s then .ok s ρ1 else .stuck
  | _ => .stuck
section
variable {c : Cfg} {W : WX} {tA : TA} {fA : M (List D)} {F : Fn} {E : XK}
theorem den_call (h : DenA c W tA fA) : Den c W (tCall (spF c F) [] E tA) (mCall F fA) := fun B ts vs ρ σ H Q r q => by
  unfold mCall at q
  rw [post_then] at q
  refine h B ts vs ρ σ H _ r (q.imp1 fun ds ρ1 q us H1 hl r1 => ?_)
  show spF c F (us ++ []) H1 Q E
  rw [List.append_nil]
  refine ⟨⟨fun _ => none⟩, erE ts ++ erE ρ1, vs ++ σ, ds.map .d, by rw [List.map_map]; exact r1.enter hl, ?_⟩
  have r2 := r1.dropN hl
  cases hf : F (ds.map .d) with
  | stuck => rw [hf] at q; exact q.elim
  | err e ρ' => rw [hf] at q; exact q.elim
  | ok s ρ' =>
    rw [hf] at q
    have q : Post (OkP c B ts vs σ Q) (ErrP c W B ts vs σ) (if bare s then .ok s ρ1 else .stuck) := q
    split at q
    · rename_i hs
      exact fun v σ' H' r' => q v H' (Rep.leave hs r2 r')
    · exact q.elim
end

/-! ### an argument that may be changed -/
/-- the arguments but the one at slot i, which stands at place j -/
def OkC (c : Cfg) (B : Base) (ts : En) (vs : List (Option V)) (σ : L2.St) (i j : Nat) (Q : List V → Hp → Prop) (ds : List D) (ρ : En) : Prop :=
  ∀ us H' a, us.length = ds.length → Rep c B (tmp ds ++ ts) (tmv us ++ vs) ρ σ H' → σ[i]? = some (some (.ref a)) → j ≤ ds.length → Q (us.take j ++ .ref a :: us.drop j) H'
def DenC (c : Cfg) (W : WX) (tA : TA) (i j : Nat) (f : M (List D)) : Prop := ∀ B ts vs ρ σ H Q, Rep c B ts vs ρ σ H → Post (OkC c B ts vs σ i j Q) (ErrP c W B ts vs σ) (f ρ) → tA σ H Q
def isOwn (ρ : En) (i : Nat) : Bool := match ρ[i]? with
  | some (some (.o _ _)) => true
  | _ => false
def aOwn (i : Nat) (fr : M (List D)) : M (List D) := fun ρ => if isOwn ρ i then fr ρ else .stuck
section
variable {c : Cfg} {B B' : Base} {W : WX} {ta : TE} {fa : M S} {tr tA : TA} {fr fA : M (List D)} {F : Fn} {E : XK} {i j : Nat} {ts : En} {vs : List (Option V)} {ρ : En} {σ : L2.St} {H : Hp}
theorem dc_own (h : DenA c W tr fr) : DenC c W (tCons (tVar i) tr) i 0 (aOwn i fr) := fun B ts vs ρ σ H Q r q => by
  unfold aOwn at q
  split at q
  · rename_i ho
    unfold isOwn at ho
    split at ho
    · rename_i b x e
      obtain ⟨a, e1, _⟩ := r.varO e
      refine ⟨.ref a, e1, h B ts vs ρ σ H _ r (q.imp1 fun ds ρ1 q us H1 hl r1 => ?_)⟩
      exact q us H1 a hl r1 e1 (Nat.zero_le _)
    · cases ho
  · exact q.elim
theorem dc_cons (ha : Den c W ta fa) (hr : DenC c W tr i j fr) : DenC c W (tCons ta tr) i (j + 1) (aCons fa fr) := fun B ts vs ρ σ H Q r q => by
  unfold aCons at q
  rw [post_then] at q
  refine ha.dv r (q.imp1 fun x ρ1 h v H1 r1 => ?_)
  rw [post_then] at h
  refine hr B _ _ ρ1 σ H1 _ r1 (h.imp (fun ds ρ2 h us H2 a hl r2 e hj => ?_) fun _ _ h => h.drop)
  refine h (v :: us) H2 a (by simp [hl]) ?_ e (by simp; omega)
  unfold tmp tmv
  rw [List.reverse_cons, List.map_append, List.reverse_cons, List.map_append, List.append_assoc, List.append_assoc]
  exact r2
def mCallO (F : Fn) (i j : Nat) (fA : M (List D)) : M S := fun ρ => (fA ρ).then fun ds ρ1 => match ρ1[i]? with
  | some (some (.o b x)) => if j ≤ ds.length then match F ((ds.take j).map .d ++ .o (some j) x :: (ds.drop j).map .d) with
      | .ok s ρ' => match ρ'[j]? with
        | some (some (.o (some j') y)) => if j' = j ∧ bare s = true then .ok s (ρ1.set i (some (.o b y))) else .stuck
        | _ => .stuck
      | _ => .stuck
    else .stuck
  | _ => .stuck
/-- into a def with a cell -/
theorem Sl.takeO : ∀ {es : En} {vs : List (Option V)} {own : Owns} {i : Nat} {b : Option Nat} {x : D} {G : Hp}, Sl c B G H es vs own → es[i]? = some (some (.o b x)) → ∃ a own', vs[i]? = some (some (.ref a)) ∧ Cell c G H a x ∧ (∀ k, b = some k → B.at_ k = some a) ∧ Sl c B G H (es.set i none) vs own' ∧ (∀ p ∈ own, p = a ∨ p ∈ own') ∧ (∀ p ∈ own', p ∈ own) ∧ a ∈ own ∧ (own.Nodup → own'.Nodup ∧ a ∉ own')
  | _, _, _, _, _, _, _, .nil, e => by simp at e
  | _, _, _, 0, _, _, _, .skip k, e => by simp at e
  | _, _, _, 0, _, _, _, .d h k, e => by simp at e
  | _, _, a :: own, 0, _, _, _, .o h hb k, e => by
    simp at e
    obtain ⟨rfl, rfl⟩ := e
    exact ⟨a, own, rfl, h, hb, .skip k, fun p hp => List.mem_cons.mp hp, fun p hp => List.mem_cons_of_mem _ hp, List.mem_cons_self, fun nd => ⟨(List.nodup_cons.mp nd).2, (List.nodup_cons.mp nd).1⟩⟩
  | _, _, _, i + 1, _, _, _, .skip k, e => by
    obtain ⟨a, own', h1, h2, h3, h4, h5⟩ := Sl.takeO (i := i) k (by simpa using e)
    exact ⟨a, own', h1, h2, h3, .skip h4, h5⟩
  | _, _, _, i + 1, _, _, _, .d h k, e => by
    obtain ⟨a, own', h1, h2, h3, h4, h5⟩ := Sl.takeO (i := i) k (by simpa using e)
    exact ⟨a, own', h1, h2, h3, .d h h4, h5⟩
  | _, _, b :: own, i + 1, _, _, _, .o h hb k, e => by
    obtain ⟨a, own', h1, h2, h3, h4, h5, h6, h7, h8⟩ := Sl.takeO (i := i) k (by simpa using e)
    refine ⟨a, b :: own', h1, h2, h3, .o h hb h4, fun p hp => ?_, fun p hp => ?_, List.mem_cons_of_mem _ h7, fun nd => ?_⟩
    · rcases List.mem_cons.mp hp with rfl | hp
      · exact .inr List.mem_cons_self
      · exact (h5 p hp).imp id (List.mem_cons_of_mem _)
    · rcases List.mem_cons.mp hp with rfl | hp
      · exact List.mem_cons_self
      · exact List.mem_cons_of_mem _ (h6 p hp)
    · rw [List.nodup_cons] at nd
      obtain ⟨n1, n2⟩ := h8 nd.2
      refine ⟨List.nodup_cons.mpr ⟨fun hm => nd.1 (h6 _ hm), n1⟩, fun hm => ?_⟩
      rcases List.mem_cons.mp hm with rfl | hm
      · exact nd.1 h7
      · exact n2 hm
  | _, _, _, 0, _, _, _, .q h k, e => by simp at e
  | _, _, _, i + 1, _, _, _, @Sl.q _ _ _ _ _ _ _ _ _ qs own h k, e => by
    obtain ⟨a, own', h1, h2, h3, h4, h5, h6, h7, h8⟩ := Sl.takeO (i := i) k (by simpa using e)
    refine ⟨a, qs ++ own', h1, h2, h3, .q h h4, fun p hp => ?_, fun p hp => ?_, List.mem_append_right _ h7, fun nd => ?_⟩
    · rcases List.mem_append.mp hp with hp | hp
      · exact .inr (List.mem_append_left _ hp)
      · exact (h5 p hp).imp id (List.mem_append_right _)
    · rcases List.mem_append.mp hp with hp | hp
      · exact List.mem_append_left _ hp
      · exact List.mem_append_right _ (h6 p hp)
    · have n0 := List.nodup_append.mp nd
      obtain ⟨n1, n2⟩ := h8 n0.2.1
      refine ⟨nodup_sub nd h6 n1, fun hm => ?_⟩
      rcases List.mem_append.mp hm with hm | hm
      · exact n0.2.2 _ hm _ h7 rfl
      · exact n2 hm
theorem Sl.cons_inv {G : Hp} {s : Option S} {es : En} {v : Option V} {vs : List (Option V)} {own : Owns} (h : Sl c B G H (s :: es) (v :: vs) own) : (s = none ∧ Sl c B G H es vs own) ∨ (∃ w x, s = some (.d x) ∧ v = some w ∧ Rp c G w x ∧ Sl c B G H es vs own) ∨
    (∃ a b x o', s = some (.o b x) ∧ v = some (.ref a) ∧ own = a :: o' ∧ Cell c G H a x ∧ (∀ k, b = some k → B.at_ k = some a) ∧ Sl c B G H es vs o') ∨
    ∃ a ks dss os o', s = some (.q ks dss) ∧ v = some (.ref a) ∧ own = os ++ o' ∧ QCell c G H a ks dss os ∧ Sl c B G H es vs o' := by
  cases h with
  | skip k => exact .inl ⟨rfl, k⟩
  | d h k => exact .inr (.inl ⟨_, _, rfl, rfl, h, k⟩)
  | o h hb k => exact .inr (.inr (.inl ⟨_, _, _, _, rfl, rfl, rfl, h, hb, k⟩))
  | q h k => exact .inr (.inr (.inr ⟨_, _, _, _, _, rfl, rfl, rfl, h, k⟩))
theorem Sl.putO {G : Hp} : ∀ {es : En} {vs : List (Option V)} {own : Owns} {i : Nat} {b : Option Nat} {x : D} {a : Addr}, Sl c B G H (es.set i none) vs own → i < es.length → vs[i]? = some (some (.ref a)) → Cell c G H a x → (∀ k, b = some k → B.at_ k = some a) → ∃ own', Sl c B G H (es.set i (some (.o b x))) vs own' ∧ (∀ p ∈ own', p = a ∨ p ∈ own) ∧ (own.Nodup → a ∉ own → own'.Nodup)
  | [], _, _, _, _, _, _, _, hi, _, _, _ => by simp at hi
  | s :: es, v :: vs, own, 0, b, x, a, h, _, ev, hc, hb => by
    have h : Sl c B G H (none :: es) (v :: vs) own := h
    simp at ev
    subst ev
    cases h with
    | skip h => exact ⟨a :: own, .o hc hb h, fun p hp => List.mem_cons.mp hp, fun nd na => List.nodup_cons.mpr ⟨na, nd⟩⟩
  | s :: es, [], own, 0, b, x, a, h, _, ev, hc, hb => by simp at ev
  | s :: es, [], own, i + 1, b, x, a, h, _, ev, hc, hb => by simp at ev
  | s :: es, v :: vs, own, i + 1, b, x, a, h, hi, ev, hc, hb => by
    have hj : i < es.length := by simpa using hi
    have ew : vs[i]? = some (some (.ref a)) := by simpa using ev
    rcases Sl.cons_inv (show Sl c B G H (s :: es.set i none) (v :: vs) own from h) with ⟨rfl, k⟩ | ⟨w, y, rfl, rfl, hh, k⟩ | ⟨a', b', y, o', rfl, rfl, rfl, hh, hb', k⟩ | ⟨a', ks, dss, os, o', rfl, rfl, rfl, hh, k⟩
    · obtain ⟨own', h1, h2, h3⟩ := Sl.putO k hj ew hc hb
      exact ⟨own', .skip h1, h2, h3⟩
    · obtain ⟨own', h1, h2, h3⟩ := Sl.putO k hj ew hc hb
      exact ⟨own', .d hh h1, h2, h3⟩
    · obtain ⟨own', h1, h2, h3⟩ := Sl.putO k hj ew hc hb
      refine ⟨a' :: own', .o hh hb' h1, fun p hp => ?_, fun nd na => ?_⟩
      · rcases List.mem_cons.mp hp with rfl | hp
        · exact .inr List.mem_cons_self
        · exact (h2 p hp).imp id (List.mem_cons_of_mem _)
      · rw [List.nodup_cons] at nd
        rw [List.mem_cons, not_or] at na
        refine List.nodup_cons.mpr ⟨fun hm => ?_, h3 nd.2 na.2⟩
        rcases h2 a' hm with e | hm
        · exact na.1 e.symm
        · exact nd.1 hm
    · obtain ⟨own', h1, h2, h3⟩ := Sl.putO k hj ew hc hb
      refine ⟨os ++ own', .q hh h1, fun p hp => ?_, fun nd na => ?_⟩
      · rcases List.mem_append.mp hp with hp | hp
        · exact .inr (List.mem_append_left _ hp)
        · exact (h2 p hp).imp id (List.mem_append_right _)
      · rw [List.nodup_append] at nd ⊢
        rw [List.mem_append, not_or] at na
        refine ⟨nd.1, h3 nd.2.1 na.2, fun x hx y hy e => ?_⟩
        rcases h2 y hy with z | z
        · exact na.1 (z ▸ e ▸ hx)
        · exact nd.2.2 x hx y z e
theorem Rep.enterO {ds : List D} {us : List V} {b : Option Nat} {x : D} {a : Addr} (hl : us.length = ds.length) (hj : j ≤ ds.length) (r : Rep c B (tmp ds ++ ts) (tmv us ++ vs) ρ σ H) (e : ρ[i]? = some (some (.o b x))) (ev : σ[i]? = some (some (.ref a))) :
    Rep c ⟨fun k => if k = j then some a else none⟩ (erE ts ++ erE (ρ.set i none)) (vs ++ σ) (((ds.take j).map S.d ++ S.o (some j) x :: (ds.drop j).map S.d).map some) ((us.take j ++ V.ref a :: us.drop j).map some) H := by
  obtain ⟨G, o1, o2, k, h1, h2⟩ := r
  obtain ⟨a1, a2⟩ := h1.tmp hl
  obtain ⟨a', own', e1, hc, _, h3, m1, m2, m3, m4⟩ := h2.takeO e
  rw [ev] at e1
  cases e1
  have nd := k.nd
  rw [List.nodup_append] at nd
  obtain ⟨n1, n2, n3⟩ := nd
  obtain ⟨n4, n5⟩ := m4 n2
  refine ⟨G, o1 ++ own', [a], k.anyB.subO (fun p hp => ?_) ?_, (a2.er).app h3.er, ?_⟩
  · rcases List.mem_append.mp hp with hp | hp
    · rcases List.mem_append.mp hp with hp | hp
      · exact List.mem_append_left _ hp
      · exact List.mem_append_right _ (m2 p hp)
    · simp at hp
      subst hp
      exact List.mem_append_right _ m3
  · rw [List.nodup_append, List.nodup_append]
    refine ⟨⟨n1, n4, fun x hx y hy => n3 x hx y (m2 y hy)⟩, by simp, fun x hx y hy => ?_⟩
    simp at hy
    subst hy
    rcases List.mem_append.mp hx with hx | hx
    · exact n3 x hx _ m3
    · exact fun z => n5 (z ▸ hx)
  · rw [List.map_append, List.map_cons, List.map_append, List.map_cons, List.map_map, List.map_map]
    have s1 : Sl c ⟨fun k => if k = j then some a else none⟩ G H ((ds.take j).map fun x => some (S.d x)) ((us.take j).map some) [] := (a1.take j).slot
    have s2 : Sl c ⟨fun k => if k = j then some a else none⟩ G H ((ds.drop j).map fun x => some (S.d x)) ((us.drop j).map some) [] := (a1.drop j).slot
    exact s1.app (.o hc (fun k hk => by cases hk; simp) s2)
theorem Rep.leaveO {s : S} {v : V} {ρ' : En} {σ' : L2.St} {H0 : Hp} {b : Option Nat} {x y : D} {a : Addr} (hs : bare s = true) (r0 : Rep c B ts vs ρ σ H0) (e : ρ[i]? = some (some (.o b x))) (ev : σ[i]? = some (some (.ref a)))
    (r : Rep c ⟨fun k => if k = j then some a else none⟩ (some s :: (erE ts ++ erE (ρ.set i none))) (some v :: (vs ++ σ)) ρ' σ' H) (e' : ρ'[j]? = some (some (.o (some j) y))) : Rep c B (some s :: ts) (some v :: vs) (ρ.set i (some (.o b y))) σ H := by
  obtain ⟨G0, p1, p2, k0, g1, g2⟩ := r0
  obtain ⟨a0, own0, e0, _, hb0, g3, _⟩ := g2.takeO e
  rw [ev] at e0
  cases e0
  obtain ⟨G, o1, o2, k, h1, h2⟩ := r
  obtain ⟨w, os, o1', ew, e1, rfl, h1'⟩ := h1.unone
  cases ew
  obtain ⟨q1, q2, rfl, f1, f2⟩ := h1'.split (by rw [show (erE ts).length = ts.length by simp [erE]]; exact g1.length)
  have e1' : En1 c B G H s v os := by
    cases e1 with
    | d h => exact .d h
    | @o a b x hc hb =>
      cases b with
      | none => exact .o hc fun _ e => nomatch e
      | some k => cases hs
    | q h => cases hs
  obtain ⟨a2, e2, hc2, m2, hb2⟩ := h2.getO e'
  have ea : a2 = a := by
    have := hb2 j rfl
    simp at this
    exact this.symm
  subst ea
  have hi : i < ρ.length := (List.getElem?_eq_some_iff.mp e).1
  have nd := k.nd
  rw [List.nodup_append, List.nodup_append, List.nodup_append] at nd
  obtain ⟨⟨n1, ⟨n2, n3, n4⟩, n5⟩, n6, n7⟩ := nd
  have na : a2 ∉ q2 := fun hm => n7 a2 (List.mem_append_right _ (List.mem_append_right _ hm)) a2 m2 rfl
  obtain ⟨own', f3, m3, m4⟩ := Sl.putO (g3.unflag f2) hi ev hc2 hb0
  refine ⟨G, os ++ q1, own', k.anyB.subO (fun p hp => ?_) ?_, Sl.one e1' (g1.unflag f1), f3⟩
  · simp only [List.mem_append] at hp ⊢
    rcases hp with (hp | hp) | hp
    · exact .inl (.inl hp)
    · exact .inl (.inr (.inl hp))
    · rcases m3 p hp with rfl | hp
      · exact .inr m2
      · exact .inl (.inr (.inr hp))
  · rw [List.nodup_append, List.nodup_append]
    refine ⟨⟨n1, n2, fun x hx y hy => n5 x hx y (List.mem_append_left _ hy)⟩, m4 n3 na, fun x hx y hy => ?_⟩
    rcases m3 y hy with rfl | hy
    · rcases List.mem_append.mp hx with hx | hx
      · exact n7 x (List.mem_append_left _ hx) _ m2
      · exact n7 x (List.mem_append_right _ (List.mem_append_left _ hx)) _ m2
    · rcases List.mem_append.mp hx with hx | hx
      · exact n5 x hx y (List.mem_append_right _ hy)
      · exact n4 x hx y hy
theorem den_callO (h : DenC c W tA i j fA) : Den c W (tCall (spF c F) [] E tA) (mCallO F i j fA) := fun B ts vs ρ σ H Q r q => by
  unfold mCallO at q
  rw [post_then] at q
  refine h B ts vs ρ σ H _ r (q.imp1 fun ds ρ1 q us H1 a hl r1 ev hj => ?_)
  show spF c F (us.take j ++ V.ref a :: us.drop j ++ []) H1 Q E
  rw [List.append_nil]
  split at q
  · rename_i b x e
    rw [if_pos hj] at q
    refine ⟨_, _, _, _, r1.enterO hl hj e ev, ?_⟩
    have r2 := r1.dropN hl
    cases hf : F ((ds.take j).map .d ++ .o (some j) x :: (ds.drop j).map .d) with
    | stuck => rw [hf] at q; exact q.elim
    | err e ρ' => rw [hf] at q; exact q.elim
    | ok s ρ' =>
      rw [hf] at q
      have q2 : Post (OkP c B ts vs σ Q) (ErrP c W B ts vs σ) (match ρ'[j]? with
        | some (some (.o (some j') y)) => if j' = j ∧ bare s = true then .ok s (ρ1.set i (some (.o b y))) else .stuck
        | _ => .stuck) := q
      clear q
      split at q2
      · rename_i j' y e'
        split at q2
        · rename_i hh
          obtain ⟨rfl, hs⟩ := hh
          exact fun v σ' H' r' => q2 v H' (Rep.leaveO hs r2 e ev r' e')
        · exact q2.elim
      · exact q2.elim
  · exact q.elim
end

/-! ### fields -/
/-- what the text tells of a class, of a field of it -/
structure FldOk (c : Cfg) (n : String) (f : Str) (i : Nat) : Prop where
  cl : Cls c.K (c.cls n)
  na : NoAttr c.K (c.cls n) f
  at_ : (c.flds n)[i]? = some f
  nd : (c.flds n).Nodup
def gFld (n : String) (i : Nat) : D → Option S
  | .ins m ds => if m = n then (ds[i]?).bind ok1 else none
  | _ => none
def mFldE (n : String) (i : Nat) (fe : M S) : M S := mUn (gFld n i) fe
/-- a field of a name's cell -/
def mFldO (n : String) (i k : Nat) : M S := fun ρ => match ρ[k]? with
  | some (some (.o _ (.ins m ds))) => if m = n then match ds[i]? with
      | some x => .ok (.d x) ρ
      | none => .stuck
    else .stuck
  | some (some (.d (.ins m ds))) => if m = n then match ds[i]? with
      | some x => .ok (.d x) ρ
      | none => .stuck
    else .stuck
  | _ => .stuck
section
variable {c : Cfg} {W : WX} {te : TE} {fe : M S} {n : String} {f : Str} {i k : Nat}
theorem lookup_at : ∀ {fs : List (Str × V)} {i : Nat} {f : Str}, (fs.map (·.1)).Nodup → (fs.map (·.1))[i]? = some f → ∃ v, fs.lookup f = some v ∧ (fs.map (·.2))[i]? = some v
  | [], _, _, _, e => by simp at e
  | (g, v) :: fs, 0, f, nd, e => by
    simp at e
    subst e
    exact ⟨v, by simp, rfl⟩
  | (g, v) :: fs, i + 1, f, nd, e => by
    rw [List.map_cons, List.nodup_cons] at nd
    have e : (fs.map (·.1))[i]? = some f := by simpa using e
    obtain ⟨w, h1, h2⟩ := lookup_at nd.2 e
    refine ⟨w, ?_, h2⟩
    have ne : f ≠ g := fun z => nd.1 (z ▸ List.mem_of_getElem? e)
    rw [List.lookup_cons, beq_eq_false_iff_ne.mpr ne]
    exact h1
/-- the field's value, where the first of the fields stand -/
theorem fld_read {K : FldOk c n f i} {fs : List (Str × V)} {ds : List D} {G : Hp} {x : D} (hn : fs.map (·.1) = (c.flds n).take ds.length) (k : RpAll c G (fs.map (·.2)) ds) (e : ds[i]? = some x) : ∃ v, fs.lookup f = some v ∧ Rp c G v x := by
  have hi : i < ds.length := (List.getElem?_eq_some_iff.mp e).1
  have nd : (fs.map (·.1)).Nodup := by
    rw [hn]
    exact K.nd.sublist (List.take_sublist _ _)
  obtain ⟨v, h1, h2⟩ := lookup_at nd (by rw [hn, List.getElem?_take_of_lt hi]; exact K.at_)
  obtain ⟨d, h3, h4⟩ := k.getV h2
  rw [e] at h3
  cases h3
  exact ⟨v, h1, h4⟩
theorem Rp.insE {G : Hp} {v : V} {ds : List D} (h : Rp c G v (.ins n ds)) : ∃ a dx fs, v = .ref a ∧ G a = some (.ins (c.cls n) dx fs) ∧ fs.map (·.1) = c.flds n ∧ RpAll c G (fs.map (·.2)) ds := by cases h with | ins h1 h2 h3 => exact ⟨_, _, _, rfl, h1, h2, h3⟩
theorem take_all {fs : List (Str × V)} {ds : List D} {G : Hp} (hn : fs.map (·.1) = c.flds n) (k : RpAll c G (fs.map (·.2)) ds) : fs.map (·.1) = (c.flds n).take ds.length := by
  rw [← hn, ← k.length, List.length_map, ← List.length_map (f := (·.1)), List.take_length]
theorem den_fld (K : FldOk c n f i) (h : Den c W te fe) : Den c W (tFld c.K te f) (mFldE n i fe) := fun B ts vs ρ σ H Q r q => by
  unfold mFldE mUn at q
  rw [post_then] at q
  refine h.dv r (q.imp1 fun x ρ1 q v H1 r1 => ?_)
  cases x <;> first | exact q.elim | skip
  rename_i m ds
  have q : Post (OkP c B ts vs σ Q) (ErrP c W B ts vs σ) (match (if m = n then (ds[i]?).bind ok1 else none) with
    | some s => .ok s ρ1
    | none => .stuck) := q
  by_cases hm : m = n
  · subst hm
    rw [if_pos rfl] at q
    cases e : ds[i]? with
    | none => rw [e] at q; exact q.elim
    | some x =>
      rw [e] at q
      obtain ⟨G, O, hv⟩ := r1.one
      obtain ⟨a, dx, fs, rfl, ha, hn, k⟩ := hv.insE
      obtain ⟨w, h1, h2⟩ := fld_read (K := K) (take_all hn k) k e
      exact ⟨a, _, dx, fs, w, rfl, O.sub _ _ ha, K.cl, K.na, h1, q _ _ (O.val h2)⟩
  · rw [if_neg hm] at q
    exact q.elim
/-- .. by its getter -/
theorem den_prop (K : FldOk c n f i) (h : Den c W te fe) : Den c W (tProp (c.cls n) (getSp (c.cls n) f) [] E0 te) (mFldE n i fe) := fun B ts vs ρ σ H Q r q => by
  unfold mFldE mUn at q
  rw [post_then] at q
  refine h.dv r (q.imp1 fun x ρ1 q v H1 r1 => ?_)
  cases x <;> first | exact q.elim | skip
  rename_i m ds
  have q : Post (OkP c B ts vs σ Q) (ErrP c W B ts vs σ) (match (if m = n then (ds[i]?).bind ok1 else none) with
    | some s => .ok s ρ1
    | none => .stuck) := q
  by_cases hm : m = n
  · subst hm
    rw [if_pos rfl] at q
    cases e : ds[i]? with
    | none => rw [e] at q; exact q.elim
    | some x =>
      rw [e] at q
      obtain ⟨G, O, hv⟩ := r1.one
      obtain ⟨a, dx, fs, rfl, ha, hn, k⟩ := hv.insE
      obtain ⟨w, h1, h2⟩ := fld_read (K := K) (take_all hn k) k e
      exact ⟨a, dx, fs, rfl, O.sub _ _ ha, a, dx, fs, w, rfl, O.sub _ _ ha, h1, q _ _ (O.val h2)⟩
  · rw [if_neg hm] at q
    exact q.elim
theorem den_fldO (K : FldOk c n f i) : Den c W (tFld c.K (tVar k) f) (mFldO n i k) := fun B ts vs ρ σ H Q r q => by
  unfold mFldO at q
  split at q
  · rename_i b m ds e
    split at q
    · rename_i hm
      subst hm
      split at q
      · rename_i x ex
        obtain ⟨G, o1, o2, kk, h1, h2⟩ := id r
        obtain ⟨a, ev, hc, _, _⟩ := h2.getO e
        obtain ⟨dx, fs, ha, hn, ka⟩ := hc
        obtain ⟨w, h3, h4⟩ := fld_read (K := K) hn ka ex
        exact ⟨.ref a, ev, a, _, dx, fs, w, rfl, ha, K.cl, K.na, h3, q _ _ ⟨G, o1, o2, kk, .d h4 h1, h2⟩⟩
      · exact q.elim
    · exact q.elim
  · rename_i m ds e
    split at q
    · rename_i hm
      subst hm
      split at q
      · rename_i x ex
        obtain ⟨G, o1, o2, kk, h1, h2⟩ := id r
        obtain ⟨v, ev, hv⟩ := h2.getD e
        obtain ⟨a, dx, fs, rfl, ha, hn, ka⟩ := hv.insE
        obtain ⟨w, h3, h4⟩ := fld_read (K := K) (take_all hn ka) ka ex
        exact ⟨.ref a, ev, a, _, dx, fs, w, rfl, kk.sub _ _ ha, K.cl, K.na, h3, q _ _ ⟨G, o1, o2, kk, .d h4 h1, h2⟩⟩
      · exact q.elim
    · exact q.elim
  · exact q.elim
/-- self.f = e, the next of its fields -/
def mSetF (n : String) (i k : Nat) (fe : M S) : M Fl := fun ρ => (dv fe ρ).then fun x ρ1 => match ρ1[k]? with
  | some (some (.o b (.ins m ds))) => if m = n ∧ ds.length = i then .ok .nx (ρ1.set k (some (.o b (.ins m (ds ++ [x]))))) else .stuck
  | _ => .stuck
theorem putF_new : ∀ {fs : List (Str × V)} {f : Str} {v : V}, f ∉ fs.map (·.1) → (putF f v fs).map (·.1) = fs.map (·.1) ++ [f] ∧ (putF f v fs).map (·.2) = fs.map (·.2) ++ [v]
  | [], f, v, _ => by simp [putF]
  | (g, u) :: fs, f, v, h => by
    rw [List.map_cons, List.mem_cons, not_or] at h
    obtain ⟨h1, h2⟩ := putF_new (v := v) h.2
    have e : putF f v ((g, u) :: fs) = (g, u) :: putF f v fs := by
      show (if g = f then (g, v) :: fs else (g, u) :: putF f v fs) = _
      rw [if_neg (fun z => h.1 z.symm)]
    rw [e]
    simp [h1, h2]
theorem ds_setF (K : FldOk c n f i) (hi : (c.flds n).length ≤ 100) (h : Den c W te fe) : DenS c W (sFld c.K (tVar k) te f) (mSetF n i k fe) := fun B ts vs ρ σ H D r q0 => by
  unfold mSetF at q0
  rw [post_then] at q0
  refine h.dv r (q0.imp (fun x ρ1 q v H1 r1 => ?_) fun _ _ h => h.toP)
  split at q
  · rename_i b m ds e
    split at q
    · rename_i hm
      obtain ⟨rfl, hl⟩ := hm
      obtain ⟨a, ev, G, sub, dx, fs, ha, hn, ka⟩ := r1.varO e
      have hil : i < (c.flds m).length := (List.getElem?_eq_some_iff.mp K.at_).1
      have hfl : fs.length = ds.length := by
        have := ka.length
        simpa using this
      have nf : f ∉ fs.map (·.1) := by
        rw [hn, hl]
        intro hm
        obtain ⟨j, hj, ej⟩ := List.mem_iff_getElem.mp hm
        have hj2 : j < i := by
          rw [List.length_take] at hj
          omega
        rw [List.getElem_take] at ej
        have e2 := (List.getElem?_eq_some_iff.mp K.at_).2
        have := (List.getElem_inj K.nd).mp (ej.trans e2.symm)
        omega
      refine ⟨.ref a, ev, a, _, dx, fs, rfl, ha, K.cl, K.na, by omega, ?_⟩
      refine q _ _ (Rep.write (ds := [x]) (us := [v]) e ev rfl r1 ha rfl fun G H' e' hc hk => ?_)
      obtain ⟨dx', fs', ha', hn', ka'⟩ := hc
      rw [ha] at ha'
      cases ha'
      obtain ⟨p1, p2⟩ := putF_new (v := v) nf
      refine ⟨dx, _, e', ?_, ?_⟩
      · rw [p1, hn, List.length_append, List.length_singleton, hl, List.take_succ, K.at_]
        rfl
      · rw [p2]
        cases hk with
        | cons hk _ => exact ka'.snoc hk
    · exact q.elim
  · exact q.elim
end
/-- C(..) -/
def mMake (n : String) (nf : Nat) (F : Fn) (fA : M (List D)) : M S := fun ρ => (fA ρ).then fun ds ρ1 => match F (S.o (some 0) (D.ins n []) :: ds.map S.d) with
  | .ok (.d .non) ρ' => match (ρ'[0]? : Option (Option S)) with
    | some (some (.o (some j) (.ins m fs))) => if j = 0 ∧ m = n ∧ fs.length = nf then .ok (.d (.ins n fs)) ρ1 else .stuck
    | _ => .stuck
  | _ => .stuck
section
variable {c : Cfg} {W : WX} {tA : TA} {fA : M (List D)} {F : Fn} {n : String} {nf : Nat} {E : XK}
theorem Rep.foreign {B : Base} {ts : En} {vs : List (Option V)} {ρ : En} {σ : L2.St} {H : Hp} {p : Addr} {o : HO} (hp : H p = none) (r : Rep c B ts vs ρ σ H) : Rep c B ts vs ρ σ (upd H p o) := by
  obtain ⟨G, o1, o2, k, h1, h2⟩ := r
  have ow := own_new (o := o) k hp
  refine ⟨G, o1, o2, ⟨fun a u e => ?_, k.notbl, k.nd, fun q hq => ?_, tabs_new k.tabs hp⟩, h1.mono (fun _ _ e => e) fun q hq => ow q (List.mem_append_left _ hq), h2.mono (fun _ _ e => e) fun q hq => ow q (List.mem_append_right _ hq)⟩
  · rw [upd_ne (ne_of_none (k.sub a u e) hp)]
    exact k.sub a u e
  · rw [ow q hq]
    exact k.out q hq
theorem den_make (hnf : (c.flds n).length = nf) (h : DenA c W tA fA) : Den c W (tMake (c.cls n) (spF c F) [] E tA) (mMake n nf F fA) := fun B ts vs ρ σ H Q r q0 => by
  unfold mMake at q0
  rw [post_then] at q0
  refine h B ts vs ρ σ H _ r (q0.imp1 fun ds ρ1 q us H1 hl r1 => ?_)
  intro x dx hx hdx ne
  show spF c F (.ref x :: (us ++ [])) _ _ E
  rw [List.append_nil]
  have r2 := Rep.foreign (o := .own x) hdx r1
  have hx2 : upd H1 dx (.own x) x = none := by rw [upd_ne ne.symm]; exact hx
  have ra : Rep c ⟨fun k => if k = 0 then some x else none⟩ (erE ts ++ erE ρ1) (vs ++ σ) ((S.o (some 0) (.ins n []) :: ds.map S.d).map some) ((V.ref x :: us).map some) (upd (upd H1 dx (.own x)) x (.ins (c.cls n) dx [])) := by
    obtain ⟨G, o1, o2, k, h1, h2⟩ := r2
    obtain ⟨a1, a2⟩ := h1.tmp hl
    have k2 := (k.allocO (o := .ins (c.cls n) dx []) hx2)
    have ow := own_new (o := .ins (c.cls n) dx []) k hx2
    have nd := k2.nd
    rw [List.nodup_cons] at nd
    refine ⟨G, o1 ++ o2, [x], (k2.anyB).subO (fun p hp => ?_) ?_, ((a2.mono (fun _ _ e => e) fun q hq => ow q (List.mem_append_left _ hq)).er).app (h2.mono (fun _ _ e => e) fun q hq => ow q (List.mem_append_right _ hq)).er, ?_⟩
    · rcases List.mem_append.mp hp with hp | hp
      · exact List.mem_cons_of_mem _ hp
      · simp at hp
        subst hp
        exact List.mem_cons_self
    · rw [List.nodup_append]
      refine ⟨nd.2, by simp, fun y hy z hz => ?_⟩
      simp at hz
      subst hz
      exact fun e => nd.1 (e ▸ hy)
    · rw [List.map_cons, List.map_map]
      exact .o ⟨dx, [], upd_same, by simp, .nil⟩ (fun k hk => by cases hk; rfl) a1.slot
  refine ⟨_, _, _, _, ra, ?_⟩
  have r3 := r1.dropN hl
  cases hf : F (S.o (some 0) (D.ins n []) :: ds.map S.d) with
  | stuck => rw [hf] at q; exact q.elim
  | err e ρ' => rw [hf] at q; exact q.elim
  | ok s ρ' =>
    rw [hf] at q
    match s, q with
    | .d .non, q =>
      have q2 : Post (OkP c B ts vs σ Q) (ErrP c W B ts vs σ) (match (ρ'[0]? : Option (Option S)) with
        | some (some (.o (some j) (.ins m fs))) => if j = 0 ∧ m = n ∧ fs.length = nf then .ok (.d (.ins n fs)) ρ1 else .stuck
        | _ => .stuck) := q
      clear q
      split at q2
      · rename_i j m fs e'
        split at q2
        · rename_i hh
          obtain ⟨rfl, rfl, hfs⟩ := hh
          intro v σ' H' r'
          obtain ⟨G, o1, o2, k, h1, h2⟩ := r'
          obtain ⟨a, ev, hc, hm, hb⟩ := h2.getO e'
          have ea : a = x := by
            have := hb 0 rfl
            simp at this
            exact this.symm
          subst ea
          cases h1 with
          | d hv h1 =>
            cases hv
            refine ⟨rfl, q2 _ _ ?_⟩
            obtain ⟨dx', gs, ha, hn, ka⟩ := hc
            obtain ⟨G0, p1, p2, k0, g1, g2⟩ := r3
            obtain ⟨q1, q2, rfl, f1, f2⟩ := h1.split (by rw [show (erE ts).length = ts.length by simp [erE]]; exact g1.length)
            have nd := k.nd
            rw [List.nodup_append] at nd
            have gp := (k.out a (List.mem_append_right _ hm)).1
            have k3 : OkB c B (upd G a (.ins (c.cls m) dx' gs)) H' (q1 ++ q2) := (k.anyB).freeze (List.mem_append_right _ hm) ha rfl (fun q hq => ⟨List.mem_append_left _ hq, nd.2.2 q hq a hm⟩) nd.1
            refine ⟨_, q1, q2, k3, .d (.ins upd_same ?_ (ka.mono (upd_sub gp))) ((g1.unflag f1).mono (upd_sub gp) fun _ _ => rfl), (g2.unflag f2).mono (upd_sub gp) fun _ _ => rfl⟩
            rw [hn, hfs, ← hnf, List.take_length]
        · exact q2.elim
      · exact q2.elim
end
end Fx

/-! slices, chains, truth, isinstance, cells of names -/
namespace Fx
open PySem PySem.Spec PyProof.Rows L2

/-! ### slices -/
def cutD (xs : List D) (lo hi : Option Int) : List D := (xs.drop (HT.sIx xs.length 0 lo)).take (HT.sIx xs.length xs.length hi - HT.sIx xs.length 0 lo)
theorem RpAll.cut {c : Cfg} {G : Hp} {us : List V} {xs : List D} (k : RpAll c G us xs) (lo hi : Option Int) : RpAll c G (cutV us lo hi) (cutD xs lo hi) := by
  unfold cutV cutD
  rw [k.length]
  exact (k.drop _).take _
def rSlG (K : PySem.W.Frag) : V → Option Int → Option Int → Hp → VK → Prop := fun x lo hi H Q => rSlA K x lo hi H Q ∨ rSlL K x lo hi H Q ∨ C8.rSlX x lo hi H Q
theorem sl_G {X : Cx} : SlR X (rSlG X.K) := SlR.or sl_tupA (SlR.or sl_list C8.sl_txt)
def gSl (x : D) (lo hi : Option Int) : Option S := match x with
  | .tup xs => ok1 (.tup (cutD xs lo hi))
  | .lst xs => some (.o none (.lst (cutD xs lo hi)))
  | .str z => if small z.length then ok1 (.str (Txt.slice z lo hi)) else none
  | _ => none
def oNone : M (Option Int) := fun ρ => .ok none ρ
def oSome (f : M S) : M (Option Int) := fun ρ => (dv f ρ).then fun x ρ' => match x with
  | .int i => .ok (some i) ρ'
  | _ => .stuck
def DenO (c : Cfg) (W : WX) (to : TO) (f : M (Option Int)) : Prop := ∀ B ts vs ρ σ H Q, Rep c B ts vs ρ σ H → Post (fun o ρ' => ∀ H', Rep c B ts vs ρ' σ H' → Q o H') (ErrP c W B ts vs σ) (f ρ) → to σ H Q
def mSl (fe : M S) (fl fh : M (Option Int)) : M S := fun ρ => (dv fe ρ).then fun x ρ1 => (fl ρ1).then fun lo ρ2 => (fh ρ2).then fun hi ρ3 => match gSl x lo hi with
  | some s => .ok s ρ3
  | none => .stuck
section
variable {c : Cfg} {W : WX} {te ta tb tc : TE} {fe fa fb fc : M S} {tl th : TO} {fl fh : M (Option Int)}
theorem do_none : DenO c W tNoPart oNone := fun B ts vs ρ σ H Q r q => q H r
theorem do_some (h : Den c W te fe) : DenO c W (tPart te) (oSome fe) := fun B ts vs ρ σ H Q r q => by
  unfold oSome at q
  rw [post_then] at q
  refine h.dv r (q.imp1 fun x ρ1 q v H1 r1 => ?_)
  cases x <;> first | exact q.elim | skip
  obtain ⟨G, O, hv⟩ := r1.one
  cases hv
  exact ⟨_, rfl, q H1 r1.drop⟩
theorem cutD_all {xs : List D} {lo hi : Option Int} (h : HT.sIx xs.length 0 lo = 0 ∧ HT.sIx xs.length xs.length hi = xs.length) : cutD xs lo hi = xs := by
  unfold cutD
  rw [h.1, h.2]
  simp
theorem den_sl (h : Den c W te fe) (hl : DenO c W tl fl) (hh : DenO c W th fh) : Den c W (tSl (rSlG c.K) te tl th) (mSl fe fl fh) := fun B ts vs ρ σ H Q r q => by
  unfold mSl at q
  rw [post_then] at q
  refine h.dv r (q.imp1 fun x ρ1 q1 v H1 r1 => ?_)
  rw [post_then] at q1
  refine hl B _ _ ρ1 σ H1 _ r1 (q1.imp (fun lo ρ2 q2 H2 r2 => ?_) fun _ _ h => h.drop)
  rw [post_then] at q2
  refine hh B _ _ ρ2 σ H2 _ r2 (q2.imp (fun hi ρ3 q3 H3 r3 => ?_) fun _ _ h => h.drop)
  obtain ⟨G, O, hv⟩ := r3.one
  cases x with
  | tup xs =>
    obtain ⟨a, us, rfl, ha, k⟩ := hv.tupE
    refine .inl ⟨a, us, rfl, SqT.up O.sub ha, fun hw => ?_, fun hw p hp => ?_⟩
    · rw [k.length] at hw
      have e : cutD xs lo hi = xs := cutD_all hw
      have q4 : OkP c B ts vs σ Q (.d (.tup (cutD xs lo hi))) ρ3 := q3
      rw [e] at q4
      exact q4 _ _ (O.val (.tup ha k))
    · exact q3 _ _ (O.new hp rfl fun G' m e => .tup (.inl (.inl e)) ((k.cut lo hi).mono m))
  | lst xs =>
    obtain ⟨a, us, rfl, ha, k⟩ := hv.lstE
    exact .inr (.inl ⟨a, us, rfl, SqL.of (O.sub _ _ ha), fun p hp => q3 _ _ (O.newO hp fun H' e => ⟨_, e, k.cut lo hi⟩)⟩)
  | str z =>
    have q4 : Post (OkP c B ts vs σ Q) (ErrP c W B ts vs σ) (match (if small z.length then ok1 (.str (Txt.slice z lo hi)) else none) with
      | some s => .ok s ρ3
      | none => .stuck) := q3
    by_cases hz : small z.length = true
    · rw [if_pos hz] at q4
      cases hv
      exact .inr (.inr ⟨z, rfl, small_line hz, q4 _ _ (O.val (.str _))⟩)
    · rw [if_neg hz] at q4
      exact q4.elim
  | _ => exact q3.elim

/-! ### a op b op c -/
def mChain (g g' : D → D → Option S) (fa fb fc : M S) : M S := fun ρ => (dv fa ρ).then fun x ρ1 => (dv fb ρ1).then fun y ρ2 => match g x y with
  | some (.d (.bl true)) => (dv fc ρ2).then fun z ρ3 => match g' y z with
      | some s => .ok s ρ3
      | none => .stuck
  | some (.d (.bl false)) => .ok (.d (.bl false)) ρ2
  | _ => .stuck
theorem Rep.under {B : Base} {ts : En} {vs : List (Option V)} {ρ : En} {σ : L2.St} {H : Hp} {x y : D} {v w : V} (r : Rep c B (some (.d y) :: some (.d x) :: ts) (some w :: some v :: vs) ρ σ H) : Rep c B (some (.d y) :: ts) (some w :: vs) ρ σ H := by
  obtain ⟨G, o1, o2, k, h1, h2⟩ := r
  cases h1 with
  | d a h1 =>
    cases h1 with
    | d b h1 => exact ⟨G, o1, o2, k, .d a h1, h2⟩
theorem den_chain {r r' : R2} {g g' : D → D → Option S} (ho : OpDen c r g) (ho' : OpDen c r' g') (hmono : ∀ x y H Q Q', (∀ v H', Q v H' → Q' v H') → r x y H Q → r x y H Q') (ha : Den c W ta fa) (hb : Den c W tb fb) (hc : Den c W tc fc) : Den c W (tChain r r' ta tb tc) (mChain g g' fa fb fc) := fun B ts vs ρ σ H Q rp q => by
  unfold mChain at q
  rw [post_then] at q
  refine ha.dv rp (q.imp1 fun x ρ1 q1 v H1 r1 => ?_)
  rw [post_then] at q1
  refine hb.dv r1 (q1.imp (fun y ρ2 q2 u H2 r2 => ?_) fun _ _ h => h.drop)
  have fin : ∀ b, g x y = some (.d (.bl b)) → (if b = true then ∀ H3, Rep c B (some (.d y) :: ts) (some u :: vs) ρ2 σ H3 → tc σ H3 (fun w' H4 => r' u w' H4 Q) else ∀ H3, Rep c B ts vs ρ2 σ H3 → Q (.bl false) H3) → r v u H2 fun z H3 => ∃ k, z = .bl k ∧ (if k = true then tc σ H3 (fun w' H4 => r' u w' H4 Q) else Q (.bl false) H3) := by
    intro b hg hk
    -- keep y waiting
    have r3 : Rep c B (some (.d y) :: some (.d x) :: some (.d y) :: ts) (some u :: some v :: some u :: vs) ρ2 σ H2 := by
      obtain ⟨G, o1, o2, k, h1, h2⟩ := r2
      cases h1 with
      | d a h1 =>
        cases h1 with
        | d b h1 => exact ⟨G, o1, o2, k, .d a (.d b (.d a h1)), h2⟩
    refine ho B _ _ ρ2 σ H2 _ x y v u _ r3 hg fun w H3 r4 => ?_
    obtain ⟨G, O, hw⟩ := r4.one
    cases hw
    refine ⟨b, rfl, ?_⟩
    cases b with
    | true => exact hk H3 r4.drop
    | false => exact hk H3 r4.drop.drop
  split at q2
  · rename_i hg
    refine fin true hg fun H3 r3 => ?_
    rw [post_then] at q2
    refine hc.dv r3 (q2.imp (fun z ρ3 q3 w H4 r4 => ?_) fun _ _ h => h.drop)
    split at q3
    · rename_i s hs
      exact ho' B ts vs ρ3 σ H4 Q y z u w s r4 hs q3
    · exact q3.elim
  · rename_i hg
    exact fin false hg fun H3 r3 => OkP.bl q2 r3
  · exact q2.elim
end

/-! ### truth -/
def truD : D → Option Bool
  | .non => some false
  | .bl b => some b
  | .int i => some (i != 0)
  | .str z => if small z.length then some ((z.length : Int) != 0) else none
  | .tup ds => some (!ds.isEmpty)
  | .lst ds => some (!ds.isEmpty)
  | .dct ks _ => some (!ks.isEmpty)
  | _ => none
def mTruth (fe : M S) : M Bool := fun ρ => (dv fe ρ).then fun x ρ1 => match truD x with
  | some b => .ok b ρ1
  | none => .stuck
/-- .. of a name's cell -/
def mTruthO (i : Nat) : M Bool := fun ρ => match ρ[i]? with
  | some (some (.o _ (.lst ds))) => .ok (!ds.isEmpty) ρ
  | some (some (.o _ (.dct ks _))) => .ok (!ks.isEmpty) ρ
  | some (some (.d x)) => match truD x with
    | some b => .ok b ρ
    | none => .stuck
  | _ => .stuck
section
variable {c : Cfg} {W : WX} {te : TE} {fe : M S} {i : Nat}
theorem isEmpty_len {α β : Type} {xs : List α} {ys : List β} (h : xs.length = ys.length) : xs.isEmpty = ys.isEmpty := by
  cases xs <;> cases ys <;> first | rfl | simp at h
theorem Rp.tru {G H : Hp} {v : V} {x : D} {b : Bool} (s : ∀ a o, G a = some o → H a = some o) (h : Rp c G v x) (e : truD x = some b) : TruV c.K v H b := by
  cases x with
  | non => cases e; cases h; rfl
  | bl b => cases e; cases h; rfl
  | int i => cases e; cases h; rfl
  | str z =>
    have e : (if small z.length then some ((z.length : Int) != 0) else none) = some b := e
    split at e
    · rename_i hz
      cases e
      cases h
      exact ⟨small_line hz, rfl⟩
    · cases e
  | tup ds =>
    cases e
    obtain ⟨a, us, rfl, ha, k⟩ := h.tupE
    exact .inr (.inl ⟨us, SqT.up s ha, by rw [isEmpty_len k.length]⟩)
  | lst ds =>
    cases e
    obtain ⟨a, us, rfl, ha, k⟩ := h.lstE
    exact .inl ⟨us, SqL.of (s _ _ ha), by rw [isEmpty_len k.length]⟩
  | dct ks vs =>
    cases e
    cases h with
    | dct ha k => exact .inr (.inr ⟨_, s _ _ ha, by rw [isEmpty_len (List.length_map _)]⟩)
  | _ => cases e
def tTru (K : PySem.W.Frag) (te : TE) : TT := fun σ H Q => te σ H fun x H1 => ∃ k, TruV K x H1 k ∧ Q k H1
theorem dt_truth (h : Den c W te fe) : DenT c W (tTru c.K te) (mTruth fe) := fun B ts vs ρ σ H Q r q => by
  unfold mTruth at q
  rw [post_then] at q
  refine h.dv r (q.imp1 fun x ρ1 q v H1 r1 => ?_)
  split at q
  · rename_i b e
    obtain ⟨G, O, hv⟩ := r1.one
    exact ⟨b, hv.tru O.sub e, q H1 r1.drop⟩
  · exact q.elim
theorem dt_truthO : DenT c W (tTru c.K (tVar i)) (mTruthO i) := fun B ts vs ρ σ H Q r q => by
  unfold mTruthO at q
  split at q
  · rename_i b ds e
    obtain ⟨a, ev, G, sub, us, ha, k⟩ := r.varO e
    exact ⟨.ref a, ev, _, .inl ⟨us, SqL.of ha, rfl⟩, by rw [isEmpty_len k.length]; exact q H r⟩
  · rename_i b ks vs' e
    obtain ⟨a, ev, G, sub, kvs, ha, hk, k⟩ := r.varO e
    exact ⟨.ref a, ev, _, .inr (.inr ⟨kvs, ha, rfl⟩), by rw [hk] at q; rw [← isEmpty_len (List.length_map (fun p : Key × V => keyD p.1))]; exact q H r⟩
  · rename_i x e
    split at q
    · rename_i b eb
      obtain ⟨v, ev, r1⟩ := r.var e
      obtain ⟨G, O, hv⟩ := r1.one
      exact ⟨v, ev, b, hv.tru O.sub eb, q H r⟩
    · exact q.elim
  · exact q.elim
end

/-! ### isinstance -/
def tyD : D → Option String
  | .non => some "NoneType"
  | .bl _ => some "bool"
  | .int _ => some "int"
  | .str _ => some "str"
  | .tup _ => some "tuple"
  | .lst _ => some "list"
  | .dct _ _ => some "dict"
  | _ => none
theorem Rp.tyX {c : Cfg} {G H : Hp} {v : V} {x : D} {n : String} (s : ∀ a o, G a = some o → H a = some o) (h : Rp c G v x) (e : tyD x = some n) : TyX c.K H v (.type n) := by
  cases h with
  | non => cases e; exact .base .non
  | bl b => cases e; exact .base (.bl b)
  | int i => cases e; exact .base (.int i)
  | str z => cases e; exact .base (.str z)
  | tup ha _ =>
    cases e
    rcases SqT.up s ha with (ha | ⟨o, ha⟩) | ⟨o, its, m, hk, hc, _⟩
    · exact .base (.tup ha)
    · exact .fTuple ha
    · exact .kTuple hk hc
  | lst ha _ => cases e; exact .base (.lst (s _ _ ha))
  | dct ha _ => cases e; exact .base (.dK (s _ _ ha))
  | _ => cases e
def isTy (n : String) (x : D) : Option Bool := match n, x with
  | "int", .int _ => some true
  | "int", .bl _ => some true
  | "int", .non => some false
  | "int", .str _ => some false
  | "int", .tup _ => some false
  | "int", .lst _ => some false
  | "int", .dct _ _ => some false
  | "bool", .bl _ => some true
  | "bool", .int _ => some false
  | "bool", .non => some false
  | "bool", .str _ => some false
  | "bool", .tup _ => some false
  | "bool", .lst _ => some false
  | "bool", .dct _ _ => some false
  | "str", .str _ => some true
  | "str", .int _ => some false
  | "str", .bl _ => some false
  | "str", .non => some false
  | "str", .tup _ => some false
  | "str", .lst _ => some false
  | "str", .dct _ _ => some false
  | "tuple", .tup _ => some true
  | "tuple", .int _ => some false
  | "tuple", .bl _ => some false
  | "tuple", .non => some false
  | "tuple", .str _ => some false
  | "tuple", .lst _ => some false
  | "tuple", .dct _ _ => some false
  | "list", .lst _ => some true
  | "list", .int _ => some false
  | "list", .bl _ => some false
  | "list", .non => some false
  | "list", .str _ => some false
  | "list", .tup _ => some false
  | "list", .dct _ _ => some false
  | _, _ => none
theorem isTy_kit {n : String} {x : D} {b : Bool} (h : isTy n x = some b) : ∃ m, tyD x = some m ∧ kitB m n = some b := by
  unfold isTy at h
  split at h <;> first | cases h | skip
  all_goals exact ⟨_, rfl, by decide +kernel⟩
def gIsi : List D → Option S
  | [x, .ty n] => (isTy n x).bind fun b => ok1 (.bl b)
  | _ => none
theorem cd_isi {c : Cfg} : CbDen c (rIsi c.K) gIsi := by
  intro B ts vs ρ σ H Q ds us s hl r e q
  match ds, hl, r, e with
  | [x, .ty n], hl, r, e =>
    obtain ⟨v, w, rfl, G, O, h1, h2⟩ := r.two' hl
    have e : (isTy n x).bind (fun b => ok1 (.bl b)) = some s := e
    cases e1 : isTy n x with
    | none => rw [e1] at e; cases e
    | some b =>
      rw [e1] at e
      cases e
      cases h2
      obtain ⟨m, t1, t2⟩ := isTy_kit e1
      exact ⟨v, .ty n, .type m, .type n, b, rfl, .ty n, h1.tyX O.sub t1, kit_ty t2, q _ _ (O.val (.bl _))⟩
/-- isinstance of an own class -/
structure ClsOk (c : Cfg) (n : String) : Prop where
  cl : Cls c.K (c.cls n)
  at_ : PySem.W.findIn c.K (.ref (c.cls n)) "__class__" = some (some (.builtin "object.__class__"))
  get : PySem.W.specialIn c.K (.builtin "object.__class__") "__get__" = some (some (.builtin "getset_descriptor.__get__"))
  tk : PySem.W.takesIn c.K (.builtin "object.__class__") = some true
  mr : PySem.W.mroIn c.K (c.cls n) (.type "object") = some true
  self : PySem.W.kitOne c.K (.ref (c.cls n)) (.ref (c.cls n)) = some true
def tIsC (K : PySem.W.Frag) (C : Addr) (te : TE) : TE := tCB (rIsi K) (tCons te (tCons (tC (.ref C)) tNil))
def mIsC (n : String) (fe : M S) : M S := mUn (fun x => match x with
  | .ins m _ => if m = n then ok1 (.bl true) else none
  | _ => none) fe
theorem den_isC {c : Cfg} {W : WX} {n : String} {te : TE} {fe : M S} (K : ClsOk c n) (h : Den c W te fe) : Den c W (tIsC c.K (c.cls n) te) (mIsC n fe) := fun B ts vs ρ σ H Q r q => by
  unfold mIsC mUn at q
  rw [post_then] at q
  refine h.dv r (q.imp1 fun x ρ1 q v H1 r1 => ?_)
  cases x <;> first | exact q.elim | skip
  rename_i m ds
  have q2 : Post (OkP c B ts vs σ Q) (ErrP c W B ts vs σ) (match (if m = n then ok1 (.bl true) else none) with
    | some s => .ok s ρ1
    | none => .stuck) := q
  clear q
  by_cases hm : m = n
  · subst hm
    rw [if_pos rfl] at q2
    obtain ⟨G, O, hv⟩ := r1.one
    obtain ⟨a, dx, fs, rfl, ha, _, _⟩ := hv.insE
    exact ⟨.ref a, .ref _, .ref _, .ref _, true, rfl, .own _, .base (.ins (O.sub _ _ ha) K.cl K.at_ K.get K.tk K.mr), K.self, q2 _ _ (O.val (.bl _))⟩
  · rw [if_neg hm] at q2
    exact q2.elim

/-! ### cells of names: what is read of them, how they are changed -/
/-- what stands at a name, wherever -/
def peek (ρ : En) (i : Nat) : Option D := match ρ[i]? with
  | some (some (.d x)) => some x
  | some (some (.o _ x)) => some x
  | _ => none
section
variable {c : Cfg} {W : WX} {B : Base} {ts : En} {vs : List (Option V)} {ρ : En} {σ : L2.St} {H : Hp} {te : TE} {fe : M S} {i : Nat}
theorem Rep.peekL {ds : List D} (e : peek ρ i = some (.lst ds)) (r : Rep c B ts vs ρ σ H) : ∃ a us G o1 o2, σ[i]? = some (some (.ref a)) ∧ H a = some (.lst us) ∧ RpAll c G us ds ∧ OkB c B G H (o1 ++ o2) ∧ Sl c B G H ts vs o1 ∧ Sl c B G H ρ σ o2 := by
  unfold peek at e
  obtain ⟨G, o1, o2, k, h1, h2⟩ := r
  split at e
  · rename_i x e1
    cases e
    obtain ⟨v, ev, hv⟩ := h2.getD e1
    obtain ⟨a, us, rfl, ha, ka⟩ := hv.lstE
    exact ⟨a, us, G, o1, o2, ev, k.sub _ _ ha, ka, k, h1, h2⟩
  · rename_i b x e1
    cases e
    obtain ⟨a, ev, ⟨us, ha, ka⟩, _, _⟩ := h2.getO e1
    exact ⟨a, us, G, o1, o2, ev, ha, ka, k, h1, h2⟩
  · cases e
/-- len(x), x a name -/
def mLenO (i : Nat) : M S := fun ρ => match peek ρ i with
  | some (.lst ds) => .ok (.d (.int ds.length)) ρ
  | _ => match ρ[i]? with
    | some (some (.d x)) => match lenD x with
      | some n => .ok (.d (.int n)) ρ
      | none => .stuck
    | _ => .stuck
/-- x[e], x a name that holds a list -/
def peekL (ρ : En) (i : Nat) : Bool := match peek ρ i with
  | some (.lst _) => true
  | _ => false
def mIxO (i : Nat) (fe : M S) : M S := fun ρ => if peekL ρ i then (dv fe ρ).then fun y ρ1 => match peek ρ1 i, y with
    | some (.lst ds), .int k => match atI ds k with
      | some x => .ok (.d x) ρ1
      | none => .stuck
    | _, _ => .stuck
  else .stuck
theorem den_lenO : Den c W (tCB (rLenG c.K) (tCons (tVar i) tNil)) (mLenO i) := fun B ts vs ρ σ H Q r q => by
  unfold mLenO at q
  split at q
  · rename_i ds e
    obtain ⟨a, us, G, o1, o2, ev, ha, ka, k, h1, h2⟩ := r.peekL e
    exact ⟨.ref a, ev, .inl ⟨a, us, rfl, .inl (SqL.of ha), by rw [ka.length]; exact q _ _ (Rep.repl (ds := []) (us := []) r rfl fun G _ => .int _)⟩⟩
  · split at q
    · rename_i x ed
      split at q
      · rename_i n en
        obtain ⟨v, ev, r1⟩ := r.var ed
        refine ⟨v, ev, cd_len B ts vs ρ σ H Q [x] [v] (.d (.int n)) rfl r1 ?_ q⟩
        show (lenD x).bind (fun n => ok1 (.int n)) = _
        rw [en]
        rfl
      · exact q.elim
    · exact q.elim
theorem den_ixO (h : Den c W te fe) : Den c W (tOp (rIx c.K) (tVar i) te) (mIxO i fe) := fun B ts vs ρ σ H Q r q => by
  unfold mIxO at q
  split at q
  · rename_i hp
    unfold peekL at hp
    split at hp
    · rename_i ds0 e0
      obtain ⟨a0, us0, _, _, _, ev, _⟩ := r.peekL e0
      rw [post_then] at q
      refine ⟨.ref a0, ev, h.dv r (q.imp1 fun y ρ1 q1 v H1 r1 => ?_)⟩
      split at q1
      · rename_i ds k e1
        obtain ⟨G, O, hv⟩ := r1.one
        cases hv
        obtain ⟨a, us, G, o1, o2, ev1, ha, ka, kk, h1, h2⟩ := r1.peekL e1
        rw [ev] at ev1
        cases ev1
        split at q1
        · rename_i x ex
          obtain ⟨w, ew, hw⟩ := ka.atI ex
          refine .inl ⟨a0, us, k, w, rfl, rfl, SqL.of ha, ew, q1 _ _ ?_⟩
          cases h1 with
          | d _ h1 => exact ⟨G, o1, o2, kk, .d hw h1, h2⟩
        · exact q1.elim
      · exact q1.elim
    · cases hp
  · exact q.elim
/-- x.append(e) -/
def mAppend (i : Nat) (fe : M S) : M S := fun ρ => if isOwn ρ i then (dv fe ρ).then fun y ρ1 => match ρ1[i]? with
    | some (some (.o b (.lst ds))) => if small (ds.length + 1) then .ok (.d .non) (ρ1.set i (some (.o b (.lst (ds ++ [y]))))) else .stuck
    | _ => .stuck
  else .stuck
theorem Rep.unit {c : Cfg} (r : Rep c B ts vs ρ σ H) : Rep c B (some (.d .non) :: ts) (some .non :: vs) ρ σ H := Rep.repl (ds := []) (us := []) r rfl fun G _ => .non
/-- a name that holds a list -/
def ownL (ρ : En) (i : Nat) : Bool := match ρ[i]? with
  | some (some (.o _ (.lst _))) => true
  | _ => false
theorem ownL_at (h : ownL ρ i = true) (r : Rep c B ts vs ρ σ H) : ∃ a us, σ[i]? = some (some (.ref a)) ∧ H a = some (.lst us) := by
  unfold ownL at h
  split at h
  · rename_i b ds e
    obtain ⟨a, ev, G, sub, us, ha, k⟩ := r.varO e
    exact ⟨a, us, ev, ha⟩
  · cases h
def mMeth1 (i : Nat) (g : List D → D → Option (D × List D)) (fe : M S) : M S := fun ρ => if ownL ρ i then (dv fe ρ).then fun y ρ1 => match ρ1[i]? with
    | some (some (.o b (.lst ds))) => match g ds y with
      | some (z, es) => .ok (.d z) (ρ1.set i (some (.o b (.lst es))))
      | none => .stuck
    | _ => .stuck
  else .stuck
/-- how a method changes a list -/
def MthDen (c : Cfg) (r : V → List V → Hp → VK → Prop) (g : List D → D → Option (D × List D)) : Prop := ∀ (G H : Hp) (Q : VK) (a : Addr) (us : List V) (ds : List D) (y z : D) (v : V) (es : List D), (∀ b o, G b = some o → H b = some o) → H a = some (.lst us) → RpAll c G us ds → Rp c G v y → g ds y = some (z, es) →
  (∀ w us', Rp c G w z → RpAll c G us' es → Q w (upd H a (.lst us'))) → r (.ref a) [v] H Q
theorem den_meth1 {r : V → List V → Hp → VK → Prop} {g : List D → D → Option (D × List D)} (hm : MthDen c r g) (h : Den c W te fe) : Den c W (tBM c.K "list" r (tVar i) (tCons te tNil)) (mMeth1 i g fe) := fun B ts vs ρ σ H Q rp q => by
  unfold mMeth1 at q
  split at q
  · rename_i ho
    obtain ⟨a, us, ev, ha⟩ := ownL_at ho rp
    rw [post_then] at q
    refine ⟨.ref a, ev, .inl ⟨rfl, us, SqL.of ha⟩, h.dv rp (q.imp1 fun y ρ1 q1 v H1 r1 => ?_)⟩
    split at q1
    · rename_i b ds e1
      split at q1
      · rename_i z es eg
        obtain ⟨G, o1, o2, k, h1, h2⟩ := id r1
        obtain ⟨a', ev', ⟨us', ha', ka⟩, hmem, hb⟩ := h2.getO e1
        rw [ev] at ev'
        cases ev'
        cases h1 with
        | d hv h1 =>
          refine hm G H1 Q a us' ds y z v es k.sub ha' ka hv eg fun w us2 hw hk => q1 w _ ?_
          have nd := k.nd
          rw [List.nodup_append] at nd
          exact ⟨G, o1, o2, k.write (List.mem_append_right _ hmem) ha' rfl, .d hw (h1.mono (fun _ _ e => e) fun q hq => upd_ne fun z => nd.2.2 q hq a hmem z), h2.write nd.2.1 e1 ev (fun q hq => upd_ne hq) ⟨us2, upd_same, hk⟩⟩
      · exact q1.elim
    · exact q1.elim
  · exact q.elim
def mMeth0 (i : Nat) (g : List D → Option (D × List D)) : M S := fun ρ => match ρ[i]? with
  | some (some (.o b (.lst ds))) => match g ds with
    | some (z, es) => .ok (.d z) (ρ.set i (some (.o b (.lst es))))
    | none => .stuck
  | _ => .stuck
def Mth0Den (c : Cfg) (r : V → List V → Hp → VK → Prop) (g : List D → Option (D × List D)) : Prop := ∀ (G H : Hp) (Q : VK) (a : Addr) (us : List V) (ds : List D) (z : D) (es : List D), H a = some (.lst us) → RpAll c G us ds → g ds = some (z, es) →
  (∀ w us', Rp c G w z → RpAll c G us' es → Q w (upd H a (.lst us'))) → r (.ref a) [] H Q
theorem den_meth0 {r : V → List V → Hp → VK → Prop} {g : List D → Option (D × List D)} (hm : Mth0Den c r g) : Den c W (tBM0 c.K "list" r (tVar i)) (mMeth0 i g) := fun B ts vs ρ σ H Q rp q => by
  unfold mMeth0 at q
  split at q
  · rename_i b ds e1
    split at q
    · rename_i z es eg
      obtain ⟨G, o1, o2, k, h1, h2⟩ := id rp
      obtain ⟨a, ev, ⟨us, ha, ka⟩, hmem, hb⟩ := h2.getO e1
      refine ⟨.ref a, ev, .inl ⟨rfl, us, SqL.of ha⟩, hm G H Q a us ds z es ha ka eg fun w us2 hw hk => q w _ ?_⟩
      have nd := k.nd
      rw [List.nodup_append] at nd
      exact ⟨G, o1, o2, k.write (List.mem_append_right _ hmem) ha rfl, .d hw (h1.mono (fun _ _ e => e) fun q hq => upd_ne fun z => nd.2.2 q hq a hmem z), h2.write nd.2.1 e1 ev (fun q hq => upd_ne hq) ⟨us2, upd_same, hk⟩⟩
    · exact q.elim
  · exact q.elim
def gApp (ds : List D) (y : D) : Option (D × List D) := if small (ds.length + 1) then some (.non, ds ++ [y]) else none
theorem md_app : MthDen c rAppend gApp := by
  intro G H Q a us ds y z v es sub ha ka hv e q
  unfold gApp at e
  split at e
  · rename_i hz
    cases e
    refine ⟨a, us, v, rfl, rfl, ha, ?_, q _ _ .non (ka.snoc hv)⟩
    have := small_line hz
    rw [ka.length]
    omega
  · cases e
def gExt (ds : List D) (y : D) : Option (D × List D) := match y with
  | .lst es => if small (ds.length + es.length) then some (.non, ds ++ es) else none
  | _ => none
theorem md_ext : MthDen c rExtend gExt := by
  intro G H Q a us ds y z v es sub ha ka hv e q
  cases y <;> first | cases e | skip
  rename_i ys
  have e : (if small (ds.length + ys.length) then some (D.non, ds ++ ys) else none) = some (z, es) := e
  split at e
  · rename_i hz
    cases e
    obtain ⟨b, ws, rfl, hb, kb⟩ := hv.lstE
    exact ⟨a, b, us, ws, rfl, rfl, ha, sub _ _ hb, by rw [ka.length, kb.length]; exact small_line hz, q _ _ .non (ka.app kb)⟩
  · cases e
def gPop (ds : List D) : Option (D × List D) := match ds[ds.length - 1]? with
  | some y => some (y, ds.dropLast)
  | none => none
theorem RpAll.dropLast {G : Hp} {us : List V} {ds : List D} (k : RpAll c G us ds) : RpAll c G us.dropLast ds.dropLast := by
  rw [List.dropLast_eq_take, List.dropLast_eq_take, k.length]
  exact k.take _
theorem md_pop : Mth0Den c rPop gPop := by
  intro G H Q a us ds z es ha ka e q
  unfold gPop at e
  split at e
  · rename_i y ey
    cases e
    obtain ⟨w, ew, hw⟩ := ka.get ey
    exact ⟨a, us, w, rfl, rfl, ha, by rw [ka.length]; exact ew, q _ _ hw ka.dropLast⟩
  · cases e
def gPopAt (ds : List D) (y : D) : Option (D × List D) := match y with
  | .int i => if 0 ≤ i ∧ i < ds.length then match ds[i.toNat]? with
      | some x => if small ds.length then some (x, ds.eraseIdx i.toNat) else none
      | none => none
    else none
  | _ => none
theorem RpAll.eraseIdx {G : Hp} : ∀ {us : List V} {ds : List D} (i : Nat), RpAll c G us ds → RpAll c G (us.eraseIdx i) (ds.eraseIdx i)
  | _, _, _, .nil => .nil
  | _, _, 0, .cons _ k => k
  | _, _, i + 1, .cons h k => .cons h (RpAll.eraseIdx i k)
theorem md_popAt : MthDen c rPopAt gPopAt := by
  intro G H Q a us ds y z v es sub ha ka hv e q
  cases y <;> first | cases e | skip
  rename_i i
  have e : (if 0 ≤ i ∧ i < ds.length then match ds[i.toNat]? with
      | some x => if small ds.length then some (x, ds.eraseIdx i.toNat) else none
      | none => none
    else none) = some (z, es) := e
  split at e
  · rename_i hi
    split at e
    · rename_i x ex
      split at e
      · rename_i hz
        cases e
        cases hv
        obtain ⟨w, ew, hw⟩ := ka.get ex
        have hz := of_decide_eq_true hz
        refine ⟨a, us, i, i.toNat, w, rfl, rfl, ha, by omega, by omega, ?_, ew, q _ _ hw (ka.eraseIdx _)⟩
        rw [ka.length]
        unfold seqIndex?
        first
          | (rw [if_neg (by omega)]; simp; omega)
          | (simp; omega)
      · cases e
    · cases e
  · cases e
/-- x[e] = v, x a name -/
def gmItem (i : Nat) (fe : M S) : D → M Unit := fun x ρ => if ownL ρ i then (dv fe ρ).then fun y ρ1 => match ρ1[i]?, y with
    | some (some (.o b (.lst ds))), .int k => match ixN ds.length k with
      | some j => .ok () (ρ1.set i (some (.o b (.lst (ds.set j x)))))
      | none => .stuck
    | _, _ => .stuck
  else .stuck
theorem dg_item (h : Den c W te fe) : DenG c W (gSub (tVar i) te rSetL) (gmItem i fe) [] := fun B ts vs ρ σ H x v Q r q => by
  unfold gmItem at q
  split at q
  · rename_i ho
    obtain ⟨a, us, ev, ha⟩ := ownL_at ho r
    rw [post_then] at q
    refine ⟨.ref a, ev, h.dv r (q.imp (fun y ρ1 q1 w H1 r1 => ?_) fun _ _ h => h.drop.toP)⟩
    split at q1
    · rename_i b ds k e1
      split at q1
      · rename_i j ej
        obtain ⟨G, o1, o2, kk, h1, h2⟩ := id r1
        obtain ⟨a', ev', ⟨us', ha', ka⟩, hmem, hb⟩ := h2.getO e1
        rw [ev] at ev'
        cases ev'
        cases h1 with
        | d hw h1 =>
          cases hw
          cases h1 with
          | d hv h1 =>
            refine ⟨a, us', k, j, rfl, rfl, ha', by rw [ka.length]; exact ej, q1 σ _ ⟨rfl, fun _ _ => rfl⟩ ?_⟩
            have nd := kk.nd
            rw [List.nodup_append] at nd
            exact ⟨G, o1, o2, kk.write (List.mem_append_right _ hmem) ha' rfl, h1.mono (fun _ _ e => e) fun q hq => upd_ne fun z => nd.2.2 q hq a hmem z, h2.write nd.2.1 e1 ev (fun q hq => upd_ne hq) ⟨_, upd_same, ka.set j hv⟩⟩
      · exact q1.elim
    · exact q1.elim
  · exact q.elim
end
end Fx

/-! syntax and what it makes of a state -/
namespace Fx
open PySem PySem.Spec PyProof.Rows L2
open C8 (Cal Mak pe_c pe_mk)

structure QE (X : Cx) (c : Cfg) (W : WX) (e : Expr) (t : TE) (f : M S) : Prop where
  pe : PE X e t
  dn : Den c W t f
structure QT (X : Cx) (c : Cfg) (W : WX) (e : Expr) (t : TT) (f : M Bool) : Prop where
  pe : PT X e t
  dn : DenT c W t f
structure QW (X : Cx) (c : Cfg) (W : WX) (e : Expr) (t : TT) (f : M Bool) : Prop where
  pe : PW X e t
  dn : DenT c W t f
structure QA (X : Cx) (c : Cfg) (W : WX) (es : List Expr) (t : TA) (f : M (List D)) : Prop where
  pe : PA X es t
  dn : DenA c W t f
structure QC (X : Cx) (c : Cfg) (W : WX) (es : List Expr) (i j : Nat) (t : TA) (f : M (List D)) : Prop where
  pe : PA X es t
  dn : DenC c W t i j f
structure QI (X : Cx) (c : Cfg) (W : WX) (tg e : Expr) (t : TI) (f : M (List D)) : Prop where
  pe : PI X tg e t
  dn : DenI c W t f
structure QG (X : Cx) (c : Cfg) (W : WX) (e : Expr) (t : TG) (F : D → M Unit) (js : List Nat) : Prop where
  pe : PG X e t
  dn : DenG c W t F js
structure QGs (X : Cx) (c : Cfg) (W : WX) (es : List Expr) (t : TGs) (F : List D → M Unit) (js : List Nat) : Prop where
  pe : PGs X es t
  dn : DenGs c W t F js
structure QO (X : Cx) (c : Cfg) (W : WX) (e : Option Expr) (t : TO) (f : M (Option Int)) : Prop where
  pe : PO X e t
  dn : DenO c W t f
structure QS (X : Cx) (c : Cfg) (W : WX) (s : Stmt) (t : TS) (F : M Fl) : Prop where
  pe : PS X s t
  dn : DenS c W t F
structure QSs (X : Cx) (c : Cfg) (W : WX) (s : List Stmt) (t : TS) (F : M Fl) : Prop where
  pe : PSs X s t
  dn : DenS c W t F
section
variable {X : Cx} {c : Cfg} {W : WX} {a b e d : Expr} {es : List Expr} {fa fb fe fd : M S} {fA : M (List D)} {ft fu : M Bool} {pos p p2 : Pos} {k : Nat} {ta tb te td : TE} {tA : TA} {tt tu : TT}
/-! ### expressions -/
theorem qv (i : Nat) {x : Str} (hN : X.N[i]? = some x := by rfl) (hv : Vis X.env.scope x := by first | exact Or.inl rfl | exact Or.inr (Or.inl rfl) | exact Or.inr (Or.inr rfl)) (hd : (x == ("__debug__" : Str)) = false := by decide)
    (hcd : (x == ("__classdict__" : Str)) = false := by decide) : QE X c W (.Name x pos) (tVar i) (mVar i) := ⟨pe_var hN hv hd hcd, den_var⟩
theorem qint {i j} : QE X c W (.Constant (.int i) j pos) (tC (.int i)) (mC (.int i)) := ⟨pe_int, den_c fun _ => .int _⟩
theorem qbl {i j} : QE X c W (.Constant (.bool i) j pos) (tC (.bl i)) (mC (.bl i)) := ⟨pe_bl, den_c fun _ => .bl _⟩
theorem qnon {j} : QE X c W (.Constant .none j pos) (tC .non) (mC .non) := ⟨pe_non, den_c fun _ => .non⟩
theorem qstr {i j} : QE X c W (.Constant (.str i) j pos) (tC (.str i)) (mC (.str i)) := ⟨pe_str, den_c fun _ => .str _⟩
theorem qty {x : Str} {n : String} (hm : X.mg x = none) (hg : Gl X x := by rfl) (hv : bootBuiltins x = some (.type n) := by decide +kernel) (hn : x ≠ "__name__" := by decide) (hd : (x == ("__debug__" : Str)) = false := by decide) : QE X c W (.Name x pos) (tC (.ty n)) (mC (.ty n)) := ⟨pe_bltn (v := .ty n) hg hm hv rfl hn hd, den_c fun _ => .ty _⟩
theorem qk {x : Str} {i : Int} (h : ∃ t, X.mg x = some (Value.int i t)) (hg : Gl X x := by rfl) (hd : (x == ("__debug__" : Str)) = false := by decide) : QE X c W (.Name x pos) (tC (.int i)) (mC (.int i)) := by
  obtain ⟨t, h⟩ := h
  exact ⟨pe_glob (v := .int i) hg h ⟨t, rfl⟩ hd, den_c fun _ => .int _⟩
theorem q_add (ha : QE X c W a ta fa) (hb : QE X c W b tb fb) (hK : X.K = c.K := by rfl) : QE X c W (.BinOp a .Add b pos) (tOp (rAddG c.K) ta tb) (mOp gAdd fa fb) := by
  obtain ⟨h1, h2⟩ := ha; obtain ⟨k1, k2⟩ := hb
  exact ⟨hK ▸ pe_op op_addG h1 k1, den_op od_add h2 k2⟩
theorem q_sub (ha : QE X c W a ta fa) (hb : QE X c W b tb fb) : QE X c W (.BinOp a .Sub b pos) (tOp (rI0 fun i j => .int (i - j)) ta tb) (mOp gMinus fa fb) := by
  obtain ⟨h1, h2⟩ := ha; obtain ⟨k1, k2⟩ := hb
  exact ⟨pe_op op_sub h1 k1, den_op od_sub h2 k2⟩
theorem q_mul (ha : QE X c W a ta fa) (hb : QE X c W b tb fb) : QE X c W (.BinOp a .Mult b pos) (tOp rMulG ta tb) (mOp gMul fa fb) := by
  obtain ⟨h1, h2⟩ := ha; obtain ⟨k1, k2⟩ := hb
  exact ⟨pe_op op_mulG h1 k1, den_op od_mul h2 k2⟩
theorem q_mod (ha : QE X c W a ta fa) (hb : QE X c W b tb fb) : QE X c W (.BinOp a .Mod b pos) (tOp (rI (fun _ j => 0 < j) fun i j => .int (i % j)) ta tb) (mOp gMod fa fb) := by
  obtain ⟨h1, h2⟩ := ha; obtain ⟨k1, k2⟩ := hb
  exact ⟨pe_op op_mod h1 k1, den_op od_mod h2 k2⟩
theorem q_fdiv (ha : QE X c W a ta fa) (hb : QE X c W b tb fb) : QE X c W (.BinOp a .FloorDiv b pos) (tOp (rI CDiv fun i j => .int (i / j)) ta tb) (mOp gDiv fa fb) := by
  obtain ⟨h1, h2⟩ := ha; obtain ⟨k1, k2⟩ := hb
  exact ⟨pe_op op_fdiv h1 k1, den_op od_div h2 k2⟩
theorem q_pow (ha : QE X c W a ta fa) (hb : QE X c W b tb fb) : QE X c W (.BinOp a .Pow b pos) (tOp (rI CPow fun i j => .int (i ^ j.toNat)) ta tb) (mOp gPow fa fb) := by
  obtain ⟨h1, h2⟩ := ha; obtain ⟨k1, k2⟩ := hb
  exact ⟨pe_op op_pow h1 k1, den_op od_pow h2 k2⟩
theorem q_neg (ha : QE X c W a ta fa) : QE X c W (.UnaryOp .USub a pos) (tUn (rU fun i => .int (-i)) ta) (mUn gNeg fa) := by
  obtain ⟨h1, h2⟩ := ha
  exact ⟨pe_un un_neg h1, den_un ud_neg h2⟩
/-- an operator of comparison -/
structure QR (X : Cx) (c : Cfg) (op : CmpOp) (r : R2) (g : D → D → Option S) : Prop where
  pe : OpR X (compareOp op) r
  dn : OpDen c r g
  mono : ∀ x y H (Q Q' : VK), (∀ v H', Q v H' → Q' v H') → r x y H Q → r x y H Q'
theorem r_lt : QR X c .Lt (rI0 fun i j => .bl (decide (i < j))) gLt := ⟨op_lt, od_BB, fun x y H Q Q' h ⟨i, j, e1, e2, q⟩ => ⟨i, j, e1, e2, h _ _ q⟩⟩
theorem r_le : QR X c .LtE (rI0 fun i j => .bl (decide (i ≤ j))) gLe := ⟨op_le, od_BB, fun x y H Q Q' h ⟨i, j, e1, e2, q⟩ => ⟨i, j, e1, e2, h _ _ q⟩⟩
theorem r_gt : QR X c .Gt (rI0 fun i j => .bl (decide (j < i))) gGt := ⟨op_gt, od_BB, fun x y H Q Q' h ⟨i, j, e1, e2, q⟩ => ⟨i, j, e1, e2, h _ _ q⟩⟩
theorem r_ge : QR X c .GtE (rI0 fun i j => .bl (decide (j ≤ i))) gGe := ⟨op_ge, od_BB, fun x y H Q Q' h ⟨i, j, e1, e2, q⟩ => ⟨i, j, e1, e2, h _ _ q⟩⟩
theorem un66 {A : Around} (hr : Room k A) : A.units + 66 < cLine := by
  have := hr.un
  omega
theorem r_eq (hr : Room k X.A) (hK : X.K = c.K := by rfl) : QR X c .Eq (rEqP c.K false) gEq := ⟨hK ▸ op_eqP (un66 hr), od_eq, fun x y H Q Q' h ⟨d, e, a1, a2, a3, a4, a5, q⟩ => ⟨d, e, a1, a2, a3, a4, a5, h _ _ q⟩⟩
theorem r_ne (hr : Room k X.A) (hK : X.K = c.K := by rfl) : QR X c .NotEq (rEqP c.K true) gNe := ⟨hK ▸ op_neP (un66 hr), od_ne, fun x y H Q Q' h ⟨d, e, a1, a2, a3, a4, a5, q⟩ => ⟨d, e, a1, a2, a3, a4, a5, h _ _ q⟩⟩
theorem r_in (hr : Room k X.A) (hK : X.K = c.K := by rfl) : QR X c .In (rInP c.K false) gIn := ⟨hK ▸ op_inP (un66 hr), od_in, fun x y H Q Q' h ⟨d, e, a1, a2, a3, a4, a5, q⟩ => ⟨d, e, a1, a2, a3, a4, a5, h _ _ q⟩⟩
theorem r_nin (hr : Room k X.A) (hK : X.K = c.K := by rfl) : QR X c .NotIn (rInP c.K true) gNotIn := ⟨hK ▸ op_ninP (un66 hr), od_in, fun x y H Q Q' h ⟨d, e, a1, a2, a3, a4, a5, q⟩ => ⟨d, e, a1, a2, a3, a4, a5, h _ _ q⟩⟩
theorem r_is : QR X c .Is (fun x y H Q => y = .non ∧ Q (.bl (decide (x = .non))) H) gIsN := ⟨op_isN, od_isN, fun x y H Q Q' h ⟨a1, q⟩ => ⟨a1, h _ _ q⟩⟩
theorem r_nis : QR X c .IsNot (fun x y H Q => y = .non ∧ Q (.bl (!decide (x = .non))) H) gNotN := ⟨op_notN, od_notN, fun x y H Q Q' h ⟨a1, q⟩ => ⟨a1, h _ _ q⟩⟩
theorem q_cmp {op : CmpOp} {g : D → D → Option S} {r : R2} (ho : QR X c op r g) (ha : QE X c W a ta fa) (hb : QE X c W b tb fb) (hm : behindInMarks op b = false := by first | exact nomark _ | with_unfolding_all rfl) : QE X c W (.Compare a [op] [b] pos) (tOp r ta tb) (mOp g fa fb) := by
  obtain ⟨h1, h2⟩ := ha; obtain ⟨k1, k2⟩ := hb; obtain ⟨r1, r2, _⟩ := ho
  exact ⟨pe_cmpR r1 h1 k1 hm, den_op r2 h2 k2⟩
theorem t_cmp {op : CmpOp} {g : D → D → Option S} {r : R2} (ho : QR X c op r g) (ha : QE X c W a ta fa) (hb : QE X c W b tb fb) (hm : behindInMarks op b = false := by first | exact nomark _ | with_unfolding_all rfl) : QT X c W (.Compare a [op] [b] pos) (tTest (tOp r ta tb)) (mTest (mOp g fa fb)) := by
  obtain ⟨h1, h2⟩ := ha; obtain ⟨k1, k2⟩ := hb; obtain ⟨r1, r2, _⟩ := ho
  exact ⟨pt_cmpR r1 h1 k1 hm, dt_test (den_op r2 h2 k2)⟩
theorem q_chain {op op' : CmpOp} {g g' : D → D → Option S} {r r' : R2} (ho : QR X c op r g) (ho' : QR X c op' r' g') (ha : QE X c W a ta fa) (hb : QE X c W b tb fb) (he : QE X c W e te fe) (hm : lastMarks [op, op'] [b, e] = false := by with_unfolding_all rfl) : QE X c W (.Compare a [op, op'] [b, e] pos) (tChain r r' ta tb te) (mChain g g' fa fb fe) := by
  obtain ⟨h1, h2⟩ := ha; obtain ⟨k1, k2⟩ := hb; obtain ⟨l1, l2⟩ := he; obtain ⟨r1, r2, m⟩ := ho; obtain ⟨s1, s2, _⟩ := ho'
  exact ⟨pe_chain r1 s1 h1 k1 l1 hm, den_chain r2 s2 m h2 k2 l2⟩
theorem t_chain {op op' : CmpOp} {g g' : D → D → Option S} {r r' : R2} (ho : QR X c op r g) (ho' : QR X c op' r' g') (ha : QE X c W a ta fa) (hb : QE X c W b tb fb) (he : QE X c W e te fe) (hm : lastMarks [op, op'] [b, e] = false := by with_unfolding_all rfl) : QT X c W (.Compare a [op, op'] [b, e] pos) (tTest (tChain r r' ta tb te)) (mTest (mChain g g' fa fb fe)) := by
  obtain ⟨h1, h2⟩ := ha; obtain ⟨k1, k2⟩ := hb; obtain ⟨l1, l2⟩ := he; obtain ⟨r1, r2, m⟩ := ho; obtain ⟨s1, s2, _⟩ := ho'
  exact ⟨pt_chain r1 s1 h1 k1 l1 hm, dt_test (den_chain r2 s2 m h2 k2 l2)⟩
theorem t_val (he : QE X c W e te fe) (h : ∀ whole, isTrue e X.env whole = (do let v ← whole; standAt e.pos; holding [v] (truthy v)) := by intro _; rfl) : QT X c W e (tB te) (mTest fe) := by
  obtain ⟨h1, h2⟩ := he
  exact ⟨pt_val h1 h, dt_B h2⟩
theorem t_tru (he : QE X c W e te fe) (h : ∀ whole, isTrue e X.env whole = (do let v ← whole; standAt e.pos; holding [v] (truthy v)) := by intro _; rfl) (hK : X.K = c.K := by rfl) : QT X c W e (tTru c.K te) (mTruth fe) := by
  obtain ⟨h1, h2⟩ := he
  have h3 : PT X e (tTru X.K te) := pt_truth h1 h
  exact ⟨hK ▸ h3, dt_truth h2⟩
theorem t_truO (i : Nat) {x : Str} (hN : X.N[i]? = some x := by rfl) (hv : Vis X.env.scope x := by first | exact Or.inl rfl | exact Or.inr (Or.inl rfl) | exact Or.inr (Or.inr rfl)) (hd : (x == ("__debug__" : Str)) = false := by decide)
    (hcd : (x == ("__classdict__" : Str)) = false := by decide) (h : ∀ whole, isTrue (.Name x pos) X.env whole = (do let v ← whole; standAt (Expr.Name x pos).pos; holding [v] (truthy v)) := by intro _; rfl) (hK : X.K = c.K := by rfl) : QT X c W (.Name x pos) (tTru c.K (tVar i)) (mTruthO i) := by
  have h3 : PT X (.Name x pos) (tTru X.K (tVar i)) := pt_truth (pe_var hN hv hd hcd) h
  exact ⟨hK ▸ h3, dt_truthO⟩
theorem t_not (h : QT X c W a tt ft) : QT X c W (.UnaryOp .Not a pos) (tNot tt) (mNot ft) := by
  obtain ⟨h1, h2⟩ := h
  exact ⟨pt_not h1, dt_not h2⟩
theorem w_and1 (h : QT X c W a tt ft) : QW X c W (.BoolOp .And [a] pos) tt ft := by
  obtain ⟨h1, h2⟩ := h
  exact ⟨pw_and1 h1, h2⟩
theorem w_or1 (h : QT X c W a tt ft) : QW X c W (.BoolOp .Or [a] pos) tt ft := by
  obtain ⟨h1, h2⟩ := h
  exact ⟨pw_or1 h1, h2⟩
theorem w_and (h : QT X c W a tt ft) (k : QW X c W (.BoolOp .And (b :: es) pos) tu fu) : QW X c W (.BoolOp .And (a :: b :: es) pos) (tAnd tt tu) (mAnd ft fu) := by
  obtain ⟨h1, h2⟩ := h; obtain ⟨k1, k2⟩ := k
  exact ⟨pw_and h1 k1, dt_and h2 k2⟩
theorem w_or (h : QT X c W a tt ft) (k : QW X c W (.BoolOp .Or (b :: es) pos) tu fu) : QW X c W (.BoolOp .Or (a :: b :: es) pos) (tOr tt tu) (mOr ft fu) := by
  obtain ⟨h1, h2⟩ := h; obtain ⟨k1, k2⟩ := k
  exact ⟨pw_or h1 k1, dt_or h2 k2⟩
theorem QW.t (h : QW X c W a tt ft) : QT X c W a tt ft := by
  obtain ⟨h1, h2⟩ := h
  exact ⟨h1.pt, h2⟩
theorem q_one {op} (h : QE X c W a ta fa) : QE X c W (.BoolOp op [a] pos) ta fa := by
  obtain ⟨h1, h2⟩ := h
  exact ⟨pe_one h1, h2⟩
theorem q_and (h : QE X c W a ta fa) (k : QE X c W (.BoolOp .And (b :: es) pos) tb fb) : QE X c W (.BoolOp .And (a :: b :: es) pos) (tAndV ta tb) (mAndV fa fb) := by
  obtain ⟨h1, h2⟩ := h; obtain ⟨k1, k2⟩ := k
  exact ⟨pe_and h1 k1, den_andV h2 k2⟩
theorem q_or (h : QE X c W a ta fa) (k : QE X c W (.BoolOp .Or (b :: es) pos) tb fb) : QE X c W (.BoolOp .Or (a :: b :: es) pos) (tOrV ta tb) (mOrV fa fb) := by
  obtain ⟨h1, h2⟩ := h; obtain ⟨k1, k2⟩ := k
  exact ⟨pe_or h1 k1, den_orV h2 k2⟩
theorem q_not (h : QE X c W a ta fa) : QE X c W (.UnaryOp .Not a pos) (tNotV ta) (mNotV fa) := by
  obtain ⟨h1, h2⟩ := h
  exact ⟨pe_not h1, den_notV h2⟩
theorem q_if (h : QT X c W d tt ft) (ha : QE X c W a ta fa) (hb : QE X c W b tb fb) : QE X c W (.IfExp d a b pos) (tIf tt ta tb) (mIf ft fa fb) := by
  obtain ⟨h1, h2⟩ := h; obtain ⟨k1, k2⟩ := ha; obtain ⟨l1, l2⟩ := hb
  exact ⟨pe_ifExp h1 k1 l1, den_if h2 k2 l2⟩
theorem a_nil : QA X c W [] tNil aNil := ⟨pa_nil, den_nil⟩
theorem a_cons (h : QE X c W e te fe) (k : QA X c W es tA fA) (hs : starEach (e :: es) X.env = (false, eval e X.env) :: starEach es X.env := by rfl) : QA X c W (e :: es) (tCons te tA) (aCons fe fA) := by
  obtain ⟨h1, h2⟩ := h; obtain ⟨k1, k2⟩ := k
  exact ⟨pa_cons h1 k1 hs, den_cons h2 k2⟩
theorem c_own (i : Nat) {x : Str} (k : QA X c W es tA fA) (hN : X.N[i]? = some x := by rfl) (hv : Vis X.env.scope x := by first | exact Or.inl rfl | exact Or.inr (Or.inl rfl) | exact Or.inr (Or.inr rfl)) (hd : (x == ("__debug__" : Str)) = false := by decide)
    (hcd : (x == ("__classdict__" : Str)) = false := by decide) (hs : starEach (.Name x pos :: es) X.env = (false, eval (.Name x pos) X.env) :: starEach es X.env := by rfl) : QC X c W (.Name x pos :: es) i 0 (tCons (tVar i) tA) (aOwn i fA) := by
  obtain ⟨k1, k2⟩ := k
  exact ⟨pa_cons (pe_var hN hv hd hcd) k1 hs, dc_own k2⟩
theorem c_cons {i j : Nat} (h : QE X c W e te fe) (k : QC X c W es i j tA fA) (hs : starEach (e :: es) X.env = (false, eval e X.env) :: starEach es X.env := by rfl) : QC X c W (e :: es) i (j + 1) (tCons te tA) (aCons fe fA) := by
  obtain ⟨h1, h2⟩ := h; obtain ⟨k1, k2⟩ := k
  exact ⟨pa_cons h1 k1 hs, dc_cons h2 k2⟩
theorem q_tup {x1} (h : QA X c W es tA fA) : QE X c W (.Tuple es x1 pos) (tTup tA) (mTup fA) := by
  obtain ⟨h1, h2⟩ := h
  exact ⟨pe_tup h1, den_tup h2⟩
theorem q_lst (h : QA X c W es tA fA) : QE X c W (.List es pos) (tLst tA) (mLst fA) := by
  obtain ⟨h1, h2⟩ := h
  exact ⟨pe_lst h1, den_lst h2⟩
theorem q_ix (ha : QE X c W a ta fa) (hb : QE X c W b tb fb) (hs : PlainIx b := by exact fun _ _ => rfl) (hK : X.K = c.K := by rfl) : QE X c W (.Subscript a b pos) (tOp (rIx c.K) ta tb) (mOp gIx fa fb) := by
  obtain ⟨h1, h2⟩ := ha; obtain ⟨k1, k2⟩ := hb
  exact ⟨hK ▸ pe_ix ix_seq h1 k1 hs, den_op od_ix h2 k2⟩
theorem q_ixO (i : Nat) {x : Str} (hb : QE X c W b tb fb) (hN : X.N[i]? = some x := by rfl) (hv : Vis X.env.scope x := by first | exact Or.inl rfl | exact Or.inr (Or.inl rfl) | exact Or.inr (Or.inr rfl)) (hd : (x == ("__debug__" : Str)) = false := by decide)
    (hcd : (x == ("__classdict__" : Str)) = false := by decide) (hs : PlainIx b := by exact fun _ _ => rfl) (hK : X.K = c.K := by rfl) : QE X c W (.Subscript (.Name x p) b pos) (tOp (rIx c.K) (tVar i) tb) (mIxO i fb) := by
  obtain ⟨k1, k2⟩ := hb
  exact ⟨hK ▸ pe_ix ix_seq (pe_var hN hv hd hcd) k1 hs, den_ixO k2⟩
theorem o_none : QO X c W none tNoPart oNone := ⟨po_none, do_none⟩
theorem o_some (h : QE X c W e te fe) : QO X c W (some e) (tPart te) (oSome fe) := by
  obtain ⟨h1, h2⟩ := h
  exact ⟨po_some h1, do_some h2⟩
theorem q_sl {lo hi : Option Expr} {fl fh : M (Option Int)} {tl th : TO} (h : QE X c W e te fe) (hl : QO X c W lo tl fl) (hh : QO X c W hi th fh) (hK : X.K = c.K := by rfl) : QE X c W (.Subscript e (.Slice lo hi none p2) pos) (tSl (rSlG c.K) te tl th) (mSl fe fl fh) := by
  obtain ⟨h1, h2⟩ := h; obtain ⟨k1, k2⟩ := hl; obtain ⟨l1, l2⟩ := hh
  exact ⟨hK ▸ pe_slice sl_G h1 k1 l1, den_sl h2 k2 l2⟩
theorem q_fld {f : Str} (n : String) (i : Nat) (K : FldOk c n f i) (h : QE X c W e te fe) (hb : attributeBase e f X.env (eval e X.env) = eval e X.env := by rfl) (hK : X.K = c.K := by rfl) : QE X c W (.Attribute e f pos) (tFld c.K te f) (mFldE n i fe) := by
  obtain ⟨h1, h2⟩ := h
  exact ⟨hK ▸ pe_fld h1 hb, den_fld K h2⟩
theorem q_fldO {f x : Str} (n : String) (i j : Nat) (K : FldOk c n f i) (hN : X.N[j]? = some x := by rfl) (hv : Vis X.env.scope x := by first | exact Or.inl rfl | exact Or.inr (Or.inl rfl) | exact Or.inr (Or.inr rfl)) (hd : (x == ("__debug__" : Str)) = false := by decide)
    (hcd : (x == ("__classdict__" : Str)) = false := by decide) (hb : attributeBase (.Name x p) f X.env (eval (.Name x p) X.env) = eval (.Name x p) X.env := by rfl) (hK : X.K = c.K := by rfl) : QE X c W (.Attribute (.Name x p) f pos) (tFld c.K (tVar j) f) (mFldO n i j) :=
  ⟨hK ▸ pe_fld (pe_var hN hv hd hcd) hb, den_fldO K⟩
/-- a property of a class -/
structure Prp (P : Program) (w : World) (c : Cfg) (mg : Str → Option Value) (base : Heap) (k : Nat) (n : String) (x f : Str) (i : Nat) : Prop where
  fld : FldOk c n f i
  ex : ∃ (p g : Addr) (fd : FuncData) (ps : List Str), PropOf c.K (c.cls n) x p g ∧ FnOk P w c.K mg base L2.CX0 k g fd ps (getSp (c.cls n) f) ∧ Binds c.K fd ps []
theorem q_pr {j : Nat} {n : String} {x f : Str} {i : Nat} (K : Prp X.prog X.w c X.mg X.base k n x f i) (hr : Room j X.A) (hk : k + 1 ≤ j) (h : QE X c W e te fe) (hab : attributeBase e x X.env (eval e X.env) = eval e X.env := by rfl) (hK : X.K = c.K := by rfl) : QE X c W (.Attribute e x pos) (tProp (c.cls n) (getSp (c.cls n) f) [] L2.E0 te) (mFldE n i fe) := by
  obtain ⟨h1, h2⟩ := h
  obtain ⟨p, g, fd, ps, hp, F, b⟩ := K.ex
  refine ⟨pe_prop (C := c.cls n) (f := x) (sp := getSp (c.cls n) f) (dvs := []) (E := L2.E0) h1 (hK ▸ K.fld.cl) (hK ▸ hp) (hK ▸ F) (hr.mono hk) (hK ▸ b) .nil L2.pass0 hab, den_prop K.fld h2⟩
/-! ### calls -/
theorem q_call {x : Str} {F : Fn} {j : Nat} (C : Cal X.prog X.w c.K X.mg X.base k x (spF c F) []) (hr : Room j X.A) (hk : k ≤ j) (ha : QA X c W (e :: es) tA fA) (hg : Gl X x := by rfl) (hK : X.K = c.K := by rfl)
    (hdb : (x == ("__debug__" : Str)) = false := by decide) (he : starEach (e :: es) X.env = (false, eval e X.env) :: starEach es X.env := by rfl) (hpl : (backTo pos (starEach es X.env)).any (·.1) = false := by rfl) : QE X c W (.Call (.Name x p) (e :: es) [] pos) (tCall (spF c F) [] C8.E0 tA) (mCall F fA) := by
  obtain ⟨h1, h2⟩ := ha
  exact ⟨pe_c (hK ▸ C) hr hk hg h1 hdb he hpl, den_call h2⟩
theorem q_callO {x : Str} {F : Fn} {j i l : Nat} (C : Cal X.prog X.w c.K X.mg X.base k x (spF c F) []) (hr : Room j X.A) (hk : k ≤ j) (ha : QC X c W (e :: es) i l tA fA) (hg : Gl X x := by rfl) (hK : X.K = c.K := by rfl)
    (hdb : (x == ("__debug__" : Str)) = false := by decide) (he : starEach (e :: es) X.env = (false, eval e X.env) :: starEach es X.env := by rfl) (hpl : (backTo pos (starEach es X.env)).any (·.1) = false := by rfl) : QE X c W (.Call (.Name x p) (e :: es) [] pos) (tCall (spF c F) [] C8.E0 tA) (mCallO F i l fA) := by
  obtain ⟨h1, h2⟩ := ha
  exact ⟨pe_c (hK ▸ C) hr hk hg h1 hdb he hpl, den_callO h2⟩
theorem q_make {x : Str} {F : Fn} {j nf : Nat} (n : String) (C : Mak X.prog X.w c.K X.mg X.base k x (c.cls n) (spF c F) []) (hnf : (c.flds n).length = nf) (hr : Room j X.A) (hk : k + 1 ≤ j) (ha : QA X c W (e :: es) tA fA) (hg : Gl X x := by rfl) (hK : X.K = c.K := by rfl)
    (hdb : (x == ("__debug__" : Str)) = false := by decide) (he : starEach (e :: es) X.env = (false, eval e X.env) :: starEach es X.env := by rfl) (hpl : (backTo pos (starEach es X.env)).any (·.1) = false := by rfl) : QE X c W (.Call (.Name x p) (e :: es) [] pos) (tMake (c.cls n) (spF c F) [] C8.E0 tA) (mMake n nf F fA) := by
  obtain ⟨h1, h2⟩ := ha
  exact ⟨pe_mk (hK ▸ C) hr hk hg h1 hdb he hpl, den_make hnf h2⟩
/-- a built-in by its name -/
structure QB (X : Cx) (c : Cfg) (x : Str) (r : List V → Hp → VK → Prop) (g : List D → Option S) : Prop where
  ex : (∃ id, CallR X (.builtin id) r ∧ bootBuiltins x = some (.builtin id)) ∨ (∃ T, CallR X (.type T) r ∧ bootBuiltins x = some (.type T))
  dn : CbDen c r g
theorem q_blt {x : Str} {g : List D → Option S} {r : List V → Hp → VK → Prop} (B : QB X c x r g) (hm : X.mg x = none) (ha : QA X c W (e :: es) tA fA) (hg : Gl X x := by rfl) (hn : x ≠ "__name__" := by decide)
    (hdb : (x == ("__debug__" : Str)) = false := by decide) (he : starEach (e :: es) X.env = (false, eval e X.env) :: starEach es X.env := by rfl) (hpl : (backTo pos (starEach es X.env)).any (·.1) = false := by rfl) : QE X c W (.Call (.Name x p) (e :: es) [] pos) (tCB r tA) (mCB g fA) := by
  obtain ⟨h1, h2⟩ := ha
  rcases B.ex with ⟨id, r1, r2⟩ | ⟨T, r1, r2⟩
  · exact ⟨pe_callB r1 hg hm r2 h1 hn hdb he hpl, den_cb B.dn h2⟩
  · exact ⟨pe_callTy r1 hg hm r2 h1 hn hdb he hpl, den_cb B.dn h2⟩
theorem b_len (hK : X.K = c.K := by rfl) : QB X c "len" (rLenG c.K) gLen := ⟨.inl ⟨_, hK ▸ cr_lenG, PySem.boot_len⟩, cd_len⟩
theorem b_tuple (hK : X.K = c.K := by rfl) : QB X c "tuple" (fun xs H Q => ∃ p ys, xs = [.ref p] ∧ ((SqL c.K H p ys ∧ ∀ l, H l = none → Q (.ref l) (upd H l (.tup ys))) ∨ (SqT c.K H p ys ∧ Q (.ref p) H))) gTuple := ⟨.inr ⟨_, hK ▸ call_tuple_of, by decide +kernel⟩, cd_tuple⟩
theorem b_list (hK : X.K = c.K := by rfl) : QB X c "list" (fun xs H Q => ∃ p ys, xs = [.ref p] ∧ (SqL c.K H p ys ∨ SqT c.K H p ys) ∧ ∀ l, H l = none → Q (.ref l) (upd H l (.lst ys))) gList := ⟨.inr ⟨_, hK ▸ call_list_of, by decide +kernel⟩, cd_list⟩
theorem b_all (hc : X.calm = true := by rfl) (hK : X.K = c.K := by rfl) : QB X c "all" (rAll c.K) gAll := ⟨.inl ⟨_, hK ▸ cr_all hc, by decide +kernel⟩, cd_all⟩
theorem b_any (hc : X.calm = true := by rfl) (hK : X.K = c.K := by rfl) : QB X c "any" (rAny c.K) gAny := ⟨.inl ⟨_, hK ▸ cr_any hc, by decide +kernel⟩, cd_any⟩
theorem b_isi (hK : X.K = c.K := by rfl) : QB X c "isinstance" (rIsi c.K) gIsi := ⟨.inl ⟨_, hK ▸ call_isi, by decide +kernel⟩, cd_isi⟩
end
end Fx

/-! statements and what they make of a state -/
namespace Fx
open PySem PySem.Spec PyProof.Rows L2
open C8 (Cal Mak pe_c pe_mk)
section
variable {X : Cx} {c : Cfg} {W : WX} {a b e d tg it : Expr} {es : List Expr} {fa fb fe fd : M S} {fA fI : M (List D)} {ft fu : M Bool} {pos p p2 apos cpos : Pos} {k : Nat} {st : Stmt} {ss rs : List Stmt} {F G : M Fl} {g : D → M Unit} {gs : List D → M Unit} {js js' : List Nat} {ta tb te td : TE} {tA : TA} {tt tu : TT} {tgt : TG} {tgs : TGs} {wi : TI} {t u : TS}
/-! ### targets -/
theorem g_name (i : Nat) {x : Str} (hN : X.N.Nodup) (hi : X.N[i]? = some x := by rfl) (hx : Loc X.env.scope x := by first | exact Or.inl rfl | exact Or.inr rfl) (hf : X.fn x = true ∨ X.env.scope.names.lookup x = some .local := by first | exact Or.inl rfl | exact Or.inr rfl) : QG X c W (.Name x pos) (gName i) (gmName i) [i] := ⟨pg_name hN hi hx hf, dg_name⟩
theorem gs_nil : QGs X c W [] gNil gmNil [] := ⟨pgs_nil, dgs_nil⟩
theorem gs_cons (h : QG X c W e tgt g js) (k : QGs X c W es tgs gs js') (hs : (assignEach (e :: es) X.env).map (·.2) = assign e X.env :: (assignEach es X.env).map (·.2) := by rfl) : QGs X c W (e :: es) (gCons tgt tgs) (gmCons g gs) (js ++ js') := by
  obtain ⟨h1, h2⟩ := h; obtain ⟨k1, k2⟩ := k
  exact ⟨pgs_cons h1 k1 hs, dgs_cons h2 k2⟩
theorem g_tup (n : Nat) {kk : Nat} (h : QGs X c W es tgs gs js) (hc : X.calm = true := by rfl) (hn : (assignEach es X.env).length = n := by rfl) (hst : (assignEach es X.env).findIdx? (·.1) = none := by rfl) (hK : X.K = c.K := by rfl) : QG X c W (.Tuple es kk pos) (gTup c.K n tgs) (gmTup n gs) js := by
  obtain ⟨h1, h2⟩ := h
  exact ⟨hK ▸ pg_tup hc h1 hn hst, dg_tup h2⟩
theorem g_item (i : Nat) {x : Str} (h : QE X c W e te fe) (hN : X.N[i]? = some x := by rfl) (hv : Vis X.env.scope x := by first | exact Or.inl rfl | exact Or.inr (Or.inl rfl) | exact Or.inr (Or.inr rfl)) (hd : (x == ("__debug__" : Str)) = false := by decide)
    (hcd : (x == ("__classdict__" : Str)) = false := by decide)
    (ha : ∀ v, assign (.Subscript (.Name x p) e pos) X.env v = (do
      let ov ← holding [v] (eval (.Name x p) X.env)
      let iv ← holding [v, ov] (eval e X.env)
      standAt pos
      holding [v, ov, iv] (setItem ov iv v)
      release [v, ov, iv] []) := by intro _; rfl) : QG X c W (.Subscript (.Name x p) e pos) (gSub (tVar i) te rSetL) (gmItem i fe) [] := by
  obtain ⟨h1, h2⟩ := h
  exact ⟨pg_sub (pe_var hN hv hd hcd) h1 set_list ha, dg_item h2⟩
/-! ### blocks -/
theorem ss_nil : QSs X c W [] tNext mNx := ⟨pss_nil, ds_nx⟩
theorem ss_cons (h : QS X c W st t F) (k : QSs X c W ss u G) : QSs X c W (st :: ss) (tSeq t u) (mSeq F G) := by
  obtain ⟨h1, h2⟩ := h; obtain ⟨k1, k2⟩ := k
  exact ⟨pss_cons h1 k1, ds_seq h2 k2⟩
theorem ss_one (h : QS X c W st t F) : QSs X c W [st] t F := by
  obtain ⟨h1, h2⟩ := h
  exact ⟨pss_one h1, h2⟩
theorem ss_never : QSs X c W ss tNever mSt := ⟨pss_never, ds_never⟩
theorem s_never : QS X c W st tNever mSt := ⟨ps_never, ds_never⟩
theorem s_pass : QS X c W (.Pass pos) tNext mNx := ⟨ps_pass, ds_nx⟩
theorem s_break : QS X c W (.Break pos) tBreak mBk := ⟨ps_break, ds_bk⟩
theorem s_cont : QS X c W (.Continue pos) tCont mCt := ⟨ps_continue, ds_ct⟩
theorem s_doc {x j pos'} : QS X c W (.Expr (.Constant (.str x) j pos) pos') tNext mNx := ⟨ps_doc, ds_nx⟩
theorem s_ret (h : QE X c W e te fe) : QS X c W (.Return (some e) pos) (tRet te) (mRet fe) := by
  obtain ⟨h1, h2⟩ := h
  exact ⟨ps_ret h1, ds_ret h2⟩
theorem s_retN : QS X c W (.Return none pos) tRetN mRetN := ⟨ps_retN, ds_retN⟩
theorem ds_retO {i : Nat} : DenS c W (tRet (tVar i)) (mRetO i) := fun B ts vs ρ σ H D r q => by
  unfold mRetO at q
  split at q
  · rename_i x e
    obtain ⟨G, o1, o2, kk, h1, h2⟩ := id r
    obtain ⟨a, own', ev, hc, hb, h3, m1, m2, m3, m4⟩ := h2.takeO e
    have nd := kk.nd
    rw [List.nodup_append] at nd
    obtain ⟨n4, n5⟩ := m4 nd.2.1
    refine ⟨.ref a, ev, q _ σ H ⟨G, a :: o1, own', kk.subO (fun p hp => ?_) ?_, .o hc (fun _ e => nomatch e) h1, h3⟩⟩
    · rcases List.mem_append.mp hp with hp | hp
      · rcases List.mem_cons.mp hp with rfl | hp
        · exact List.mem_append_right _ m3
        · exact List.mem_append_left _ hp
      · exact List.mem_append_right _ (m2 p hp)
    · rw [List.cons_append, List.nodup_cons, List.nodup_append]
      refine ⟨fun hm => ?_, nd.1, n4, fun x hx y hy => nd.2.2 x hx y (m2 y hy)⟩
      rcases List.mem_append.mp hm with hm | hm
      · exact nd.2.2 a hm a m3 rfl
      · exact n5 hm
  · rename_i x e
    obtain ⟨v, e1, r1⟩ := r.var e
    exact ⟨v, e1, q v σ H r1⟩
  · exact q.elim
theorem s_retO (i : Nat) {x : Str} (hN : X.N[i]? = some x := by rfl) (hv : Vis X.env.scope x := by first | exact Or.inl rfl | exact Or.inr (Or.inl rfl) | exact Or.inr (Or.inr rfl)) (hd : (x == ("__debug__" : Str)) = false := by decide)
    (hcd : (x == ("__classdict__" : Str)) = false := by decide) : QS X c W (.Return (some (.Name x p)) pos) (tRet (tVar i)) (mRetO i) := ⟨ps_ret (pe_var hN hv hd hcd), ds_retO⟩
theorem s_if (h : QT X c W d tt ft) (k : QSs X c W ss t F) (l : QSs X c W rs u G) : QS X c W (.If d ss rs pos) (tIfS tt t u) (mIfS ft F G) := by
  obtain ⟨h1, h2⟩ := h; obtain ⟨k1, k2⟩ := k; obtain ⟨l1, l2⟩ := l
  exact ⟨ps_if h1 k1 l1, ds_if h2 k2 l2⟩
theorem s_expr (h : QE X c W e te fe) (hs : swapsWith e none pos.line X.env = pure false := by rfl) : QS X c W (.Expr e pos) (tDrop te) (mDrop fe) := by
  obtain ⟨h1, h2⟩ := h
  exact ⟨ps_expr h1 hs, ds_drop h2⟩
theorem s_set (i : Nat) {x : Str} (hN : X.N.Nodup) (h : QE X c W e te fe) (hi : X.N[i]? = some x := by rfl) (hx : Loc X.env.scope x := by first | exact Or.inl rfl | exact Or.inr rfl) (hs : swapsWith e (some (.Name x p)) pos.line X.env = pure false := by rfl) (hf : X.fn x = true ∨ X.env.scope.names.lookup x = some .local := by first | exact Or.inl rfl | exact Or.inr rfl) :
    QS X c W (.Assign [.Name x p] e pos) (tAsg te (gName i)) (mAsg fe (gmName i)) := by
  obtain ⟨h1, h2⟩ := h
  exact ⟨ps_set hN hi hx h1 hs hf, ds_asg h2 dg_name⟩
theorem s_setO (i : Nat) {x : Str} (hN : X.N.Nodup) (h : QE X c W e te fe) (hi : X.N[i]? = some x := by rfl) (hx : Loc X.env.scope x := by first | exact Or.inl rfl | exact Or.inr rfl) (hs : swapsWith e (some (.Name x p)) pos.line X.env = pure false := by rfl) (hf : X.fn x = true ∨ X.env.scope.names.lookup x = some .local := by first | exact Or.inl rfl | exact Or.inr rfl) :
    QS X c W (.Assign [.Name x p] e pos) (tAsg te (gName i)) (mAsgO i fe) := by
  obtain ⟨h1, h2⟩ := h
  exact ⟨ps_set hN hi hx h1 hs hf, ds_asgO h2⟩
theorem s_asg (h : QE X c W e te fe) (k : QG X c W tg tgt g js) (hs : swapsWithSole [tg] e pos.line X.env = pure false := by rfl) (hw : swappedStores [tg] e X.env = pure none := by rfl)
    (h1 : (assignEach [tg] X.env).map (·.2) = [assign tg X.env] := by rfl) : QS X c W (.Assign [tg] e pos) (tAsg te tgt) (mAsg fe g) := by
  obtain ⟨h2, h3⟩ := h; obtain ⟨k1, k2⟩ := k
  exact ⟨ps_asg h2 k1 hs hw h1, ds_asg h3 k2⟩
/-- a, b = x, y -/
def mPar (i j : Nat) (fA : M (List D)) : M Fl := fun ρ => (fA ρ).then fun ds ρ1 => match ds with
  | [x, y] => .ok .nx ((ρ1.set i (some (.d x))).set j (some (.d y)))
  | _ => .stuck
theorem ds_par {i j : Nat} {tA : TA} (h : DenA c W tA fA) : DenS c W (tPar i j tA) (mPar i j fA) := fun B ts vs ρ σ H D r q => by
  unfold mPar at q
  rw [post_then] at q
  refine h B ts vs ρ σ H _ r (q.imp (fun ds ρ1 q us H1 hl r1 => ?_) fun _ _ h => h.toP)
  match ds, us, hl, q with
  | [x, y], [v, w], _, q =>
    refine ⟨v, w, rfl, q _ _ ?_⟩
    have r2 : Rep c B (some (.d y) :: some (.d x) :: ts) (some w :: some v :: vs) ρ1 σ H1 := r1
    -- x first
    have r3 : Rep c B (some (.d x) :: some (.d y) :: ts) (some v :: some w :: vs) ρ1 σ H1 := by
      obtain ⟨G, o1, o2, k, h1, h2⟩ := r2
      cases h1 with
      | d a h1 =>
        cases h1 with
        | d b h1 => exact ⟨G, o1, o2, k, .d b (.d a h1), h2⟩
    exact r3.set.set
theorem s_par (i j : Nat) {x y : Str} {px py pt : Pos} {kt k2 pt2} (hN : X.N.Nodup) (ha : QA X c W [a, b] tA fA) (hij : i ≠ j := by decide) (hc : X.calm = true := by rfl) (hi : X.N[i]? = some x := by rfl) (hj : X.N[j]? = some y := by rfl)
    (hx : X.env.scope.names.lookup x = some .local := by rfl) (hy : X.env.scope.names.lookup y = some .local := by rfl)
    (hw : swappedStores [.Tuple [.Name x px, .Name y py] kt pt] (.Tuple [a, b] k2 pt2) X.env = pure (some [x, y]) := by rfl)
    (hs : swapsWithSole [.Tuple [.Name x px, .Name y py] kt pt] (.Tuple [a, b] k2 pt2) pos.line X.env = pure false := by rfl) :
    QS X c W (.Assign [.Tuple [.Name x px, .Name y py] kt pt] (.Tuple [a, b] k2 pt2) pos) (tPar i j tA) (mPar i j fA) := by
  obtain ⟨h1, h2⟩ := ha
  exact ⟨ps_par hc hN hi hj hij hx hy h1 hw hs, ds_par h2⟩
/-- x += e, ints -/
def mAug (f : Int → Int → Int) (i : Nat) (fe : M S) : M Fl := fun ρ => match ρ[i]? with
  | some (some (.d (.int a))) => (dv fe ρ).then fun y ρ1 => match y with
    | .int b => .ok .nx (ρ1.set i (some (.d (.int (f a b)))))
    | _ => .stuck
  | _ => .stuck
theorem ds_aug {f : Int → Int → Int} {i : Nat} {te : TE} (h : Den c W te fe) : DenS c W (tAug i te (ipI f)) (mAug f i fe) := fun B ts vs ρ σ H D r q => by
  unfold mAug at q
  split at q
  · rename_i a e
    obtain ⟨v, ev, r1⟩ := r.var e
    obtain ⟨G, O, hv⟩ := r1.one
    cases hv
    rw [post_then] at q
    refine ⟨_, ev, h.dv r (q.imp (fun y ρ1 q w H1 r2 => ?_) fun _ _ h => h.toP)⟩
    cases y <;> first | exact q.elim | skip
    obtain ⟨G, O, hw⟩ := r2.one
    cases hw
    exact ⟨_, _, rfl, rfl, q _ _ (Rep.set (O.val (.int _)))⟩
  · exact q.elim
theorem s_augA (i : Nat) {x : Str} (hN : X.N.Nodup) (h : QE X c W e te fe) (hi : X.N[i]? = some x := by rfl) (hx : Loc X.env.scope x := by first | exact Or.inl rfl | exact Or.inr rfl) (hf : X.fn x = true ∨ X.env.scope.names.lookup x = some .local := by first | exact Or.inl rfl | exact Or.inr rfl) :
    QS X c W (.AugAssign (.Name x p) .Add e pos) (tAug i te (ipI (· + ·))) (mAug (· + ·) i fe) := by
  obtain ⟨h1, h2⟩ := h
  exact ⟨ps_aug hN hi hx h1 ip_add hf, ds_aug h2⟩
theorem s_augS (i : Nat) {x : Str} (hN : X.N.Nodup) (h : QE X c W e te fe) (hi : X.N[i]? = some x := by rfl) (hx : Loc X.env.scope x := by first | exact Or.inl rfl | exact Or.inr rfl) (hf : X.fn x = true ∨ X.env.scope.names.lookup x = some .local := by first | exact Or.inl rfl | exact Or.inr rfl) :
    QS X c W (.AugAssign (.Name x p) .Sub e pos) (tAug i te (ipI (· - ·))) (mAug (· - ·) i fe) := by
  obtain ⟨h1, h2⟩ := h
  exact ⟨ps_aug hN hi hx h1 ip_sub hf, ds_aug h2⟩
theorem s_fld {f x : Str} (n : String) (i j : Nat) (K : FldOk c n f i) (hl : (c.flds n).length ≤ 100) (h : QE X c W e te fe) (hN : X.N[j]? = some x := by rfl) (hv : Vis X.env.scope x := by first | exact Or.inl rfl | exact Or.inr (Or.inl rfl) | exact Or.inr (Or.inr rfl)) (hd : (x == ("__debug__" : Str)) = false := by decide)
    (hcd : (x == ("__classdict__" : Str)) = false := by decide) (hK : X.K = c.K := by rfl)
    (hs : swapsWith e (some (.Attribute (.Name x p) f apos)) pos.line X.env = pure false := by rfl) : QS X c W (.Assign [.Attribute (.Name x p) f apos] e pos) (sFld c.K (tVar j) te f) (mSetF n i j fe) := by
  obtain ⟨h1, h2⟩ := h
  exact ⟨hK ▸ ps_fld (pe_var hN hv hd hcd) h1 hs, ds_setF K hl h2⟩
/-! ### loops -/
theorem s_for (hp : PassesOwn (model X.prog X.w) X.A X.env X.xe) (h : QI X c W tg it wi fI) (k : QG X c W tg tgt g js) (l : QSs X c W ss t F) (hc : X.calm = true := by rfl) (hs : ∀ x, foldedSetIterable it X.env x = pure x := by intro _; rfl) : QS X c W (.For tg it ss [] pos) (tFor wi tgt t) (mFor fI g F) := by
  obtain ⟨h1, h2⟩ := h; obtain ⟨k1, k2⟩ := k; obtain ⟨l1, l2⟩ := l
  exact ⟨ps_for hp hc h1 k1 l1 hs, ds_for h2 k2 l2⟩
theorem s_while (n : Nat) (hp : PassesOwn (model X.prog X.w) X.A X.env X.xe) (h : QT X c W d tt ft) (l : QSs X c W ss t F) : QS X c W (.While d ss [] pos) (tWhile tt t) (mWhile ft F n) := by
  obtain ⟨h1, h2⟩ := h; obtain ⟨l1, l2⟩ := l
  exact ⟨ps_while hp h1 l1, ds_while h2 l2⟩
/-! ### what is walked -/
theorem i_seq (h : QE X c W e te fe) (hK : X.K = c.K := by rfl) : QI X c W tg e (iSeqT c.K te) (iSeq fe) := by
  obtain ⟨h1, h2⟩ := h
  have h3 : PI X tg e (iSeqT X.K te) := PI.or (pi_list h1) (pi_tup h1)
  exact ⟨hK ▸ h3, di_seq h2⟩
theorem i_range1 (hm : X.mg "range" = none) (h : QA X c W [a] tA fA) (hg : Gl X "range" := by rfl) (hs : starEach [a] X.env = [(false, eval a X.env)] := by rfl) : QI X c W tg (.Call (.Name "range" p) [a] [] pos) (iRng1 tA) (iRange1 fA) := by
  obtain ⟨h1, h2⟩ := h
  exact ⟨pi_range1 hg hm h1 hs, di_range1 h2⟩
theorem i_range2 (hm : X.mg "range" = none) (h : QA X c W [a, b] tA fA) (hg : Gl X "range" := by rfl) (hs : starEach [a, b] X.env = [(false, eval a X.env), (false, eval b X.env)] := by rfl) (hs2 : starEach [b] X.env = [(false, eval b X.env)] := by rfl) : QI X c W tg (.Call (.Name "range" p) [a, b] [] pos) (iRng2 tA) (iRange2 fA) := by
  obtain ⟨h1, h2⟩ := h
  exact ⟨pi_range2 hg hm h1 hs hs2, di_range2 h2⟩
end
section
variable {X : Cx} {c : Cfg} {W : WX} {a b : Expr} {fA : M (List D)} {tA : TA} {es : List Expr} {kk : Nat} {tpos pos p : Pos}
theorem i_enum (hm : X.mg "enumerate" = none) (h : QA X c W [a] tA fA) (hg : Gl X "enumerate" := by rfl) (hK : X.K = c.K := by rfl) (hs : starEach [a] X.env = [(false, eval a X.env)] := by rfl) : QI X c W (.Tuple es kk tpos) (.Call (.Name "enumerate" p) [a] [] pos) (iEnumG c.K tA) (iEnu fA) := by
  obtain ⟨h1, h2⟩ := h
  have h3 : PI X (.Tuple es kk tpos) (.Call (.Name "enumerate" p) [a] [] pos) (iEnumG X.K tA) := PI.or (pi_enum hg hm h1 hs) (Rw.pi_enumT hg hm h1 hs)
  exact ⟨hK ▸ h3, di_enu h2⟩
theorem i_zip (hm : X.mg "zip" = none) (h : QA X c W [a, b] tA fA) (hg : Gl X "zip" := by rfl) (hK : X.K = c.K := by rfl) (hs : starEach [a, b] X.env = (false, eval a X.env) :: starEach [b] X.env := by rfl)
    (hpl : ((backTo pos (starEach [b] X.env)).any fun x => x.fst) = false := by rfl) : QI X c W (.Tuple es kk tpos) (.Call (.Name "zip" p) [a, b] [] pos) (RZ.iZipA c.K tA) (iZip' fA) := by
  obtain ⟨h1, h2⟩ := h
  exact ⟨hK ▸ RZ.pi_zipA hg hm h1 hs hpl, di_zip h2⟩
end
/-! ### comprehensions -/
/-- a test of a comprehension, none or one -/
structure QTs (X : Cx) (c : Cfg) (W : WX) (es : List Expr) (t : TT) (f : M Bool) : Prop where
  pe : PTs X es t
  dn : DenT c W t f
/-- the place of a comprehension's own names -/
abbrev Blk (X : Cx) (scope : Scope) (s : Shared) (H : Hp) (C : Addr) (cl : List (Str × Addr)) (fp : List Addr) : Cx := X.blk s H scope (compEnvC scope cl C X.env) fp
section
variable {X : Cx} {c : Cfg} {W : WX} {tg it elt tg1 it1 : Expr} {ifs ifs1 : List Expr} {fI fI1 : M (List D)} {g g1 : D → M Unit} {js js1 : List Nat} {ft ft1 : M Bool} {fe : M S} {scope : Scope} {own : List (Str × Nat)} {vs1 : List Nat} {pos spos py : Pos} {wi wi1 : TI} {tgt tgt1 : TG} {tt tt1 : TT} {te : TE}
theorem ts_nil : QTs X c W [] tYes mYes := ⟨pts_nil, dt_yes⟩
theorem ts_one {e : Expr} (h : QT X c W e tt ft) : QTs X c W [e] tt ft := by
  obtain ⟨h1, h2⟩ := h
  exact ⟨pts_one h1, h2⟩
theorem anyPlace (c : Cfg) (P : Shared → Hp → Addr → List (Str × Addr) → List Addr → Prop) (h : ∀ s H C cl fp, P s H C cl fp) : ∃ s H C cl fp, P s H C cl fp := ⟨({} : Shared), fun _ => none, 0, [], [], h _ _ _ _ _⟩
theorem q_lc (hN : X.N.Nodup) (hI : QI X c W tg it wi fI) (hB : BlkOk X.N X.env.scope scope own) (hG : ∀ s H C cl fp, QG (Blk X scope s H C cl fp) c W0 tg tgt g js) (hT : ∀ s H C cl fp, QTs (Blk X scope s H C cl fp) c W0 ifs tt ft)
    (hE : ∀ s H C cl fp, QE (Blk X scope s H C cl fp) c W0 elt te fe) (hj : ∀ j ∈ js, j ∈ own.map (·.2) := by decide) (hc : X.calm = true := by rfl) (hs : ∀ x, foldedSetIterable it X.env x = pure x := by intro _; rfl) :
    QE X c W (.ListComp elt [{ target := tg, iter := it, ifs := ifs, is_async := 0 }] scope pos) (tLc wi tgt tt te (own.map (·.2))) (mLc fI g ft fe (own.map (·.2))) := by
  obtain ⟨h1, h2⟩ := hI
  obtain ⟨s, H, C, cl, fp, g2, t2, e2⟩ := anyPlace c _ fun s H C cl fp => And.intro (hG s H C cl fp).dn (And.intro (hT s H C cl fp).dn (hE s H C cl fp).dn)
  exact ⟨pe_lc hc hN h1 hB (fun s H C cl fp => (hG s H C cl fp).pe) (fun s H C cl fp => (hT s H C cl fp).pe) (fun s H C cl fp => (hE s H C cl fp).pe) hs, den_lc h2 g2 t2 e2 hj⟩
theorem s_setLc (i : Nat) {y : Str} (hN : X.N.Nodup) (hI : QI X c W tg it wi fI) (hB : BlkOk X.N X.env.scope scope own) (hG : ∀ s H C cl fp, QG (Blk X scope s H C cl fp) c W0 tg tgt g js) (hT : ∀ s H C cl fp, QTs (Blk X scope s H C cl fp) c W0 ifs tt ft)
    (hE : ∀ s H C cl fp, QE (Blk X scope s H C cl fp) c W0 elt te fe) (hj : ∀ j ∈ js, j ∈ own.map (·.2) := by decide) (hc : X.calm = true := by rfl) (hi : X.N[i]? = some y := by rfl) (hy : X.env.scope.names.lookup y = some .local := by rfl)
    (hw : swapsWith (.ListComp elt [{ target := tg, iter := it, ifs := ifs, is_async := 0 }] scope pos) (some (.Name y py)) spos.line X.env = pure true := by rfl) (hs : ∀ x, foldedSetIterable it X.env x = pure x := by intro _; rfl) :
    QS X c W (.Assign [.Name y py] (.ListComp elt [{ target := tg, iter := it, ifs := ifs, is_async := 0 }] scope pos) spos) (tAsg (tLc wi tgt tt te (own.map (·.2))) (gName i)) (mAsg (mLc fI g ft fe (own.map (·.2))) (gmName i)) := by
  obtain ⟨h1, h2⟩ := hI
  obtain ⟨s, H, C, cl, fp, g2, t2, e2⟩ := anyPlace c _ fun s H C cl fp => And.intro (hG s H C cl fp).dn (And.intro (hT s H C cl fp).dn (hE s H C cl fp).dn)
  exact ⟨ps_setLc hc hN hi hy hw h1 hB (fun s H C cl fp => (hG s H C cl fp).pe) (fun s H C cl fp => (hT s H C cl fp).pe) (fun s H C cl fp => (hE s H C cl fp).pe) hs, ds_asg (den_lc h2 g2 t2 e2 hj) dg_name⟩
theorem s_setLcO (i : Nat) {y : Str} (hN : X.N.Nodup) (hI : QI X c W tg it wi fI) (hB : BlkOk X.N X.env.scope scope own) (hG : ∀ s H C cl fp, QG (Blk X scope s H C cl fp) c W0 tg tgt g js) (hT : ∀ s H C cl fp, QTs (Blk X scope s H C cl fp) c W0 ifs tt ft)
    (hE : ∀ s H C cl fp, QE (Blk X scope s H C cl fp) c W0 elt te fe) (hj : ∀ j ∈ js, j ∈ own.map (·.2) := by decide) (hc : X.calm = true := by rfl) (hi : X.N[i]? = some y := by rfl) (hy : X.env.scope.names.lookup y = some .local := by rfl)
    (hw : swapsWith (.ListComp elt [{ target := tg, iter := it, ifs := ifs, is_async := 0 }] scope pos) (some (.Name y py)) spos.line X.env = pure true := by rfl) (hs : ∀ x, foldedSetIterable it X.env x = pure x := by intro _; rfl) :
    QS X c W (.Assign [.Name y py] (.ListComp elt [{ target := tg, iter := it, ifs := ifs, is_async := 0 }] scope pos) spos) (tAsg (tLc wi tgt tt te (own.map (·.2))) (gName i)) (mAsgO i (mLc fI g ft fe (own.map (·.2)))) := by
  obtain ⟨h1, h2⟩ := hI
  obtain ⟨s, H, C, cl, fp, g2, t2, e2⟩ := anyPlace c _ fun s H C cl fp => And.intro (hG s H C cl fp).dn (And.intro (hT s H C cl fp).dn (hE s H C cl fp).dn)
  exact ⟨ps_setLc hc hN hi hy hw h1 hB (fun s H C cl fp => (hG s H C cl fp).pe) (fun s H C cl fp => (hT s H C cl fp).pe) (fun s H C cl fp => (hE s H C cl fp).pe) hs, ds_asgO (den_lc h2 g2 t2 e2 hj)⟩
theorem q_lc2 (hN : X.N.Nodup) (hI : QI X c W tg it wi fI) (hB : BlkOk X.N X.env.scope scope own) (hG : ∀ s H C cl fp, QG (Blk X scope s H C cl fp) c W0 tg tgt g js) (hT : ∀ s H C cl fp, QTs (Blk X scope s H C cl fp) c W0 ifs tt ft)
    (hI1 : ∀ s H C cl fp, QI (Blk X scope s H C cl fp) c W0 tg1 it1 wi1 fI1) (hG1 : ∀ s H C cl fp, QG (Blk X scope s H C cl fp) c W0 tg1 tgt1 g1 js1) (hT1 : ∀ s H C cl fp, QTs (Blk X scope s H C cl fp) c W0 ifs1 tt1 ft1)
    (hE : ∀ s H C cl fp, QE (Blk X scope s H C cl fp) c W0 elt te fe) (hj : ∀ j ∈ js, j ∈ own.map (·.2) := by decide) (hj1 : ∀ j ∈ js1, j ∈ vs1 := by decide) (hv : ∀ i, i ∈ vs1 → i ∈ own.map (·.2) := by decide) (hc : X.calm = true := by rfl) (hs : ∀ x, foldedSetIterable it X.env x = pure x := by intro _; rfl) (hs1 : ∀ env x, foldedSetIterable it1 env x = pure x := by intro _ _; rfl) :
    QE X c W (.ListComp elt [{ target := tg, iter := it, ifs := ifs, is_async := 0 }, { target := tg1, iter := it1, ifs := ifs1, is_async := 0 }] scope pos) (tLc2 wi tgt tt wi1 tgt1 tt1 te (own.map (·.2)) vs1) (mLc2 fI g ft fI1 g1 ft1 fe (own.map (·.2)) vs1) := by
  obtain ⟨h1, h2⟩ := hI
  obtain ⟨s, H, C, cl, fp, g2, t2, e2, i2, g3, t3⟩ := anyPlace c _ fun s H C cl fp => And.intro (hG s H C cl fp).dn (And.intro (hT s H C cl fp).dn (And.intro (hE s H C cl fp).dn (And.intro (hI1 s H C cl fp).dn (And.intro (hG1 s H C cl fp).dn (hT1 s H C cl fp).dn))))
  exact ⟨pe_lc2 hc hN h1 hB hv (fun s H C cl fp => (hG s H C cl fp).pe) (fun s H C cl fp => (hT s H C cl fp).pe) (fun s H C cl fp => (hI1 s H C cl fp).pe) (fun s H C cl fp => (hG1 s H C cl fp).pe) (fun s H C cl fp => (hT1 s H C cl fp).pe) (fun s H C cl fp => (hE s H C cl fp).pe) hs hs1, den_lc2 h2 g2 t2 i2 g3 t3 e2 hj hj1 hv⟩
theorem s_setLc2 (i : Nat) {y : Str} (hN : X.N.Nodup) (hI : QI X c W tg it wi fI) (hB : BlkOk X.N X.env.scope scope own) (hG : ∀ s H C cl fp, QG (Blk X scope s H C cl fp) c W0 tg tgt g js) (hT : ∀ s H C cl fp, QTs (Blk X scope s H C cl fp) c W0 ifs tt ft)
    (hI1 : ∀ s H C cl fp, QI (Blk X scope s H C cl fp) c W0 tg1 it1 wi1 fI1) (hG1 : ∀ s H C cl fp, QG (Blk X scope s H C cl fp) c W0 tg1 tgt1 g1 js1) (hT1 : ∀ s H C cl fp, QTs (Blk X scope s H C cl fp) c W0 ifs1 tt1 ft1)
    (hE : ∀ s H C cl fp, QE (Blk X scope s H C cl fp) c W0 elt te fe) (hj : ∀ j ∈ js, j ∈ own.map (·.2) := by decide) (hj1 : ∀ j ∈ js1, j ∈ vs1 := by decide) (hv : ∀ i, i ∈ vs1 → i ∈ own.map (·.2) := by decide) (hc : X.calm = true := by rfl) (hi : X.N[i]? = some y := by rfl) (hy : X.env.scope.names.lookup y = some .local := by rfl)
    (hw : swapsWith (.ListComp elt [{ target := tg, iter := it, ifs := ifs, is_async := 0 }, { target := tg1, iter := it1, ifs := ifs1, is_async := 0 }] scope pos) (some (.Name y py)) spos.line X.env = pure true := by rfl) (hs : ∀ x, foldedSetIterable it X.env x = pure x := by intro _; rfl) (hs1 : ∀ env x, foldedSetIterable it1 env x = pure x := by intro _ _; rfl) :
    QS X c W (.Assign [.Name y py] (.ListComp elt [{ target := tg, iter := it, ifs := ifs, is_async := 0 }, { target := tg1, iter := it1, ifs := ifs1, is_async := 0 }] scope pos) spos) (tAsg (tLc2 wi tgt tt wi1 tgt1 tt1 te (own.map (·.2)) vs1) (gName i)) (mAsg (mLc2 fI g ft fI1 g1 ft1 fe (own.map (·.2)) vs1) (gmName i)) := by
  obtain ⟨h1, h2⟩ := hI
  obtain ⟨s, H, C, cl, fp, g2, t2, e2, i2, g3, t3⟩ := anyPlace c _ fun s H C cl fp => And.intro (hG s H C cl fp).dn (And.intro (hT s H C cl fp).dn (And.intro (hE s H C cl fp).dn (And.intro (hI1 s H C cl fp).dn (And.intro (hG1 s H C cl fp).dn (hT1 s H C cl fp).dn))))
  exact ⟨ps_setLc2 hc hN hi hy hw h1 hB hv (fun s H C cl fp => (hG s H C cl fp).pe) (fun s H C cl fp => (hT s H C cl fp).pe) (fun s H C cl fp => (hI1 s H C cl fp).pe) (fun s H C cl fp => (hG1 s H C cl fp).pe) (fun s H C cl fp => (hT1 s H C cl fp).pe) (fun s H C cl fp => (hE s H C cl fp).pe) hs hs1, ds_asg (den_lc2 h2 g2 t2 i2 g3 t3 e2 hj hj1 hv) dg_name⟩
end
end Fx

/-! lambdas: made, handed on, called -/
namespace Fx
open PySem PySem.Spec PyProof.Rows L2
open C8 (Cal Mak pe_c pe_mk)
open LamX (Tabs TabS TabB ExtN CodeO codeO_ne)
def runL (np nN : Nat) (fe : M S) : Fn := fun args => if args.length = np then fe (args.map some ++ List.replicate (nN - np) none) else .stuck
theorem runL_len {np nN : Nat} {fe : M S} (args : List S) (h : args.length ≠ np) : runL np nN fe args = .stuck := if_neg h
theorem spF_len {c : Cfg} {F : Fn} {n : Nat} (hF : ∀ args, args.length ≠ n → F args = .stuck) {vs : List V} {H : Hp} {Q : VK} {E : XK} (h : spF c F vs H Q E) : vs.length = n := by
  obtain ⟨B, ts, ws, args, r, p⟩ := h
  obtain ⟨G, o1, o2, k, h1, h2⟩ := r
  have e := h2.length
  rw [List.length_map, List.length_map] at e
  by_cases ha : args.length = n
  · omega
  · rw [hF _ ha] at p
    exact p.elim
section
variable {P : Program} {w : World} {mg : Str → Option Value} {base : Heap}
/-- the promise of the lambda at site k -/
def LamP (P : Program) (w : World) (c : Cfg) (mg : Str → Option Value) (base : Heap) (lv : Nat) (Fs : Nat → Fn) : Prop := ∀ k, (∃ ps : List Str, Rw.LamOk P w c.K mg base lv (c.fns k).q (c.fns k).params (c.fns k).body (c.fns k).scope ps (spF c (Fs k)) ∧ ∀ args, args.length ≠ ps.length → Fs k args = .stuck) ∨ ∀ args, Fs k args = .stuck
theorem lam_den {c : Cfg} {k : Nat} {q : Str} {params : Arguments} {body : Expr} {scope : Scope} {N ps : List Str} {fe : M S} (Sc : FnScope N ps scope)
    (hbind : ∀ (pm cv ctv : Value) (us : List Value), us.length = ps.length → bindArgs (PySem.W.kla_fn "<lambda>" q params body scope [] pm cv ctv) ⟨us, []⟩ = pure (ps.zip us))
    (hbody : ∀ (A : Around) (outer : List Env) (s : Shared) (H : Hp) (f c' : Addr), Room k (A.deeper (envOfC q scope s.heap.objs.size f (.ref c'))) → ∃ t, PE (cxOf L2.CX0 P w c.K mg base N q scope f (.ref c') A outer s H L2.E0) body t ∧ Den c W0 t fe) :
    Rw.LamOk P w c.K mg base (k + 1) q params body scope ps (spF c (runL ps.length N.length fe)) := by
  refine Rw.lam_ok Sc hbind fun A outer s H f c' vs Q hr h => ?_
  obtain ⟨t, h1, h2⟩ := hbody A outer s H f c' hr
  refine ⟨t, h1, ?_⟩
  have hl := spF_len (fun args => runL_len args) h
  obtain ⟨B, ts, ws, args, r, p⟩ := h
  unfold runL at p
  split at p
  · rename_i ha
    have r2 := r.slots (N.length - ps.length)
    have e1 : vs.map some ++ List.replicate (N.length - ps.length) none = L2.start N vs := by
      unfold L2.start
      rw [hl]
    rw [e1] at r2
    refine h2 B ts ws _ _ H _ r2 ?_
    cases hb : fe (args.map some ++ List.replicate (N.length - ps.length) none) with
    | stuck => rw [hb] at p; exact p.elim
    | err e ρ => rw [hb] at p; exact p.elim
    | ok s ρ =>
      rw [hb] at p
      exact fun v H' r' => p v _ H' r'
  · exact p.elim
/-- a def that makes a lambda -/
structure FunC (K : PySem.W.Frag) (x qual : Str) (st : Stmt) (f : Addr) (fd : FuncData) (c : Addr) : Prop where
  ex : ∃ (oc : Value) (od : Option Addr) (kV doc pm : Value) (an : Option Addr) (ct : Value) (osl : Array (Option Value)),
    fd = PySem.W.fnOf x qual (defArgs st) (defBody st) (defScope st) .none kV doc pm an (.ref c) ct ∧ K.lookup f = some ⟨oc, od, .func fd, osl⟩ ∧ PySem.W.codeIn K (.ref c) qual = true
  kp : PySem.W.keepIn K (.ref f) = true
theorem fnC_den {c : Cfg} {cc : Addr} {x qual : Str} {st : Stmt} {f : Addr} {fd : FuncData} {N ps : List Str} {k : Nat} {body : M Fl} (F : FunC c.K x qual st f fd cc) (Sc : FnScope N ps (defScope st))
    (hbody : ∀ (A : Around) (outer : List Env) (s : Shared) (H : Hp) (E : XK), Room k (A.deeper (envOfC qual (defScope st) s.heap.objs.size f (.ref cc))) →
      ∃ t, PSs (cxOf L2.CX0 P w c.K mg base N qual (defScope st) f (.ref cc) A outer s H E).nox (defBody st) t ∧ DenS c W0 t body) : FnOk P w c.K mg base L2.CX0 (k + 1) f fd ps (spF c (runF ps.length N.length body)) := by
  have len : ∀ vs H Q E, spF c (runF ps.length N.length body) vs H Q E → vs.length = ps.length := fun vs H Q E h => spF_len (fun args ha => if_neg ha) h
  obtain ⟨oc, od, kV, doc, pm, an, ct, osl, rfl, lk, hcd⟩ := F.ex
  refine fn_of lk hcd Sc len fun A outer s H vs Q E hr h => ?_
  have hl := len vs H Q E h
  obtain ⟨B, ts, ws, args, r, p⟩ := h
  obtain ⟨t, h1, h2⟩ := hbody A outer s H E hr
  refine ⟨t, h1.nox, ?_⟩
  unfold runF at p
  split at p
  · rename_i ha
    have r2 := r.slots (N.length - ps.length)
    have e1 : vs.map some ++ List.replicate (N.length - ps.length) none = L2.start N vs := by
      unfold L2.start
      rw [hl]
    rw [e1] at r2
    refine h2 B ts ws _ _ H _ r2 ?_
    cases hb : body (args.map some ++ List.replicate (N.length - ps.length) none) with
    | stuck => rw [hb] at p; exact p.elim
    | err e ρ => rw [hb] at p; exact p.elim
    | ok f ρ =>
      rw [hb] at p
      cases f with
      | rt s => exact fun v σ' H' r' => p v σ' H' r'
      | nx => exact fun σ' H' r' => p .non σ' H' (Rep.repl (ds := []) (us := []) r' rfl fun G _ => .non)
      | bk => exact p.elim
      | ct => exact p.elim
  · exact p.elim
end
section
variable {c : Cfg} {W : WX} {B : Base} {G H : Hp} {ts : En} {vs : List (Option V)} {ρ : En} {σ : L2.St}
theorem Cell.at_ {a : Addr} : ∀ {x : D}, Cell c G H a x → ∃ u, H a = some u ∧ isCell u = true
  | .lst ds, ⟨vs, h, k⟩ => ⟨_, h, rfl⟩
  | .ins n ds, ⟨dx, fs, h, hn, k⟩ => ⟨_, h, rfl⟩
  | .dct ks ds, ⟨kvs, h, hk, k⟩ => ⟨_, h, rfl⟩
theorem LsAll.at_ : ∀ {bs : List Addr} {dss : List (List D)}, LsAll c G H bs dss → ∀ p ∈ bs, ∃ u, H p = some u ∧ isCell u = true
  | _, _, .nil, p, hp => by simp at hp
  | _, _, .cons h _ l, p, hp => by
    rcases List.mem_cons.mp hp with rfl | hp
    · exact ⟨_, h, rfl⟩
    · exact LsAll.at_ l p hp
theorem QCell.at_ {a : Addr} {ks : List D} {dss : List (List D)} {os : Owns} (h : QCell c G H a ks dss os) : ∀ p ∈ os, ∃ u, H p = some u ∧ isCell u = true := fun p hp => by
  obtain ⟨kvs, bs, rfl, h1, _, _, h4⟩ := h
  rcases List.mem_cons.mp hp with rfl | hp
  · exact ⟨_, h1, rfl⟩
  · exact h4.at_ p hp
theorem Sl.cellAt : ∀ {es : En} {vs : List (Option V)} {own : Owns}, Sl c B G H es vs own → ∀ p ∈ own, ∃ u, H p = some u ∧ isCell u = true
  | _, _, _, .nil, p, hp => by simp at hp
  | _, _, _, .skip k, p, hp => k.cellAt p hp
  | _, _, _, .d _ k, p, hp => k.cellAt p hp
  | _, _, _, .o h _ k, p, hp => by
    rcases List.mem_cons.mp hp with rfl | hp
    · exact h.at_
    · exact k.cellAt p hp
  | _, _, _, .q h k, p, hp => by
    rcases List.mem_append.mp hp with hp | hp
    · exact h.at_ p hp
    · exact k.cellAt p hp
theorem isCell_tbl {u : HO} (h : isCell u = true) (ps : Array Value) : u ≠ .tbl ps := fun z => by
  rw [z] at h
  cases h
theorem isCell_code {u : HO} {a : Addr} {q : Str} (h : isCell u = true) : u ≠ CodeO a q := fun z => by
  rw [z] at h
  unfold CodeO at h
  cases h
theorem den_lam {k : Nat} : Den c W (Rw.tLamV c.T (c.fns k).q (c.fns k).params (c.fns k).body (c.fns k).scope) (mC (.fn k)) := fun B ts vs ρ σ H Q r q => by
  obtain ⟨G, o1, o2, kk, h1, h2⟩ := r
  refine ⟨kk.tabs, fun f c' pm ctv H1 x t1 nf hc => q _ _ ?_⟩
  have hcell : ∀ p ∈ o1 ++ o2, ∃ u, H p = some u ∧ isCell u = true := fun p hp => (List.mem_append.mp hp).elim (h1.cellAt p) (h2.cellAt p)
  have hH1 : ∀ p ∈ o1 ++ o2, H1 p = H p ∧ p ≠ f ∧ p ≠ c' := fun p hp => by
    obtain ⟨u, e1, e2⟩ := hcell p hp
    have e3 := x _ _ e1 (isCell_tbl e2)
    refine ⟨e3.trans e1.symm, fun z => ?_, fun z => ?_⟩
    · rw [z, nf] at e3; cases e3
    · rw [z, hc] at e3
      exact isCell_code e2 (Option.some.inj e3).symm
  have cf : c' ≠ f := fun z => by rw [z, nf] at hc; cases hc
  have gs : ∀ a o, G a = some o → H1 a = some o := fun a o e => x _ _ (kk.sub a o e) (isTbl_false (kk.notbl a o e))
  have sG : ∀ a o, G a = some o → upd (upd G c' (CodeO c' (c.fns k).q)) f (Rw.LamO f (PySem.W.kla_obj "<lambda>" (c.fns k).q (c.fns k).params (c.fns k).body (c.fns k).scope [] pm c' ctv)) a = some o := fun a o e => by
    have e1 := gs a o e
    have af : a ≠ f := fun z => by rw [z, nf] at e1; cases e1
    rw [upd_ne af]
    by_cases ac : a = c'
    · rw [ac, upd_same]
      rw [ac, hc] at e1
      exact e1
    · rw [upd_ne ac]
      exact e
  have hH2 : ∀ p ∈ o1 ++ o2, upd H1 f (Rw.LamO f (PySem.W.kla_obj "<lambda>" (c.fns k).q (c.fns k).params (c.fns k).body (c.fns k).scope [] pm c' ctv)) p = H p := fun p hp => by
    rw [upd_ne (hH1 p hp).2.1]
    exact (hH1 p hp).1
  refine ⟨_, o1, o2, ⟨fun a o e => ?_, fun a o e => ?_, kk.nd, fun p hp => ⟨?_, ?_⟩, tabs_new t1 nf⟩, .d (.fn (upd_same) ((upd_ne cf).trans upd_same)) (h1.mono sG fun p hp => hH2 p (List.mem_append_left _ hp)), h2.mono sG fun p hp => hH2 p (List.mem_append_right _ hp)⟩
  · by_cases af : a = f
    · rw [af, upd_same] at e ⊢
      exact e
    · rw [upd_ne af] at e ⊢
      by_cases ac : a = c'
      · rw [ac, upd_same] at e
        rw [ac, hc]
        exact e
      · rw [upd_ne ac] at e
        exact gs a o e
  · by_cases af : a = f
    · rw [af, upd_same] at e
      rw [← Option.some.inj e]
      rfl
    · rw [upd_ne af] at e
      by_cases ac : a = c'
      · rw [ac, upd_same] at e
        rw [← Option.some.inj e]
        rfl
      · rw [upd_ne ac] at e
        exact kk.notbl a o e
  · rw [upd_ne (hH1 p hp).2.1, upd_ne (hH1 p hp).2.2]
    exact (kk.out p hp).1
  · rw [hH2 p hp]
    exact (kk.out p hp).2
def mLCall (i : Nat) (Fs : Nat → Fn) (fA : M (List D)) : M S := fun ρ => match ρ[i]? with
  | some (some (.d (.fn k))) => mCall (Fs k) fA ρ
  | _ => .stuck
theorem den_lcall {P : Program} {w : World} {mg : Str → Option Value} {base : Heap} {lv i : Nat} {tA : TA} {fA : M (List D)} {Fs : Nat → Fn} (L : LamP P w c mg base lv Fs) (h : DenA c W tA fA) : Den c W (Rw.tLCall P w c.K mg base lv i tA) (mLCall i Fs fA) := fun B ts vs ρ σ H Q r q => by
  unfold mLCall at q
  split at q
  · rename_i k e
    obtain ⟨v, ev, r1⟩ := r.var e
    obtain ⟨G, O, hv⟩ := r1.one
    cases hv with
    | @fn f c' _ pm ctv hf hc =>
      have hs := O.sub _ _ hf
      refine ⟨f, _, ev, ⟨_, rfl⟩, hs, ?_⟩
      unfold mCall at q
      rw [post_then] at q
      refine h B _ _ ρ σ H _ r1 (q.imp (fun ds ρ1 q us H1 hl r2 => ?_) fun _ _ h => h.drop)
      have r3 := r2.dropN hl
      obtain ⟨G2, O2, hv2⟩ := r3.one
      cases hv2 with
      | @fn _ c2 _ pm2 ctv2 hf2 hc2 =>
        have r4 : Rep c B ts vs ρ1 σ H1 := r3.drop
        have key : spF c (Fs k) us H1 Q L2.E0 := by
          refine ⟨⟨fun _ => none⟩, erE (some (.d (.fn k)) :: ts) ++ erE ρ1, (some (V.ref f) :: vs) ++ σ, ds.map .d, by rw [List.map_map]; exact r2.enter hl, ?_⟩
          cases hff : Fs k (ds.map .d) with
          | stuck => rw [hff] at q; exact q.elim
          | err e ρ' => rw [hff] at q; exact q.elim
          | ok s ρ' =>
            rw [hff] at q
            have q : Post (OkP c B ts vs σ Q) (ErrP c W B ts vs σ) (if bare s then .ok s ρ1 else .stuck) := q
            split at q
            · rename_i hs
              refine fun v σ' H' r' => q v H' ?_
              have r5 := Rep.leave hs r3 r'
              obtain ⟨G, o1, o2, kk, g1, g2⟩ := r5
              cases g1.unone with
              | intro w1 hw =>
                obtain ⟨os, own', ew, e1, rfl, g3⟩ := hw
                have e2 : v = w1 := by injection ew
                subst e2
                cases g3 with
                | d a g4 => exact ⟨G, _, o2, kk, Sl.one e1 g4, g2⟩
            · exact q.elim
        rcases L k with ⟨ps, LO, hlen⟩ | hst
        · exact ⟨_, _, _, _, pm2, c2, ctv2, ps, _, O2.sub _ _ hf2, O2.sub _ _ hc2, LO, spF_len hlen key, key⟩
        · rw [hst] at q
          exact q.elim
  · exact q.elim
end
section
variable {X : Cx} {c : Cfg} {W : WX} {e : Expr} {es : List Expr} {tA : TA} {fA : M (List D)} {p pos : Pos}
theorem q_lam {cc P : Addr} {params : Arguments} {body : Expr} {scope : Scope} (k : Nat) (TB : TabB X.base X.mg cc P) (hm : (P, X.env.qual ++ "<lambda>") ∈ c.T) (hu : ∀ p ∈ c.T, p.1 = P → p.2 = X.env.qual ++ "<lambda>") (hs : c.fns k = ⟨X.env.qual ++ "<lambda>", params, body, scope⟩)
    (hcode : X.env.code = .ref cc := by rfl) (hdef : defaultsOf params X.env = ([], []) := by rfl) (hnf : ∀ y ∈ scope.names, y.2 ≠ .free := by decide +kernel) : QE X c W (.Lambda params body scope pos) (Rw.tLamV c.T (c.fns k).q (c.fns k).params (c.fns k).body (c.fns k).scope) (mC (.fn k)) := by
  refine ⟨?_, den_lam⟩
  rw [hs]
  exact Rw.pe_lamV TB hcode hm hu hdef hnf
theorem q_lcall {a : Str} {k j i : Nat} {Fs : Nat → Fn} (L : LamP X.prog X.w c X.mg X.base k Fs) (hr : Room j X.A) (hk : k ≤ j) (ha : QA X c W (e :: es) tA fA) (hN : X.N[i]? = some a := by rfl) (hv : Vis X.env.scope a := by first | exact Or.inl rfl | exact Or.inr (Or.inl rfl) | exact Or.inr (Or.inr rfl)) (hK : X.K = c.K := by rfl)
    (hd : (a == ("__debug__" : Str)) = false := by decide) (hcd : (a == ("__classdict__" : Str)) = false := by decide)
    (he : starEach (e :: es) X.env = (false, eval e X.env) :: starEach es X.env := by rfl) (hpl : (backTo pos (starEach es X.env)).any (·.1) = false := by rfl) : QE X c W (.Call (.Name a p) (e :: es) [] pos) (Rw.tLCall X.prog X.w c.K X.mg X.base k i tA) (mLCall i Fs fA) := by
  obtain ⟨h1, h2⟩ := ha
  exact ⟨hK ▸ Rw.pe_lcall hr hk hN hv h1 hd hcd he hpl, den_lcall L h2⟩
end
end Fx

/-! more words: int, sorted, sums, borrowed operands, methods, several names at once -/
namespace Fx
open PySem PySem.Spec PyProof.Rows L2
open C8 (Cal Mak pe_c pe_mk)
/-! ### ints of a list -/
def intsD : List D → Option (List Int)
  | [] => some []
  | .int i :: ds => (intsD ds).map (i :: ·)
  | _ => none
theorem RpAll.ints {c : Cfg} {G : Hp} : ∀ {us : List V} {ds : List D} {ns : List Int}, intsD ds = some ns → RpAll c G us ds → us = ns.map V.int
  | _, [], _, e, h => by cases e; cases h; rfl
  | _, d :: ds, ns, e, h => by
    cases d <;> first | cases e | skip
    rename_i i
    cases h with
    | cons h1 h2 =>
      cases h1
      have e : (intsD ds).map (i :: ·) = some ns := e
      cases e2 : intsD ds with
      | none => rw [e2] at e; cases e
      | some ms =>
        rw [e2] at e
        cases e
        rw [RpAll.ints e2 h2]
        rfl
theorem RpAll.ofInts {c : Cfg} {G : Hp} : ∀ ns : List Int, RpAll c G (ns.map V.int) (ns.map D.int)
  | [] => .nil
  | i :: ns => .cons (.int i) (RpAll.ofInts ns)
theorem intsD_map : ∀ ns : List Int, intsD (ns.map D.int) = some ns
  | [] => rfl
  | i :: ns => by
    show (intsD (ns.map D.int)).map (i :: ·) = _
    rw [intsD_map ns]
    rfl
def ins (i : Int) : List Int → List Int
  | [] => [i]
  | j :: js => if i ≤ j then i :: j :: js else j :: ins i js
def isort : List Int → List Int
  | [] => []
  | i :: is => ins i (isort is)
theorem ins_perm (i : Int) : ∀ js : List Int, (ins i js).Perm (i :: js)
  | [] => .refl _
  | j :: js => by
    unfold ins
    split
    · exact .refl _
    · exact ((ins_perm i js).cons j).trans (.swap i j js)
theorem isort_perm : ∀ is : List Int, (isort is).Perm is
  | [] => .refl _
  | i :: is => (ins_perm i _).trans ((isort_perm is).cons i)
theorem ins_pw (i : Int) : ∀ {js : List Int}, js.Pairwise (· ≤ ·) → (ins i js).Pairwise (· ≤ ·)
  | [], _ => by simp [ins]
  | j :: js, h => by
    unfold ins
    split
    · rename_i hij
      refine List.pairwise_cons.mpr ⟨fun k hk => ?_, h⟩
      rcases List.mem_cons.mp hk with rfl | hk
      · exact hij
      · exact Int.le_trans hij ((List.pairwise_cons.mp h).1 k hk)
    · rename_i hij
      refine List.pairwise_cons.mpr ⟨fun k hk => ?_, ins_pw i (List.pairwise_cons.mp h).2⟩
      have := (ins_perm i js).mem_iff.mp hk
      rcases List.mem_cons.mp this with rfl | hk
      · omega
      · exact (List.pairwise_cons.mp h).1 k hk
theorem isort_pw : ∀ is : List Int, (isort is).Pairwise (· ≤ ·)
  | [] => .nil
  | i :: is => ins_pw i (isort_pw is)
theorem isort_eq {ns ms : List Int} (p : ms.Perm ns) (h : ms.Pairwise (· ≤ ·)) : ms = isort ns :=
  List.Perm.eq_of_pairwise (fun a b _ _ h1 h2 => Int.le_antisymm h1 h2) h (isort_pw ns) (p.trans (isort_perm ns).symm)
def gSorted : List D → Option S
  | [.lst ds] => (intsD ds).map fun ns => .o none (.lst ((isort ns).map D.int))
  | _ => none
theorem cd_sorted {c : Cfg} : CbDen c (rSortedI c.K) gSorted := by
  intro B ts vs ρ σ H Q ds us s hl r e q
  match ds, hl, r, e with
  | [.lst ds], hl, r, e =>
    obtain ⟨v, rfl, G, O, h⟩ := r.one' hl
    obtain ⟨a, xs, rfl, ha, ka⟩ := h.lstE
    have e : (intsD ds).map (fun ns => S.o none (.lst ((isort ns).map D.int))) = some s := e
    cases e2 : intsD ds with
    | none => rw [e2] at e; cases e
    | some ns =>
      rw [e2] at e
      cases e
      rw [RpAll.ints e2 ka] at ha
      refine ⟨a, ns, rfl, SqL.of (O.sub _ _ ha), fun ns' p pm pw hp => ?_⟩
      rw [isort_eq pm pw]
      exact q _ _ (O.newO hp fun H' e => ⟨_, e, RpAll.ofInts _⟩)
/-! ### int, min, max, sum -/
def gInt1 : List D → Option S
  | [.int i] => ok1 (.int i)
  | [.bl b] => ok1 (.int (if b = true then 1 else 0))
  | _ => none
theorem cd_int {c : Cfg} : CbDen c (fun xs H Q => (∃ i, xs = [V.int i] ∧ Q (V.int i) H) ∨ ∃ k, xs = [V.bl k] ∧ Q (V.int (if k = true then 1 else 0)) H) gInt1 := by
  intro B ts vs ρ σ H Q ds us s hl r e q
  match ds, hl, r, e with
  | [.int i], hl, r, e =>
    cases e
    obtain ⟨v, rfl, G, O, h⟩ := r.one' hl
    cases h
    exact .inl ⟨i, rfl, q _ _ (O.val (.int _))⟩
  | [.bl b], hl, r, e =>
    cases e
    obtain ⟨v, rfl, G, O, h⟩ := r.one' hl
    cases h
    exact .inr ⟨b, rfl, q _ _ (O.val (.int _))⟩
def gMin2 : List D → Option S
  | [.int i, .int j] => ok1 (.int (if j < i then j else i))
  | _ => none
def gMax2 : List D → Option S
  | [.int i, .int j] => ok1 (.int (if j > i then j else i))
  | _ => none
theorem cd_min2 {c : Cfg} : CbDen c (fun xs H Q => ∃ i j, xs = [V.int i, V.int j] ∧ Q (V.int (if j < i then j else i)) H) gMin2 := by
  intro B ts vs ρ σ H Q ds us s hl r e q
  match ds, hl, r, e with
  | [.int i, .int j], hl, r, e =>
    cases e
    obtain ⟨v, u, rfl, G, O, h1, h2⟩ := r.two' hl
    cases h1
    cases h2
    exact ⟨i, j, rfl, q _ _ (O.val (.int _))⟩
theorem cd_max2 {c : Cfg} : CbDen c (fun xs H Q => ∃ i j, xs = [V.int i, V.int j] ∧ Q (V.int (if j > i then j else i)) H) gMax2 := by
  intro B ts vs ρ σ H Q ds us s hl r e q
  match ds, hl, r, e with
  | [.int i, .int j], hl, r, e =>
    cases e
    obtain ⟨v, u, rfl, G, O, h1, h2⟩ := r.two' hl
    cases h1
    cases h2
    exact ⟨i, j, rfl, q _ _ (O.val (.int _))⟩
section
variable {X : Cx} {c : Cfg}
theorem b_int : QB X c "int" (fun xs H Q => (∃ i, xs = [V.int i] ∧ Q (V.int i) H) ∨ ∃ k, xs = [V.bl k] ∧ Q (V.int (if k = true then 1 else 0)) H) gInt1 := ⟨.inr ⟨_, call_int1, by decide +kernel⟩, cd_int⟩
theorem b_sorted (hK : X.K = c.K := by rfl) : QB X c "sorted" (rSortedI c.K) gSorted := ⟨.inl ⟨_, hK ▸ cr_sortedI, by decide +kernel⟩, cd_sorted⟩
theorem b_min2 (hc : X.calm = true := by rfl) : QB X c "min" (fun xs H Q => ∃ i j, xs = [V.int i, V.int j] ∧ Q (V.int (if j < i then j else i)) H) gMin2 := ⟨.inl ⟨_, call_min2 hc, by decide +kernel⟩, cd_min2⟩
theorem b_max2 (hc : X.calm = true := by rfl) : QB X c "max" (fun xs H Q => ∃ i j, xs = [V.int i, V.int j] ∧ Q (V.int (if j > i then j else i)) H) gMax2 := ⟨.inl ⟨_, call_max2 hc, by decide +kernel⟩, cd_max2⟩
end
/-! ### an operand that is a name's cell, lent -/
/-- an operation whose answer is flat and that leaves the heap -/
def FlatOp (c : Cfg) (r : R2) (g : D → D → Option S) : Prop := ∀ (G H : Hp) (Q : VK) (x y : D) (v u : V) (s : S), (∀ a o, G a = some o → H a = some o) → Rp c G v x → Rp c G u y → g x y = some s → (∀ b : Bool, s = .d (.bl b) → Q (.bl b) H) → r v u H Q
theorem fo_eqN {c : Cfg} (neg : Bool) {g : D → D → Option S} (hg : ∀ x y s, g x y = some s → pl60 x = true ∧ pl60 y = true ∧ s = .d (.bl (if neg then !eqD x y else eqD x y))) : FlatOp c (rEqP c.K neg) g := by
  intro G H Q x y v u s sub h1 h2 e q
  obtain ⟨p1, p2, rfl⟩ := hg x y s e
  exact ⟨toP x, toP y, h1.dp sub p1, h2.dp sub p2, (pl60_shaped p1).1, (pl60_shaped p2).1, Nat.le_trans (pl60_shaped p1).2 (by decide), q _ rfl⟩
theorem fo_eq {c : Cfg} : FlatOp c (rEqP c.K false) gEq := fo_eqN false fun x y s e => by
  unfold gEq at e
  split at e
  · rename_i h
    rw [Bool.and_eq_true] at h
    cases e
    exact ⟨h.1, h.2, rfl⟩
  · cases e
theorem fo_ne {c : Cfg} : FlatOp c (rEqP c.K true) gNe := fo_eqN true fun x y s e => by
  unfold gNe at e
  split at e
  · rename_i h
    rw [Bool.and_eq_true] at h
    cases e
    exact ⟨h.1, h.2, rfl⟩
  · cases e
theorem fo_in {c : Cfg} {neg : Bool} : FlatOp c (rInP c.K neg) (gInN neg) := by
  intro G H Q x y v u s sub h1 h2 e q
  unfold gInN at e
  split at e
  · rename_i ds hi
    split at e
    · rename_i hp
      rw [Bool.and_eq_true] at hp
      cases e
      have e3 : (toPs ds).any (fun z => PyData.eqv z (toP x)) = inD x ds := by
        rw [toPs_map, List.any_map]
        rfl
      refine ⟨toP x, toPs ds, h1.dp sub hp.1, ?_, (pl60_shaped hp.1).1, (plA_plain hp.2).1, Nat.le_trans (pl60_shaped hp.1).2 (by decide), ?_⟩
      · cases y <;> first | cases hi | skip
        · have := h2.dp (n := 61) sub (by simpa [pl] using hp.2)
          simp only [toP] at this
          exact .inr this
        · have := h2.dp (n := 61) sub (by simpa [pl] using hp.2)
          simp only [toP] at this
          exact .inl this
      · rw [e3]
        exact q _ rfl
    · cases e
  · cases e
section
variable {c : Cfg} {W : WX} {B : Base} {ts : En} {vs : List (Option V)} {ρ : En} {σ : L2.St} {H : Hp} {ta tb : TE} {fa fb : M S} {i : Nat} {r : R2} {g : D → D → Option S}
def lendD (ρ : En) (i : Nat) : Option D := match ρ[i]? with
  | some (some (.d x)) => some x
  | some (some (.o _ x)) => if canFz x then some x else none
  | _ => none
theorem Rep.lend {x y : D} {v : V} (e : lendD ρ i = some y) (r : Rep c B (some (.d x) :: ts) (some v :: vs) ρ σ H) : ∃ u G, σ[i]? = some (some u) ∧ (∀ a o, G a = some o → H a = some o) ∧ Rp c G v x ∧ Rp c G u y := by
  obtain ⟨G, o1, o2, k, h1, h2⟩ := r
  have hv : Rp c G v x := by
    cases h1 with
    | d h _ => exact h
  unfold lendD at e
  split at e
  · rename_i x' e1
    cases e
    obtain ⟨u, ev, hu⟩ := h2.getD e1
    exact ⟨u, G, ev, k.sub, hv, hu⟩
  · rename_i b x' e1
    split at e
    · rename_i hz
      cases e
      obtain ⟨a, ev, hc, ho, _⟩ := h2.getO e1
      obtain ⟨o, ha, _, hf⟩ := hc.fz hz
      have gp := (k.out a (List.mem_append_right _ ho)).1
      have s : ∀ b u, G b = some u → upd G a o b = some u := fun b u e => by
        have : b ≠ a := fun z => by rw [z, gp] at e; cases e
        rw [upd_ne this]
        exact e
      refine ⟨.ref a, upd G a o, ev, fun b u e => ?_, hv.mono s, hf _ s upd_same⟩
      by_cases hb : b = a
      · rw [hb, upd_same] at e
        rw [hb, ha, ← e]
      · rw [upd_ne hb] at e
        exact k.sub _ _ e
    · cases e
  · cases e
def mOpR (g : D → D → Option S) (fa : M S) (i : Nat) : M S := fun ρ => (dv fa ρ).then fun x ρ1 => match lendD ρ1 i with
  | some y => match g x y with
    | some (.d (.bl b)) => .ok (.d (.bl b)) ρ1
    | _ => .stuck
  | none => .stuck
theorem Rep.unit1 {x : D} {v : V} {b : Bool} (r : Rep c B (some (.d x) :: ts) (some v :: vs) ρ σ H) : Rep c B (some (.d (.bl b)) :: ts) (some (.bl b) :: vs) ρ σ H := by
  obtain ⟨G, O, _⟩ := r.one
  exact O.val (.bl _)
theorem den_opR (ho : FlatOp c r g) (h : Den c W ta fa) : Den c W (tOp r ta (tVar i)) (mOpR g fa i) := fun B ts vs ρ σ H Q rp q => by
  unfold mOpR at q
  rw [post_then] at q
  refine h.dv rp (q.imp1 fun x ρ1 q v H1 r1 => ?_)
  split at q
  · rename_i y e
    obtain ⟨u, G, ev, sub, hx, hy⟩ := r1.lend e
    split at q
    · rename_i b eg
      refine ⟨u, ev, ho G H1 Q x y v u _ sub hx hy eg fun b' hb => ?_⟩
      cases hb
      exact q _ _ r1.unit1
    · exact q.elim
  · exact q.elim
def hasD (ρ : En) (i : Nat) : Bool := match ρ[i]? with
  | some (some _) => true
  | _ => false
def mOpL (g : D → D → Option S) (i : Nat) (fb : M S) : M S := fun ρ => if hasD ρ i then (dv fb ρ).then fun y ρ1 => match lendD ρ1 i with
  | some x => match g x y with
    | some (.d (.bl b)) => .ok (.d (.bl b)) ρ1
    | _ => .stuck
  | none => .stuck
  else .stuck
theorem Rep.hasD (e : hasD ρ i = true) (r : Rep c B ts vs ρ σ H) : ∃ u, σ[i]? = some (some u) := by
  unfold Fx.hasD at e
  split at e
  · rename_i s e1
    cases s with
    | d x =>
      obtain ⟨v, ev, _⟩ := r.var e1
      exact ⟨v, ev⟩
    | o b x =>
      obtain ⟨a, ev, _⟩ := r.varO e1
      exact ⟨_, ev⟩
    | q ks dss =>
      obtain ⟨a, ev, _⟩ := r.varQ e1
      exact ⟨_, ev⟩
  · cases e
theorem den_opL (ho : FlatOp c r g) (h : Den c W tb fb) : Den c W (tOp r (tVar i) tb) (mOpL g i fb) := fun B ts vs ρ σ H Q rp q => by
  unfold mOpL at q
  split at q
  · rename_i hd
    obtain ⟨u, eu⟩ := rp.hasD hd
    rw [post_then] at q
    refine ⟨u, eu, h.dv rp (q.imp1 fun y ρ1 q v H1 r1 => ?_)⟩
    split at q
    · rename_i x e
      obtain ⟨u', G, ev, sub, hy, hx⟩ := r1.lend e
      rw [eu] at ev
      cases ev
      split at q
      · rename_i b eg
        refine ho G H1 Q x y u v _ sub hx hy eg fun b' hb => ?_
        cases hb
        exact q _ _ r1.unit1
      · exact q.elim
    · exact q.elim
  · exact q.elim
end
section
variable {X : Cx} {c : Cfg} {W : WX} {a b e : Expr} {es : List Expr} {fa fb fe : M S} {pos p p2 apos cpos : Pos} {k : Nat} {ta tb te : TE}
/-- an operator of comparison whose operand may be lent -/
structure QF (X : Cx) (c : Cfg) (op : CmpOp) (r : R2) (g : D → D → Option S) : Prop where
  pe : OpR X (compareOp op) r
  dn : FlatOp c r g
theorem f_eq (hr : Room k X.A) (hK : X.K = c.K := by rfl) : QF X c .Eq (rEqP c.K false) gEq := ⟨hK ▸ op_eqP (un66 hr), fo_eq⟩
theorem f_ne (hr : Room k X.A) (hK : X.K = c.K := by rfl) : QF X c .NotEq (rEqP c.K true) gNe := ⟨hK ▸ op_neP (un66 hr), fo_ne⟩
theorem f_in (hr : Room k X.A) (hK : X.K = c.K := by rfl) : QF X c .In (rInP c.K false) gIn := ⟨hK ▸ op_inP (un66 hr), fo_in⟩
theorem f_nin (hr : Room k X.A) (hK : X.K = c.K := by rfl) : QF X c .NotIn (rInP c.K true) gNotIn := ⟨hK ▸ op_ninP (un66 hr), fo_in⟩
variable {op : CmpOp} {g : D → D → Option S} {r : R2} {x : Str}
theorem q_cmpR (ho : QF X c op r g) (ha : QE X c W a ta fa) (i : Nat) (hN : X.N[i]? = some x := by rfl) (hv : Vis X.env.scope x := by first | exact Or.inl rfl | exact Or.inr (Or.inl rfl) | exact Or.inr (Or.inr rfl)) (hd : (x == ("__debug__" : Str)) = false := by decide)
    (hcd : (x == ("__classdict__" : Str)) = false := by decide) (hm : behindInMarks op (.Name x p) = false := by first | exact nomark _ | with_unfolding_all rfl) : QE X c W (.Compare a [op] [.Name x p] pos) (tOp r ta (tVar i)) (mOpR g fa i) := by
  obtain ⟨h1, h2⟩ := ha; obtain ⟨r1, r2⟩ := ho
  exact ⟨pe_cmpR r1 h1 (pe_var hN hv hd hcd) hm, den_opR r2 h2⟩
theorem t_cmpR (ho : QF X c op r g) (ha : QE X c W a ta fa) (i : Nat) (hN : X.N[i]? = some x := by rfl) (hv : Vis X.env.scope x := by first | exact Or.inl rfl | exact Or.inr (Or.inl rfl) | exact Or.inr (Or.inr rfl)) (hd : (x == ("__debug__" : Str)) = false := by decide)
    (hcd : (x == ("__classdict__" : Str)) = false := by decide) (hm : behindInMarks op (.Name x p) = false := by first | exact nomark _ | with_unfolding_all rfl) : QT X c W (.Compare a [op] [.Name x p] pos) (tTest (tOp r ta (tVar i))) (mTest (mOpR g fa i)) := by
  obtain ⟨h1, h2⟩ := ha; obtain ⟨r1, r2⟩ := ho
  exact ⟨pt_cmpR r1 h1 (pe_var hN hv hd hcd) hm, dt_test (den_opR r2 h2)⟩
theorem q_cmpL (ho : QF X c op r g) (i : Nat) (hb : QE X c W b tb fb) (hN : X.N[i]? = some x := by rfl) (hv : Vis X.env.scope x := by first | exact Or.inl rfl | exact Or.inr (Or.inl rfl) | exact Or.inr (Or.inr rfl)) (hd : (x == ("__debug__" : Str)) = false := by decide)
    (hcd : (x == ("__classdict__" : Str)) = false := by decide) (hm : behindInMarks op b = false := by first | exact nomark _ | with_unfolding_all rfl) : QE X c W (.Compare (.Name x p) [op] [b] pos) (tOp r (tVar i) tb) (mOpL g i fb) := by
  obtain ⟨h1, h2⟩ := hb; obtain ⟨r1, r2⟩ := ho
  exact ⟨pe_cmpR r1 (pe_var hN hv hd hcd) h1 hm, den_opL r2 h2⟩
theorem t_cmpL (ho : QF X c op r g) (i : Nat) (hb : QE X c W b tb fb) (hN : X.N[i]? = some x := by rfl) (hv : Vis X.env.scope x := by first | exact Or.inl rfl | exact Or.inr (Or.inl rfl) | exact Or.inr (Or.inr rfl)) (hd : (x == ("__debug__" : Str)) = false := by decide)
    (hcd : (x == ("__classdict__" : Str)) = false := by decide) (hm : behindInMarks op b = false := by first | exact nomark _ | with_unfolding_all rfl) : QT X c W (.Compare (.Name x p) [op] [b] pos) (tTest (tOp r (tVar i) tb)) (mTest (mOpL g i fb)) := by
  obtain ⟨h1, h2⟩ := hb; obtain ⟨r1, r2⟩ := ho
  exact ⟨pt_cmpR r1 (pe_var hN hv hd hcd) h1 hm, dt_test (den_opL r2 h2)⟩
/-! ### methods of a name's list, its length -/
theorem q_lenO (i : Nat) (hmg : X.mg "len" = none) (hN : X.N[i]? = some x := by rfl) (hv : Vis X.env.scope x := by first | exact Or.inl rfl | exact Or.inr (Or.inl rfl) | exact Or.inr (Or.inr rfl)) (hd : (x == ("__debug__" : Str)) = false := by decide)
    (hcd : (x == ("__classdict__" : Str)) = false := by decide) (hg : Gl X "len" := by rfl) (he : starEach [.Name x p2] X.env = (false, eval (.Name x p2) X.env) :: starEach [] X.env := by rfl) (hpl : (backTo pos (starEach [] X.env)).any (·.1) = false := by rfl) (hK : X.K = c.K := by rfl) :
    QE X c W (.Call (.Name "len" p) [.Name x p2] [] pos) (tCB (rLenG c.K) (tCons (tVar i) tNil)) (mLenO i) :=
  ⟨pe_callB (hK ▸ cr_lenG) hg hmg PySem.boot_len (pa_cons (pe_var hN hv hd hcd) pa_nil he) (by decide) (by decide) he hpl, den_lenO⟩
theorem q_append (i : Nat) (he : QE X c W e te fe) (hN : X.N[i]? = some x := by rfl) (hv : Vis X.env.scope x := by first | exact Or.inl rfl | exact Or.inr (Or.inl rfl) | exact Or.inr (Or.inr rfl)) (hd : (x == ("__debug__" : Str)) = false := by decide)
    (hcd : (x == ("__classdict__" : Str)) = false := by decide) (hbase : attributeBase (.Name x p) "append" X.env (eval (.Name x p) X.env) = eval (.Name x p) X.env := by rfl)
    (hfew : ((backTo cpos (starEach [e] X.env)).all (fun y => !y.1) && (backToKw cpos (keywordEach [] X.env)).all (fun y => y.1.isSome) && decide ([e].length + ([] : List Keyword).length + (if ([] : List Keyword).isEmpty then 0 else 1) < 30)) = true := by rfl) (hline : (apos.endLine == cpos.line) = true := by rfl)
    (hs : starEach [e] X.env = (false, eval e X.env) :: starEach [] X.env := by rfl) (hplain : (backTo cpos (starEach [] X.env)).any (·.1) = false := by rfl) (hK : X.K = c.K := by rfl) :
    QE X c W (.Call (.Attribute (.Name x p) "append" apos) [e] [] cpos) (tBM c.K "list" rAppend (tVar i) (tCons te tNil)) (mMeth1 i gApp fe) := by
  obtain ⟨h1, h2⟩ := he
  exact ⟨hK ▸ pe_bm PySem.F.plainAttrs_list PySem.F.slot_list_append PySem.F.type_list_append mt_append (pe_var hN hv hd hcd) (pa_cons h1 pa_nil hs) hbase hfew hline hs hplain, den_meth1 md_app h2⟩
theorem q_extend (i : Nat) (he : QE X c W e te fe) (hN : X.N[i]? = some x := by rfl) (hv : Vis X.env.scope x := by first | exact Or.inl rfl | exact Or.inr (Or.inl rfl) | exact Or.inr (Or.inr rfl)) (hd : (x == ("__debug__" : Str)) = false := by decide)
    (hcd : (x == ("__classdict__" : Str)) = false := by decide) (hbase : attributeBase (.Name x p) "extend" X.env (eval (.Name x p) X.env) = eval (.Name x p) X.env := by rfl)
    (hfew : ((backTo cpos (starEach [e] X.env)).all (fun y => !y.1) && (backToKw cpos (keywordEach [] X.env)).all (fun y => y.1.isSome) && decide ([e].length + ([] : List Keyword).length + (if ([] : List Keyword).isEmpty then 0 else 1) < 30)) = true := by rfl) (hline : (apos.endLine == cpos.line) = true := by rfl)
    (hs : starEach [e] X.env = (false, eval e X.env) :: starEach [] X.env := by rfl) (hplain : (backTo cpos (starEach [] X.env)).any (·.1) = false := by rfl) (hK : X.K = c.K := by rfl) :
    QE X c W (.Call (.Attribute (.Name x p) "extend" apos) [e] [] cpos) (tBM c.K "list" rExtend (tVar i) (tCons te tNil)) (mMeth1 i gExt fe) := by
  obtain ⟨h1, h2⟩ := he
  exact ⟨hK ▸ pe_bm PySem.F.plainAttrs_list PySem.F.slot_list_extend PySem.F.type_list_extend mt_extend (pe_var hN hv hd hcd) (pa_cons h1 pa_nil hs) hbase hfew hline hs hplain, den_meth1 md_ext h2⟩
theorem q_popAt (i : Nat) (he : QE X c W e te fe) (hN : X.N[i]? = some x := by rfl) (hv : Vis X.env.scope x := by first | exact Or.inl rfl | exact Or.inr (Or.inl rfl) | exact Or.inr (Or.inr rfl)) (hd : (x == ("__debug__" : Str)) = false := by decide)
    (hcd : (x == ("__classdict__" : Str)) = false := by decide) (hbase : attributeBase (.Name x p) "pop" X.env (eval (.Name x p) X.env) = eval (.Name x p) X.env := by rfl)
    (hfew : ((backTo cpos (starEach [e] X.env)).all (fun y => !y.1) && (backToKw cpos (keywordEach [] X.env)).all (fun y => y.1.isSome) && decide ([e].length + ([] : List Keyword).length + (if ([] : List Keyword).isEmpty then 0 else 1) < 30)) = true := by rfl) (hline : (apos.endLine == cpos.line) = true := by rfl)
    (hs : starEach [e] X.env = (false, eval e X.env) :: starEach [] X.env := by rfl) (hplain : (backTo cpos (starEach [] X.env)).any (·.1) = false := by rfl) (hK : X.K = c.K := by rfl) :
    QE X c W (.Call (.Attribute (.Name x p) "pop" apos) [e] [] cpos) (tBM c.K "list" rPopAt (tVar i) (tCons te tNil)) (mMeth1 i gPopAt fe) := by
  obtain ⟨h1, h2⟩ := he
  exact ⟨hK ▸ pe_bm PySem.F.plainAttrs_list PySem.F.slot_list_pop PySem.F.type_list_pop mt_popAt (pe_var hN hv hd hcd) (pa_cons h1 pa_nil hs) hbase hfew hline hs hplain, den_meth1 md_popAt h2⟩
theorem q_pop (i : Nat) (hN : X.N[i]? = some x := by rfl) (hv : Vis X.env.scope x := by first | exact Or.inl rfl | exact Or.inr (Or.inl rfl) | exact Or.inr (Or.inr rfl)) (hd : (x == ("__debug__" : Str)) = false := by decide)
    (hcd : (x == ("__classdict__" : Str)) = false := by decide) (hbase : attributeBase (.Name x p) "pop" X.env (eval (.Name x p) X.env) = eval (.Name x p) X.env := by rfl) (hline : (apos.endLine == cpos.line) = true := by rfl) (hK : X.K = c.K := by rfl) :
    QE X c W (.Call (.Attribute (.Name x p) "pop" apos) [] [] cpos) (tBM0 c.K "list" rPop (tVar i)) (mMeth0 i gPop) :=
  ⟨hK ▸ pe_bm0 PySem.F.plainAttrs_list PySem.F.slot_list_pop PySem.F.type_list_pop mt_pop (pe_var hN hv hd hcd) hbase hline, den_meth0 md_pop⟩
/-- isinstance(e, C), C a class of the text's own -/
theorem q_isC {C : Str} (n : String) (K : ClsOk c n) (hgm : X.mg C = some (.ref (c.cls n))) (hm : X.mg "isinstance" = none) (he : QE X c W e te fe) (hg : Gl X "isinstance" := by rfl) (hgC : Gl X C := by rfl) (hdb : (C == ("__debug__" : Str)) = false := by decide)
    (hs : starEach [e, .Name C p2] X.env = (false, eval e X.env) :: starEach [.Name C p2] X.env := by rfl) (hs2 : starEach [.Name C p2] X.env = (false, eval (.Name C p2) X.env) :: starEach [] X.env := by rfl) (hpl : (backTo pos (starEach [.Name C p2] X.env)).any (·.1) = false := by rfl) (hK : X.K = c.K := by rfl) :
    QE X c W (.Call (.Name "isinstance" p) [e, .Name C p2] [] pos) (tIsC c.K (c.cls n) te) (mIsC n fe) := by
  obtain ⟨h1, h2⟩ := he
  exact ⟨pe_callB (hK ▸ call_isi) hg hm (by decide +kernel) (pa_cons h1 (pa_cons (pe_glob (v := .ref (c.cls n)) hgC hgm rfl hdb) pa_nil hs2) hs) (by decide) (by decide) hs hpl, den_isC K h2⟩
end
end Fx

/-! a, b = x, y and a, b, c = x, y, z -/
namespace Fx
open PySem PySem.Spec PyProof.Rows L2
open C8 (Cal Mak pe_c pe_mk)
abbrev stk (ss : List S) : En := ss.reverse.map some
def DenP (c : Cfg) (W : WX) (tA : TA) (f : M (List S)) : Prop := ∀ B ts vs ρ σ H Q, Rep c B ts vs ρ σ H → Post (fun ss ρ' => ∀ us H', us.length = ss.length → Rep c B (stk ss ++ ts) (tmv us ++ vs) ρ' σ H' → Q us H') (ErrP c W B ts vs σ) (f ρ) → tA σ H Q
def psNil : M (List S) := fun ρ => .ok [] ρ
def psCons (fa : M S) (fr : M (List S)) : M (List S) := fun ρ => (fa ρ).then fun s ρ1 => (fr ρ1).then fun ss ρ2 => .ok (s :: ss) ρ2
def stS (own : Bool) (s : S) : Option S := if own then match s with
    | .o none x => some (.o none x)
    | _ => (toD s).map .d
  else (toD s).map .d
section
variable {c : Cfg} {W : WX} {B : Base} {ts : En} {vs : List (Option V)} {ρ : En} {σ : L2.St} {H : Hp} {ta : TE} {fa : M S} {tr tA : TA} {fr fP : M (List S)}
theorem dp_nil : DenP c W tNil psNil := fun B ts vs ρ σ H Q r h => h [] H rfl r
theorem dp_cons (ha : Den c W ta fa) (hr : DenP c W tr fr) : DenP c W (tCons ta tr) (psCons fa fr) := fun B ts vs ρ σ H Q r q => by
  unfold psCons at q
  rw [post_then] at q
  refine ha B ts vs ρ σ H _ r (q.imp1 fun s ρ1 h v H1 r1 => ?_)
  rw [post_then] at h
  refine hr B _ _ ρ1 σ H1 _ r1 (h.imp (fun ss ρ2 h us H2 hl r2 => ?_) fun _ _ h => h.drop)
  refine h (v :: us) H2 (by simp [hl]) ?_
  unfold stk tmv
  rw [List.reverse_cons, List.map_append, List.reverse_cons, List.map_append, List.append_assoc, List.append_assoc]
  exact r2
theorem Rep.stS {own : Bool} {s s' : S} {v : V} (e : stS own s = some s') (r : Rep c B (some s :: ts) (some v :: vs) ρ σ H) : Rep c B (some s' :: ts) (some v :: vs) ρ σ H := by
  have key : ∀ {s' : S}, (Fx.toD s).map S.d = some s' → Rep c B (some s' :: ts) (some v :: vs) ρ σ H := by
    intro s' e
    cases e2 : Fx.toD s with
    | none => rw [e2] at e; cases e
    | some x =>
      rw [e2] at e
      cases e
      exact r.toD e2
  unfold Fx.stS at e
  split at e
  · split at e
    · cases e
      exact r
    · exact key e
  · exact key e
def mPar2 (i : Nat) (oi : Bool) (j : Nat) (oj : Bool) (fP : M (List S)) : M Fl := fun ρ => (fP ρ).then fun ss ρ1 => match ss with
  | [s, t] => match stS oi s, stS oj t with
    | some s', some t' => .ok .nx ((ρ1.set j (some t')).set i (some s'))
    | _, _ => .stuck
  | _ => .stuck
def mPar3 (i : Nat) (oi : Bool) (j : Nat) (oj : Bool) (k : Nat) (ok : Bool) (fP : M (List S)) : M Fl := fun ρ => (fP ρ).then fun ss ρ1 => match ss with
  | [s, t, u] => match stS oi s, stS oj t, stS ok u with
    | some s', some t', some u' => .ok .nx (((ρ1.set k (some u')).set j (some t')).set i (some s'))
    | _, _, _ => .stuck
  | _ => .stuck
theorem ds_par2 {i j : Nat} {oi oj : Bool} (hij : i ≠ j) (h : DenP c W tA fP) : DenS c W (tPar i j tA) (mPar2 i oi j oj fP) := fun B ts vs ρ σ H D r q => by
  unfold mPar2 at q
  rw [post_then] at q
  refine h B ts vs ρ σ H _ r (q.imp (fun ss ρ1 q us H1 hl r1 => ?_) fun _ _ h => h.toP)
  match ss, us, hl, q, r1 with
  | [s, t], [v, w], _, q, r1 =>
    dsimp only at q
    split at q
    · rename_i s' t' e1 e2
      refine ⟨v, w, rfl, ?_⟩
      have r2 : Rep c B (some t :: some s :: ts) (some w :: some v :: vs) ρ1 σ H1 := r1
      have r3 := (r2.stS e2).set (i := j)
      have r4 := (r3.stS e1).set (i := i)
      have q : EndP c B ts vs D .nx _ := q
      have e : (σ.set i (some v)).set j (some w) = (σ.set j (some w)).set i (some v) := List.set_comm _ _ hij
      rw [e]
      exact q _ _ r4
    · exact q.elim
def tPar3 (i j k : Nat) (ta : TA) : TS := fun D σ H => ta σ H fun vs H1 => ∃ u v w, vs = [u, v, w] ∧ D.nx (((σ.set i (some u)).set j (some v)).set k (some w)) H1
theorem ds_par3 {i j k : Nat} {oi oj ok : Bool} (hij : i ≠ j) (hik : i ≠ k) (hjk : j ≠ k) (h : DenP c W tA fP) : DenS c W (tPar3 i j k tA) (mPar3 i oi j oj k ok fP) := fun B ts vs ρ σ H D r q => by
  unfold mPar3 at q
  rw [post_then] at q
  refine h B ts vs ρ σ H _ r (q.imp (fun ss ρ1 q us H1 hl r1 => ?_) fun _ _ h => h.toP)
  match ss, us, hl, q, r1 with
  | [s, t, u], [v, w, x], _, q, r1 =>
    dsimp only at q
    split at q
    · rename_i s' t' u' e1 e2 e3
      refine ⟨v, w, x, rfl, ?_⟩
      have r2 : Rep c B (some u :: some t :: some s :: ts) (some x :: some w :: some v :: vs) ρ1 σ H1 := r1
      have r3 := (r2.stS e3).set (i := k)
      have r4 := (r3.stS e2).set (i := j)
      have r5 := (r4.stS e1).set (i := i)
      have q : EndP c B ts vs D .nx _ := q
      have e : (((σ.set i (some v)).set j (some w)).set k (some x)) = (((σ.set k (some x)).set j (some w)).set i (some v)) := by
        rw [List.set_comm _ _ hjk, List.set_comm _ _ hik, List.set_comm _ _ hij]
      rw [e]
      exact q _ _ r5
    · exact q.elim
end
section
variable {X : Cx}
theorem ps_par3 {i j k : Nat} {x y z : Str} {a b d : Expr} {ta : TA} {px py pz pt pos : Pos} {kt k2 pt2} (hc : X.calm = true) (hN : X.N.Nodup) (hi : X.N[i]? = some x) (hj : X.N[j]? = some y) (hk : X.N[k]? = some z) (hij : i ≠ j) (hik : i ≠ k) (hjk : j ≠ k)
    (hx : X.env.scope.names.lookup x = some .local) (hy : X.env.scope.names.lookup y = some .local) (hz : X.env.scope.names.lookup z = some .local) (ha : PA X [a, b, d] ta)
    (hw : swappedStores [.Tuple [.Name x px, .Name y py, .Name z pz] kt pt] (.Tuple [a, b, d] k2 pt2) X.env = pure (some [x, y, z]))
    (hs : swapsWithSole [.Tuple [.Name x px, .Name y py, .Name z pz] kt pt] (.Tuple [a, b, d] k2 pt2) pos.line X.env = pure false := by rfl) :
    PS X (.Assign [.Tuple [.Name x px, .Name y py, .Name z pz] kt pt] (.Tuple [a, b, d] k2 pt2) pos) (tPar3 i j k ta) := by
  refine ⟨fun pins s σ H D I h => ?_⟩
  rw [exec_Assign_arm]
  refine wpAny_bind (wpAny_standAt ?_)
  rw [hs]
  refine wpAny_bind (wpAny_pure ?_)
  rw [if_neg (by decide)]
  refine wpAny_bind (Tuple_ (thn (ha.run _ pins s σ H _ I h) fun us s1 ⟨vs, H1, I1, r1, q1⟩ => ?_))
  obtain ⟨v, w, t, e1, q1⟩ := q1
  subst e1
  obtain ⟨u1, u2, u3, rfl, rv, rw', rz⟩ : ∃ u1 u2 u3, us = [u1, u2, u3] ∧ RelV v u1 ∧ RelV w u2 ∧ RelV t u3 := by
    cases r1 with
    | cons p q =>
      cases q with
      | cons p' q' =>
        cases q' with
        | cons p2 q2 =>
          cases q2
          exact ⟨_, _, _, rfl, p, p', p2⟩
  refine wpAny_newObj_type ?_ (by show 3 ≤ sizeLine; decide)
  have I2 : Inv X pins σ H1 { s1 with heap := s1.heap.push { cls := .type "tuple", data := .seq [u1, u2, u3].toArray } } := I1.kept (t' := s1.toks) fun b o e => Heap.get?_push_of_some _ e
  rw [hw]
  refine wpAny_bind (wpAny_pure ?_)
  show wpAny (model X.prog X.w) X.A (do rule "assign.swapped-stores"; let items ← unpackItems (.ref s1.heap.objs.size) 3 none; assignInOrder [fun v => bindName X.env z v, fun v => bindName X.env y v, fun v => bindName X.env x v] items.reverse; pure Flow.next) _ _ _
  refine wpAny_bind (wpAny_rule (wpAny_bind (unpackItems_tuple (items := #[u1, u2, u3]) (I.ok.hd hc) (IsTup.new s1.heap _) fun h' hx' => ?_)))
  have I3 := I2.kept (h' := h') (t' := s1.toks) fun b o e => hx' b o (Nat.ne_of_lt (Heap.lt_size e)) e
  show wpAny _ _ (assignInOrder [fun v => bindName X.env z v, fun v => bindName X.env y v, fun v => bindName X.env x v] [u3, u2, u1] >>= fun _ => pure Flow.next) _ _ _
  refine wpAny_bind (assignInOrder_cons (wpAny_bindName (store_ok I3 hN hk (.inl hz) rz (fun s2 I4 => ?_) (.inr hz))))
  refine assignInOrder_cons (wpAny_bindName (store_ok I4 hN hj (.inl hy) rw' (fun s3 I5 => ?_) (.inr hy)))
  refine assignInOrder_cons (wpAny_bindName (store_ok I5 hN hi (.inl hx) rv (fun s4 I6 => assignInOrder_nil (wpAny_pure ?_)) (.inr hx)))
  have e : (((σ.set i (some v)).set j (some w)).set k (some t)) = (((σ.set k (some t)).set j (some w)).set i (some v)) := by
    rw [List.set_comm _ _ hjk, List.set_comm _ _ hik, List.set_comm _ _ hij]
  rw [← e] at I6
  exact ⟨_, H1, I6, q1⟩
end
structure QP (X : Cx) (c : Cfg) (W : WX) (es : List Expr) (t : TA) (f : M (List S)) : Prop where
  pe : PA X es t
  dn : DenP c W t f
section
variable {X : Cx} {c : Cfg} {W : WX} {a b d e : Expr} {es : List Expr} {te : TE} {fe : M S} {tA : TA} {fP : M (List S)} {pos : Pos} {oi oj ok : Bool}
theorem ps_nil : QP X c W [] tNil psNil := ⟨pa_nil, dp_nil⟩
theorem ps_cons (h : QE X c W e te fe) (k : QP X c W es tA fP) (hs : starEach (e :: es) X.env = (false, eval e X.env) :: starEach es X.env := by rfl) : QP X c W (e :: es) (tCons te tA) (psCons fe fP) := by
  obtain ⟨h1, h2⟩ := h; obtain ⟨k1, k2⟩ := k
  exact ⟨pa_cons h1 k1 hs, dp_cons h2 k2⟩
theorem s_par2 (i : Nat) (oi : Bool) (j : Nat) (oj : Bool) {x y : Str} {px py pt : Pos} {kt k2 pt2} (hN : X.N.Nodup) (ha : QP X c W [a, b] tA fP) (hij : i ≠ j := by decide) (hc : X.calm = true := by rfl) (hi : X.N[i]? = some x := by rfl) (hj : X.N[j]? = some y := by rfl)
    (hx : X.env.scope.names.lookup x = some .local := by rfl) (hy : X.env.scope.names.lookup y = some .local := by rfl)
    (hw : swappedStores [.Tuple [.Name x px, .Name y py] kt pt] (.Tuple [a, b] k2 pt2) X.env = pure (some [x, y]) := by rfl)
    (hs : swapsWithSole [.Tuple [.Name x px, .Name y py] kt pt] (.Tuple [a, b] k2 pt2) pos.line X.env = pure false := by rfl) :
    QS X c W (.Assign [.Tuple [.Name x px, .Name y py] kt pt] (.Tuple [a, b] k2 pt2) pos) (tPar i j tA) (mPar2 i oi j oj fP) := by
  obtain ⟨h1, h2⟩ := ha
  exact ⟨ps_par hc hN hi hj hij hx hy h1 hw hs, ds_par2 hij h2⟩
theorem s_par3 (i : Nat) (oi : Bool) (j : Nat) (oj : Bool) (k : Nat) (ok : Bool) {x y z : Str} {px py pz pt : Pos} {kt k2 pt2} (hN : X.N.Nodup) (ha : QP X c W [a, b, d] tA fP) (hij : i ≠ j := by decide) (hik : i ≠ k := by decide) (hjk : j ≠ k := by decide) (hc : X.calm = true := by rfl) (hi : X.N[i]? = some x := by rfl) (hj : X.N[j]? = some y := by rfl) (hk : X.N[k]? = some z := by rfl)
    (hx : X.env.scope.names.lookup x = some .local := by rfl) (hy : X.env.scope.names.lookup y = some .local := by rfl) (hz : X.env.scope.names.lookup z = some .local := by rfl)
    (hw : swappedStores [.Tuple [.Name x px, .Name y py, .Name z pz] kt pt] (.Tuple [a, b, d] k2 pt2) X.env = pure (some [x, y, z]) := by rfl)
    (hs : swapsWithSole [.Tuple [.Name x px, .Name y py, .Name z pz] kt pt] (.Tuple [a, b, d] k2 pt2) pos.line X.env = pure false := by rfl) :
    QS X c W (.Assign [.Tuple [.Name x px, .Name y py, .Name z pz] kt pt] (.Tuple [a, b, d] k2 pt2) pos) (tPar3 i j k tA) (mPar3 i oi j oj k ok fP) := by
  obtain ⟨h1, h2⟩ := ha
  exact ⟨ps_par3 hc hN hi hj hk hij hik hjk hx hy hz h1 hw hs, ds_par3 hij hik hjk h2⟩
end
/-! the same by a tuple (where a name is a cell) -/
section
variable {c : Cfg} {W : WX} {B : Base} {ts : En} {vs : List (Option V)} {ρ : En} {σ : L2.St} {H : Hp} {tA : TA} {fP : M (List S)}
theorem Rep.extra {p : Addr} {o : HO} (r : Rep c B ts vs ρ σ H) (hp : H p = none) (ho : isTbl o = false) : Rep c B ts vs ρ σ (upd H p o) := by
  obtain ⟨G, o1, o2, k, h1, h2⟩ := r
  have gp := k.gnone hp
  have s : ∀ a u, G a = some u → upd G p o a = some u := upd_sub gp
  have e := own_new (o := o) k hp
  exact ⟨_, o1, o2, k.alloc hp ho, h1.mono s fun q hq => e q (List.mem_append_left _ hq), h2.mono s fun q hq => e q (List.mem_append_right _ hq)⟩
def szP (ss : List S) : Bool := small ss.length
def mParT2 (i : Nat) (oi : Bool) (j : Nat) (oj : Bool) (fP : M (List S)) : M Fl := mPar2 i oi j oj fP
theorem ds_parT2 {i j : Nat} {oi oj : Bool} (hij : i ≠ j) (h : DenP c W tA fP) : DenS c W (tAsg (tTup tA) (gTup c.K 2 (gCons (gName i) (gCons (gName j) gNil)))) (mPar2 i oi j oj fP) := fun B ts vs ρ σ H D r q => by
  unfold mPar2 at q
  rw [post_then] at q
  refine h B ts vs ρ σ H _ r (q.imp (fun ss ρ1 q us H1 hl r1 => ?_) fun _ _ h => h.toP)
  match ss, us, hl, q, r1 with
  | [s, t], [v, w], _, q, r1 =>
    dsimp only at q
    split at q
    · rename_i s' t' e1 e2
      refine ⟨(by show 2 ≤ sizeLine; decide), fun p hp => ⟨p, [v, w], rfl, .inl (.inl upd_same), rfl, v, [w], rfl, w, [], rfl, rfl, ?_⟩⟩
      have r2 : Rep c B (some t :: some s :: ts) (some w :: some v :: vs) ρ1 σ H1 := r1
      have r3 := (r2.stS e2).set (i := j)
      have r4 := ((r3.stS e1).set (i := i)).extra (o := .tup [v, w]) hp rfl
      have q : EndP c B ts vs D .nx _ := q
      have e : (σ.set i (some v)).set j (some w) = (σ.set j (some w)).set i (some v) := List.set_comm _ _ hij
      rw [e]
      exact q _ _ r4
    · exact q.elim
theorem ds_parT3 {i j k : Nat} {oi oj ok : Bool} (hij : i ≠ j) (hik : i ≠ k) (hjk : j ≠ k) (h : DenP c W tA fP) : DenS c W (tAsg (tTup tA) (gTup c.K 3 (gCons (gName i) (gCons (gName j) (gCons (gName k) gNil))))) (mPar3 i oi j oj k ok fP) := fun B ts vs ρ σ H D r q => by
  unfold mPar3 at q
  rw [post_then] at q
  refine h B ts vs ρ σ H _ r (q.imp (fun ss ρ1 q us H1 hl r1 => ?_) fun _ _ h => h.toP)
  match ss, us, hl, q, r1 with
  | [s, t, u], [v, w, x], _, q, r1 =>
    dsimp only at q
    split at q
    · rename_i s' t' u' e1 e2 e3
      refine ⟨(by show 3 ≤ sizeLine; decide), fun p hp => ⟨p, [v, w, x], rfl, .inl (.inl upd_same), rfl, v, [w, x], rfl, w, [x], rfl, x, [], rfl, rfl, ?_⟩⟩
      have r2 : Rep c B (some u :: some t :: some s :: ts) (some x :: some w :: some v :: vs) ρ1 σ H1 := r1
      have r3 := (r2.stS e3).set (i := k)
      have r4 := (r3.stS e2).set (i := j)
      have r5 := ((r4.stS e1).set (i := i)).extra (o := .tup [v, w, x]) hp rfl
      have q : EndP c B ts vs D .nx _ := q
      have e : (((σ.set i (some v)).set j (some w)).set k (some x)) = (((σ.set k (some x)).set j (some w)).set i (some v)) := by
        rw [List.set_comm _ _ hjk, List.set_comm _ _ hik, List.set_comm _ _ hij]
      rw [e]
      exact q _ _ r5
    · exact q.elim
end
section
variable {X : Cx} {c : Cfg} {W : WX} {a b d e : Expr} {es : List Expr} {te : TE} {fe : M S} {tA : TA} {fP : M (List S)} {pos : Pos} {oi oj ok : Bool}
theorem s_parT2 (i : Nat) (oi : Bool) (j : Nat) (oj : Bool) {x y : Str} {px py pt : Pos} {kt k2 pt2} (hN : X.N.Nodup) (ha : QP X c W [a, b] tA fP) (hij : i ≠ j := by decide) (hc : X.calm = true := by rfl) (hi : X.N[i]? = some x := by rfl) (hj : X.N[j]? = some y := by rfl)
    (hx : Loc X.env.scope x := by first | exact Or.inl rfl | exact Or.inr rfl) (hy : Loc X.env.scope y := by first | exact Or.inl rfl | exact Or.inr rfl)
    (fx : X.fn x = true ∨ X.env.scope.names.lookup x = some .local := by first | exact Or.inl rfl | exact Or.inr rfl) (fy : X.fn y = true ∨ X.env.scope.names.lookup y = some .local := by first | exact Or.inl rfl | exact Or.inr rfl)
    (hs : swapsWithSole [.Tuple [.Name x px, .Name y py] kt pt] (.Tuple [a, b] k2 pt2) pos.line X.env = pure false := by rfl) (hw : swappedStores [.Tuple [.Name x px, .Name y py] kt pt] (.Tuple [a, b] k2 pt2) X.env = pure none := by rfl)
    (h1 : (assignEach [.Tuple [.Name x px, .Name y py] kt pt] X.env).map (·.2) = [assign (.Tuple [.Name x px, .Name y py] kt pt) X.env] := by rfl) (hn : (assignEach [.Name x px, .Name y py] X.env).length = 2 := by rfl) (hst : (assignEach [.Name x px, .Name y py] X.env).findIdx? (·.1) = none := by rfl)
    (hg : (assignEach [.Name x px, .Name y py] X.env).map (·.2) = assign (.Name x px) X.env :: (assignEach [.Name y py] X.env).map (·.2) := by rfl) (hg2 : (assignEach [.Name y py] X.env).map (·.2) = assign (.Name y py) X.env :: (assignEach [] X.env).map (·.2) := by rfl) (hK : X.K = c.K := by rfl) :
    QS X c W (.Assign [.Tuple [.Name x px, .Name y py] kt pt] (.Tuple [a, b] k2 pt2) pos) (tAsg (tTup tA) (gTup c.K 2 (gCons (gName i) (gCons (gName j) gNil)))) (mPar2 i oi j oj fP) := by
  obtain ⟨h2, h3⟩ := ha
  exact ⟨ps_asg (pe_tup h2) (hK ▸ pg_tup hc (pgs_cons (pg_name hN hi hx fx) (pgs_cons (pg_name hN hj hy fy) pgs_nil hg2) hg) hn hst) hs hw h1, ds_parT2 hij h3⟩
theorem s_parT3 (i : Nat) (oi : Bool) (j : Nat) (oj : Bool) (k : Nat) (ok : Bool) {x y z : Str} {px py pz pt : Pos} {kt k2 pt2} (hN : X.N.Nodup) (ha : QP X c W [a, b, d] tA fP) (hij : i ≠ j := by decide) (hik : i ≠ k := by decide) (hjk : j ≠ k := by decide) (hc : X.calm = true := by rfl) (hi : X.N[i]? = some x := by rfl) (hj : X.N[j]? = some y := by rfl) (hk : X.N[k]? = some z := by rfl)
    (hx : Loc X.env.scope x := by first | exact Or.inl rfl | exact Or.inr rfl) (hy : Loc X.env.scope y := by first | exact Or.inl rfl | exact Or.inr rfl) (hz : Loc X.env.scope z := by first | exact Or.inl rfl | exact Or.inr rfl)
    (fx : X.fn x = true ∨ X.env.scope.names.lookup x = some .local := by first | exact Or.inl rfl | exact Or.inr rfl) (fy : X.fn y = true ∨ X.env.scope.names.lookup y = some .local := by first | exact Or.inl rfl | exact Or.inr rfl) (fz : X.fn z = true ∨ X.env.scope.names.lookup z = some .local := by first | exact Or.inl rfl | exact Or.inr rfl)
    (hs : swapsWithSole [.Tuple [.Name x px, .Name y py, .Name z pz] kt pt] (.Tuple [a, b, d] k2 pt2) pos.line X.env = pure false := by rfl) (hw : swappedStores [.Tuple [.Name x px, .Name y py, .Name z pz] kt pt] (.Tuple [a, b, d] k2 pt2) X.env = pure none := by rfl)
    (h1 : (assignEach [.Tuple [.Name x px, .Name y py, .Name z pz] kt pt] X.env).map (·.2) = [assign (.Tuple [.Name x px, .Name y py, .Name z pz] kt pt) X.env] := by rfl) (hn : (assignEach [.Name x px, .Name y py, .Name z pz] X.env).length = 3 := by rfl) (hst : (assignEach [.Name x px, .Name y py, .Name z pz] X.env).findIdx? (·.1) = none := by rfl)
    (hg : (assignEach [.Name x px, .Name y py, .Name z pz] X.env).map (·.2) = assign (.Name x px) X.env :: (assignEach [.Name y py, .Name z pz] X.env).map (·.2) := by rfl) (hg2 : (assignEach [.Name y py, .Name z pz] X.env).map (·.2) = assign (.Name y py) X.env :: (assignEach [.Name z pz] X.env).map (·.2) := by rfl) (hg3 : (assignEach [.Name z pz] X.env).map (·.2) = assign (.Name z pz) X.env :: (assignEach [] X.env).map (·.2) := by rfl) (hK : X.K = c.K := by rfl) :
    QS X c W (.Assign [.Tuple [.Name x px, .Name y py, .Name z pz] kt pt] (.Tuple [a, b, d] k2 pt2) pos) (tAsg (tTup tA) (gTup c.K 3 (gCons (gName i) (gCons (gName j) (gCons (gName k) gNil))))) (mPar3 i oi j oj k ok fP) := by
  obtain ⟨h2, h3⟩ := ha
  exact ⟨ps_asg (pe_tup h2) (hK ▸ pg_tup hc (pgs_cons (pg_name hN hi hx fx) (pgs_cons (pg_name hN hj hy fy) (pgs_cons (pg_name hN hk hz fz) pgs_nil hg3) hg2) hg) hn hst) hs hw h1, ds_parT3 hij hik hjk h3⟩
end
end Fx

/-! sorted lists without repetition, the products' mirrors -/
namespace Rw
/-- u is what is in ls, ascending, once each -/
def Srt (u ls : List Int) : Prop := u.Pairwise (· < ·) ∧ ∀ k, k ∈ u ↔ k ∈ ls
theorem pw_nodup : ∀ {u : List Int}, u.Pairwise (· < ·) → u.Nodup
  | [], _ => List.nodup_nil
  | a :: u, h => by
    rw [List.pairwise_cons] at h
    rw [List.nodup_cons]
    exact ⟨fun m => Int.lt_irrefl _ (h.1 a m), pw_nodup h.2⟩
theorem srt_inj : ∀ {u v : List Int}, u.Pairwise (· < ·) → v.Pairwise (· < ·) → (∀ k, k ∈ u ↔ k ∈ v) → u = v
  | [], [], _, _, _ => rfl
  | [], b :: v, _, _, h => by have := (h b).mpr List.mem_cons_self; cases this
  | a :: u, [], _, _, h => by have := (h a).mp List.mem_cons_self; cases this
  | a :: u, b :: v, p, q, h => by
    rw [List.pairwise_cons] at p q
    have ab : a = b := by
      have h1 := (h a).mp List.mem_cons_self
      have h2 := (h b).mpr List.mem_cons_self
      rcases List.mem_cons.mp h1 with e | m1
      · exact e
      · rcases List.mem_cons.mp h2 with e | m2
        · exact e.symm
        · have := q.1 a m1
          have := p.1 b m2
          omega
    subst ab
    have : u = v := srt_inj p.2 q.2 fun k => by
      constructor
      · intro m
        rcases List.mem_cons.mp ((h k).mp (List.mem_cons_of_mem _ m)) with e | m'
        · have := p.1 k m
          omega
        · exact m'
      · intro m
        rcases List.mem_cons.mp ((h k).mpr (List.mem_cons_of_mem _ m)) with e | m'
        · have := q.1 k m
          omega
        · exact m'
    rw [this]
theorem Srt.inj {u v ls : List Int} (p : Srt u ls) (q : Srt v ls) : u = v := srt_inj p.1 q.1 fun k => (p.2 k).trans (q.2 k).symm
theorem len_sub : ∀ {l m : List Int}, l.Nodup → (∀ k ∈ l, k ∈ m) → l.length ≤ m.length
  | [], m, _, _ => Nat.zero_le _
  | a :: l, m, nd, h => by
    rw [List.nodup_cons] at nd
    have ha := h a List.mem_cons_self
    have := len_sub (l := l) (m := m.erase a) nd.2 fun k hk => by
      have ne : k ≠ a := fun e => nd.1 (e ▸ hk)
      exact (List.mem_erase_of_ne ne).mpr (h k (List.mem_cons_of_mem _ hk))
    have e := List.length_erase_of_mem ha
    have : 0 < m.length := List.length_pos_of_mem ha
    simp only [List.length_cons]
    omega
theorem Srt.card {u ls : List Int} {c : Nat} (p : Srt u ls) (q : Card ls c) : c = u.length := by
  obtain ⟨l, nd, m, rfl⟩ := q
  have h1 := len_sub nd fun k hk => (p.2 k).mpr ((m k).mp hk)
  have h2 := len_sub (pw_nodup p.1) fun k hk => (m k).mpr ((p.2 k).mp hk)
  omega
def ins (x : Int) : List Int → List Int
  | [] => [x]
  | y :: l => if x < y then x :: y :: l else if x = y then y :: l else y :: ins x l
theorem mem_ins {x k : Int} : ∀ {l : List Int}, k ∈ ins x l ↔ k = x ∨ k ∈ l
  | [] => by simp [ins]
  | y :: l => by
    unfold ins
    split
    · simp
    · split
      · rename_i e
        subst e
        simp
      · simp only [List.mem_cons, mem_ins]
        constructor
        · rintro (h | h | h) <;> simp [h]
        · rintro (h | h | h) <;> simp [h]
theorem pw_ins {x : Int} : ∀ {l : List Int}, l.Pairwise (· < ·) → (ins x l).Pairwise (· < ·)
  | [], _ => by simp [ins]
  | y :: l, h => by
    rw [List.pairwise_cons] at h
    unfold ins
    split
    · rename_i c
      rw [List.pairwise_cons, List.pairwise_cons]
      refine ⟨fun k hk => ?_, h⟩
      rcases List.mem_cons.mp hk with e | m
      · rw [e]; exact c
      · have := h.1 k m
        omega
    · split
      · rw [List.pairwise_cons]
        exact h
      · rw [List.pairwise_cons]
        refine ⟨fun k hk => ?_, pw_ins h.2⟩
        rcases mem_ins.mp hk with e | m
        · omega
        · exact h.1 k m
def uniq : List Int → List Int
  | [] => []
  | x :: l => ins x (uniq l)
theorem srt_uniq : ∀ ls, Srt (uniq ls) ls
  | [] => ⟨List.Pairwise.nil, fun _ => Iff.rfl⟩
  | x :: l => by
    obtain ⟨p, m⟩ := srt_uniq l
    refine ⟨pw_ins p, fun k => ?_⟩
    show k ∈ ins x (uniq l) ↔ _
    rw [mem_ins, m k, List.mem_cons]
theorem Srt.len {u ls : List Int} (p : Srt u ls) : u.length ≤ ls.length := len_sub (pw_nodup p.1) fun k hk => (p.2 k).mp hk
/-- the place of a level among the unlike ones -/
def plc (u : List Int) (x : Int) : Nat := u.idxOf x
theorem plc_lt {u : List Int} {x : Int} (h : x ∈ u) : plc u x < u.length := List.idxOf_lt_length_of_mem h
theorem plc_get {u : List Int} {x : Int} (h : x ∈ u) : u[plc u x]? = some x := by
  rw [List.getElem?_eq_getElem (plc_lt h)]
  simp [plc]
theorem plc_first {u : List Int} {x z : Int} {m : Nat} (h : m < plc u x) (e : u[m]? = some z) : z ≠ x := by
  intro zx
  subst zx
  have hm : m < u.length := (List.getElem?_eq_some_iff.mp e).1
  have e2 : u[m] = z := (List.getElem?_eq_some_iff.mp e).2
  have := List.not_of_lt_findIdx (p := fun y => y == z) (xs := u) (i := m) (by simpa [plc, List.idxOf] using h)
  simp [e2] at this
def places (u ls : List Int) : List Int := ls.map fun x => ((plc u x : Nat) : Int)
/-- the levels of the pairs -/
def pairLevels (u v ls ms : List Int) : List Int := (places u ls).flatMap fun a => (places v ms).map fun b => a * (v.length : Int) + b
def pairOf (m : Int) : Option Int → Option Int → Option Int
  | some a, some b => some (a * m + b)
  | _, _ => none
def pairTable (t u : List (Option Int)) : List (Option Int) := t.flatMap fun a => u.map fun b => pairOf (u.length : Int) a b
end Rw

/-! isinstance of a written pair of types -/
namespace Fx
open PySem PySem.Spec PyProof.Rows L2
def isTy2 (n m : String) (x : D) : Option Bool := match isTy n x with
  | some true => some true
  | some false => isTy m x
  | none => none
def gIsi2 (n m : String) (x : D) : Option S := (isTy2 n m x).bind fun b => ok1 (.bl b)
def mIsi2 (n m : String) (fe : M S) : M S := mUn (gIsi2 n m) fe
def tIsi2 (K : PySem.W.Frag) (n m : String) (te : TE) : TE := tCB (rIsiT K) (tCons te (tCons (tTup (tCons (tC (.ty n)) (tCons (tC (.ty m)) tNil))) tNil))
theorem isTy2_kit {K : PySem.W.Frag} {n m : String} {x : D} {b : Bool} (h : isTy2 n m x = some b) : ∃ t, tyD x = some t ∧ PySem.W.kitAny K (.type t) [.type n, .type m] = some b := by
  unfold isTy2 at h
  split at h
  · rename_i e
    cases h
    obtain ⟨t, t1, t2⟩ := isTy_kit e
    refine ⟨t, t1, ?_⟩
    unfold PySem.W.kitAny
    rw [kit_ty t2]
  · rename_i e
    obtain ⟨t, t1, t2⟩ := isTy_kit e
    obtain ⟨t', t1', t2'⟩ := isTy_kit h
    rw [t1] at t1'
    cases t1'
    refine ⟨t, t1, ?_⟩
    unfold PySem.W.kitAny
    rw [kit_ty t2]
    dsimp only
    unfold PySem.W.kitAny
    rw [kit_ty t2']
    cases b <;> rfl
  · cases h
theorem den_isi2 {c : Cfg} {W : WX} {n m : String} {te : TE} {fe : M S} (h : Den c W te fe) : Den c W (tIsi2 c.K n m te) (mIsi2 n m fe) := fun B ts vs ρ σ H Q r q => by
  unfold mIsi2 mUn at q
  rw [post_then] at q
  refine h.dv r (q.imp1 fun x ρ1 q v H1 r1 => ?_)
  unfold gIsi2 at q
  cases e : isTy2 n m x with
  | none => rw [e] at q; exact q.elim
  | some b =>
    rw [e] at q
    have q : OkP c B ts vs σ Q (.d (.bl b)) ρ1 := q
    obtain ⟨t, t1, t2⟩ := isTy2_kit (K := c.K) e
    obtain ⟨G, O, hv⟩ := r1.one
    refine ⟨by show 2 ≤ sizeLine; decide, fun p hp => ?_⟩
    have r2 := (r1.drop).foreign (o := .tup [.ty n, .ty m]) hp
    have hs : ∀ a o, G a = some o → upd H1 p (.tup [.ty n, .ty m]) a = some o := fun a o ea => by
      rw [upd_ne (ne_of_none (O.sub _ _ ea) hp)]
      exact O.sub _ _ ea
    exact ⟨v, p, [.ty n, .ty m], .type t, [.type n, .type m], b, rfl, upd_same, .cons (.ty n) (.cons (.ty m) .nil), hv.tyX hs t1, t2, q _ _ (Rep.repl (ds := []) (us := []) r2 rfl fun G _ => .bl b)⟩
section
variable {X : Cx} {c : Cfg} {W : WX} {e : Expr} {te : TE} {fe : M S} {pos p p1 p2 p3 : Pos} {x1 : Nat}
theorem q_isi2 {A B : Str} (n m : String) (hA : X.mg A = none) (hB : X.mg B = none) (hm : X.mg "isinstance" = none) (he : QE X c W e te fe) (hg : Gl X "isinstance" := by rfl) (hgA : Gl X A := by rfl) (hgB : Gl X B := by rfl)
    (hvA : bootBuiltins A = some (.type n) := by decide +kernel) (hvB : bootBuiltins B = some (.type m) := by decide +kernel) (hnA : A ≠ "__name__" := by decide) (hnB : B ≠ "__name__" := by decide) (hdA : (A == ("__debug__" : Str)) = false := by decide) (hdB : (B == ("__debug__" : Str)) = false := by decide)
    (hs : starEach [e, .Tuple [.Name A p1, .Name B p2] x1 p3] X.env = (false, eval e X.env) :: starEach [.Tuple [.Name A p1, .Name B p2] x1 p3] X.env := by rfl)
    (hs2 : starEach [.Tuple [.Name A p1, .Name B p2] x1 p3] X.env = (false, eval (.Tuple [.Name A p1, .Name B p2] x1 p3) X.env) :: starEach [] X.env := by rfl)
    (hs3 : starEach [.Name A p1, .Name B p2] X.env = (false, eval (.Name A p1) X.env) :: starEach [.Name B p2] X.env := by rfl)
    (hs4 : starEach [.Name B p2] X.env = (false, eval (.Name B p2) X.env) :: starEach [] X.env := by rfl)
    (hpl : (backTo pos (starEach [.Tuple [.Name A p1, .Name B p2] x1 p3] X.env)).any (·.1) = false := by rfl) (hK : X.K = c.K := by rfl) :
    QE X c W (.Call (.Name "isinstance" p) [e, .Tuple [.Name A p1, .Name B p2] x1 p3] [] pos) (tIsi2 c.K n m te) (mIsi2 n m fe) := by
  obtain ⟨h1, h2⟩ := he
  exact ⟨pe_callB (hK ▸ call_isiT) hg hm (by decide +kernel) (pa_cons h1 (pa_cons (pe_tup (pa_cons (pe_bltn (v := .ty n) hgA hA hvA rfl hnA hdA) (pa_cons (pe_bltn (v := .ty m) hgB hB hvB rfl hnB hdB) pa_nil hs4) hs3)) pa_nil hs2) hs) (by decide) (by decide) hs hpl, den_isi2 h2⟩
end
end Fx

/-! sets of a tuple's ints: sorted, counted; places in a list; the least of a tuple -/
namespace PySem
section
variable {prog : Program} {w : World} {A : Around} {E : Value → Shared → Prop} {s : Shared} {l : Addr} {xs : Array (Int × Tok)}
theorem min_intTup {Q : Value → Shared → Prop} (hh : A.handled = none) (hT : s.heap.IsTuple l (intItems xs)) (hne : 0 < xs.size)
    (h : ∀ v h' tk, (intItems xs)[argBest (fun i j => decide (numAt xs i < numAt xs j)) (xs.size - 1)]? = some v → (∀ b o, s.heap.get? b = some o → h'.get? b = some o) → Q v { s with heap := h', toks := tk }) :
    wpAny (model prog w) A (call (.builtin "min") [.ref l]) Q E s := by
  have hlt : l < s.heap.objs.size := by obtain ⟨_, e, _⟩ := hT; exact Heap.lt_size e
  refine call_min_walk (wpAny_pyIter_tuple hT ?_)
  refine ⟨_, [_, l], [_], _, _, _, _, rfl, Walks.tuple (A := A.in1) hh _ l (Nat.ne_of_lt hlt) (intItems xs), ⟨⟨_, Heap.get?_push_size _ rfl, rfl, rfl⟩, hT.push _⟩, fun c hc => ?_, by simpa [intItems] using hne, CmpOf.ints_lt (numAt xs) (fun _ _ => intItems_at), fun v h' tk hP hk => ?_⟩
  · show c < (s.heap.push _).objs.size
    rw [Heap.size_push]
    rcases List.mem_cons.mp hc with rfl | hc
    · exact Nat.lt_succ_self _
    · rcases List.mem_cons.mp hc with rfl | hc
      · exact Nat.lt_succ_of_lt hlt
      · cases hc
  · refine h v h' tk (by simpa [intItems] using hP) fun b o e => ?_
    refine hk b o (fun hm => ?_) (Heap.get?_push_of_some _ e)
    rcases List.mem_cons.mp hm with e1 | hm
    · exact absurd (e1 ▸ Heap.lt_size e) (Nat.lt_irrefl _)
    · cases hm
end
end PySem
namespace Fx
open PySem PySem.Spec PyProof.Rows L2
section
variable {X : Cx}
def rMinT (K : PySem.W.Frag) : List V → Hp → VK → Prop := fun vs H Q => ∃ (a : Addr) (ns : List Int), vs = [V.ref a] ∧ SqT K H a (ns.map V.int) ∧ 0 < ns.length ∧ ∀ m, m ∈ ns → (∀ y, y ∈ ns → m ≤ y) → Q (.int m) H
theorem cr_minT (hc : X.calm = true) : CallR X (.builtin "min") (rMinT X.K) := by
  rintro pins s σ H vs us Q I r ⟨a, ns, rfl, hs, hne, q⟩
  obtain ⟨u, rfl, ru⟩ := vals1 r
  cases ru
  obtain ⟨its, rv, pt, hz⟩ := I.tuple hs
  have hi : IntsAre its.toArray.toList ns := ints_of_vals rv
  have hl : s.heap.IsTuple a its.toArray := pt
  obtain ⟨xs, e⟩ := hi.allInts.items
  have hn : numsOf (intItems xs).toList = ns := by rw [← e]; exact hi.numsOf
  rw [nums_intItems] at hn
  subst hn
  rw [e] at hl
  have hsz : 0 < xs.size := by simpa using hne
  refine PySem.min_intTup (I.ok.hd hc) hl hsz fun v h' tk hv hk => ?_
  obtain ⟨t, rfl⟩ := intItems_at hv
  obtain ⟨h1, h2⟩ := argBest_lt (numAt xs) (xs.size - 1)
  refine ⟨.int _, H, I.kept hk, ⟨_, rfl⟩, q _ ?_ fun b hb => ?_⟩
  · rw [numAt_eq]; exact PySem.getD_mem (by rw [List.length_map, Array.length_toList]; omega)
  · obtain ⟨j, hj, rfl⟩ := mem_getD hb
    rw [List.length_map, Array.length_toList] at hj
    rw [← numAt_eq]; exact h2 j (by omega)
end
/-! ### on data -/
def gSetS (x : D) : Option S := match x with
  | .tup ds => match intsD ds with
    | some ns => if ns.length < 64 then some (.o none (.lst ((Rw.uniq ns).map D.int))) else none
    | none => none
  | _ => none
def gSetL (x : D) : Option S := match x with
  | .tup ds => match intsD ds with
    | some ns => if ns.length ≤ 1000 then ok1 (.int (Rw.uniq ns).length) else none
    | none => none
  | _ => none
def tSet (K : PySem.W.Frag) (w : World) (te : TE) : TE := tCB (Rw.rSetT K w) (tCons te tNil)
theorem den_setS {c : Cfg} {W : WX} {w : World} {te : TE} {fe : M S} (h : Den c W te fe) : Den c W (tCB (rSortedSet w) (tCons (tSet c.K w te) tNil)) (mUn gSetS fe) := fun B ts vs ρ σ H Q r q => by
  unfold mUn at q
  rw [post_then] at q
  refine h.dv r (q.imp1 fun x ρ1 q v H1 r1 => ?_)
  unfold gSetS at q
  split at q
  · rename_i s es
    split at es
    · rename_i ds
      split at es
      · rename_i ns en
        split at es
        · rename_i hn
          cases es
          obtain ⟨G, O, hv⟩ := r1.one
          obtain ⟨a, us, rfl, ha, ka⟩ := hv.tupE
          rw [RpAll.ints en ka] at ha
          refine ⟨a, ns, rfl, SqT.up O.sub ha, by omega, fun p n hp hl hc => ?_⟩
          obtain ⟨G2, O2, _⟩ := (r1.foreign (o := SetO w p (fun j => decide (j ∈ ns)) n) hp).one
          refine ⟨p, _, n, rfl, upd_same, by omega, fun ns' p2 pw hm hl' hp2 => ?_⟩
          have e : ns' = Rw.uniq ns := Rw.srt_inj pw (Rw.srt_uniq ns).1 fun k => by rw [hm k, (Rw.srt_uniq ns).2 k, decide_eq_true_eq]
          rw [e]
          exact q _ _ (O2.newO hp2 fun H' e => ⟨_, e, RpAll.ofInts _⟩)
        · cases es
      · cases es
    · cases es
  · exact q.elim
theorem den_setL {c : Cfg} {W : WX} {w : World} {te : TE} {fe : M S} (h : Den c W te fe) : Den c W (tCB (fun xs H Q => ∃ (a : Addr) (S : Int → Bool) (n : Nat), xs = [.ref a] ∧ H a = some (SetO w a S n) ∧ n ≤ 1000 ∧ Q (.int n) H) (tCons (tSet c.K w te) tNil)) (mUn gSetL fe) := fun B ts vs ρ σ H Q r q => by
  unfold mUn at q
  rw [post_then] at q
  refine h.dv r (q.imp1 fun x ρ1 q v H1 r1 => ?_)
  unfold gSetL at q
  split at q
  · rename_i s es
    split at es
    · rename_i ds
      split at es
      · rename_i ns en
        split at es
        · rename_i hn
          cases es
          obtain ⟨G, O, hv⟩ := r1.one
          obtain ⟨a, us, rfl, ha, ka⟩ := hv.tupE
          rw [RpAll.ints en ka] at ha
          refine ⟨a, ns, rfl, SqT.up O.sub ha, by omega, fun p n hp hl hc => ?_⟩
          obtain ⟨G2, O2, _⟩ := (r1.foreign (o := SetO w p (fun j => decide (j ∈ ns)) n) hp).one
          have e : n = (Rw.uniq ns).length := (Rw.srt_uniq ns).card hc
          refine ⟨p, _, n, rfl, upd_same, by omega, ?_⟩
          subst e
          exact q _ _ (O2.val (.int _))
        · cases es
      · cases es
    · cases es
  · exact q.elim
def gIndex (x y : D) : Option S := match x, y with
  | .lst ds, .int k => match intsD ds with
    | some ns => if k ∈ ns then ok1 (.int (Rw.plc ns k : Nat)) else none
    | none => none
  | _, _ => none
theorem flat_ints (ns : List Int) : (ns.map V.int).all flatV = true := by
  rw [List.all_eq_true]
  intro v hv
  obtain ⟨i, _, rfl⟩ := List.mem_map.mp hv
  rfl
def mIdx (fe ff : M S) : M S := fun ρ => (dv fe ρ).then fun x ρ1 => match x with
  | .lst ds => (dv ff ρ1).then fun y ρ2 => match gIndex (.lst ds) y with
    | some s => .ok s ρ2
    | none => .stuck
  | _ => .stuck
theorem den_index {c : Cfg} {W : WX} {te tf : TE} {fe ff : M S} (h : Den c W te fe) (k : Den c W tf ff) : Den c W (tBM c.K "list" (rIndex c.K) te (tCons tf tNil)) (mIdx fe ff) := fun B ts vs ρ σ H Q r q => by
  unfold mIdx at q
  rw [post_then] at q
  refine h.dv r (q.imp1 fun x ρ1 q v H1 r1 => ?_)
  split at q
  · rename_i ds
    obtain ⟨G, O, hv⟩ := r1.one
    obtain ⟨a, us, rfl, ha, ka⟩ := hv.lstE
    rw [post_then] at q
    refine ⟨.inl ⟨rfl, us, SqL.of (O.sub _ _ ha)⟩, k.dv r1 (q.imp (fun y ρ2 q w H2 r2 => ?_) fun _ _ h => h.drop)⟩
    split at q
    · rename_i s es
      unfold gIndex at es
      split at es
      · rename_i ds' k' e1
        cases e1
        split at es
        · rename_i ns en
          split at es
          · rename_i hk
            cases es
            obtain ⟨G2, O2, h1, h2⟩ := r2.two
            cases h2
            obtain ⟨a', us', e', ha', ka'⟩ := h1.lstE
            cases e'
            rw [RpAll.ints en ka'] at ha'
            have e3 := Rw.plc_get hk
            refine ⟨a, ns.map V.int, .int k', Rw.plc ns k', .int k', rfl, rfl, SqL.of (O2.sub _ _ ha'), rfl, flat_ints ns, ?_, ?_, fun m z hm hz => ?_, q _ _ (O2.val (.int _))⟩
            · rw [List.getElem?_map, e3]
              rfl
            · show (k' == k') = true
              exact beq_self_eq_true _
            · rw [List.getElem?_map] at hz
              obtain ⟨i, ei, rfl⟩ := Option.map_eq_some_iff.mp hz
              show (i == k') = false
              rw [beq_eq_false_iff_ne]
              exact Rw.plc_first hm ei
          · cases es
        · cases es
      · cases es
    · exact q.elim
  · exact q.elim
def gMinT : List D → Option S
  | [.tup ds] => match intsD ds with
    | some ns => match Rw.uniq ns with
      | m :: _ => ok1 (.int m)
      | [] => none
    | none => none
  | _ => none
theorem cd_minT {c : Cfg} : CbDen c (rMinT c.K) gMinT := by
  intro B ts vs ρ σ H Q ds us s hl r e q
  match ds, hl, r, e with
  | [.tup ds], hl, r, e =>
    obtain ⟨v, rfl, G, O, h⟩ := r.one' hl
    obtain ⟨a, xs, rfl, ha, ka⟩ := h.tupE
    have e : (match intsD ds with
      | some ns => match Rw.uniq ns with
        | m :: _ => ok1 (.int m)
        | [] => none
      | none => none) = some s := e
    cases en : intsD ds with
    | none => rw [en] at e; cases e
    | some ns =>
      rw [en] at e
      dsimp only at e
      cases eu : Rw.uniq ns with
      | nil => rw [eu] at e; cases e
      | cons m l =>
        rw [eu] at e
        cases e
        rw [RpAll.ints en ka] at ha
        have hs := Rw.srt_uniq ns
        rw [eu] at hs
        have hm : m ∈ ns := (hs.2 m).mp List.mem_cons_self
        refine ⟨a, ns, rfl, SqT.up O.sub ha, List.length_pos_of_mem hm, fun m' h1 h2 => ?_⟩
        have e3 : m' = m := by
          have g1 := h2 m hm
          rcases List.mem_cons.mp ((hs.2 m').mpr h1) with e | e
          · exact e
          · have := (List.pairwise_cons.mp hs.1).1 m' e
            omega
        subst e3
        exact q _ _ (O.val (.int _))
section
variable {X : Cx} {c : Cfg} {W : WX} {e f : Expr} {te tf : TE} {fe ff : M S} {pos p p2 p3 apos cpos : Pos}
theorem q_setS (hm1 : X.mg "sorted" = none) (hm2 : X.mg "set" = none) (he : QE X c W e te fe) (hc : X.calm = true := by rfl) (hg1 : Gl X "sorted" := by rfl) (hg2 : Gl X "set" := by rfl)
    (hs : starEach [.Call (.Name "set" p2) [e] [] p3] X.env = (false, eval (.Call (.Name "set" p2) [e] [] p3) X.env) :: starEach [] X.env := by rfl) (hpl : (backTo pos (starEach [] X.env)).any (·.1) = false := by rfl)
    (hs2 : starEach [e] X.env = (false, eval e X.env) :: starEach [] X.env := by rfl) (hpl2 : (backTo p3 (starEach [] X.env)).any (·.1) = false := by rfl) (hK : X.K = c.K := by rfl) :
    QE X c W (.Call (.Name "sorted" p) [.Call (.Name "set" p2) [e] [] p3] [] pos) (tCB (rSortedSet X.w) (tCons (tSet c.K X.w te) tNil)) (mUn gSetS fe) := by
  obtain ⟨h1, h2⟩ := he
  refine ⟨pe_callB (cr_sortedSet hc) hg1 hm1 (by decide +kernel) (pa_cons (pe_callTy (hK ▸ Rw.cr_setT hc) hg2 hm2 (by decide +kernel) (pa_cons h1 pa_nil hs2) (by decide) (by decide) hs2 hpl2) pa_nil hs) (by decide) (by decide) hs hpl, den_setS h2⟩
theorem q_setL (hm1 : X.mg "len" = none) (hm2 : X.mg "set" = none) (he : QE X c W e te fe) (hc : X.calm = true := by rfl) (hg1 : Gl X "len" := by rfl) (hg2 : Gl X "set" := by rfl)
    (hs : starEach [.Call (.Name "set" p2) [e] [] p3] X.env = (false, eval (.Call (.Name "set" p2) [e] [] p3) X.env) :: starEach [] X.env := by rfl) (hpl : (backTo pos (starEach [] X.env)).any (·.1) = false := by rfl)
    (hs2 : starEach [e] X.env = (false, eval e X.env) :: starEach [] X.env := by rfl) (hpl2 : (backTo p3 (starEach [] X.env)).any (·.1) = false := by rfl) (hK : X.K = c.K := by rfl) :
    QE X c W (.Call (.Name "len" p) [.Call (.Name "set" p2) [e] [] p3] [] pos) (tCB (fun xs H Q => ∃ (a : Addr) (S : Int → Bool) (n : Nat), xs = [.ref a] ∧ H a = some (SetO X.w a S n) ∧ n ≤ 1000 ∧ Q (.int n) H) (tCons (tSet c.K X.w te) tNil)) (mUn gSetL fe) := by
  obtain ⟨h1, h2⟩ := he
  refine ⟨pe_callB Rw.cr_lenSet hg1 hm1 PySem.boot_len (pa_cons (pe_callTy (hK ▸ Rw.cr_setT hc) hg2 hm2 (by decide +kernel) (pa_cons h1 pa_nil hs2) (by decide) (by decide) hs2 hpl2) pa_nil hs) (by decide) (by decide) hs hpl, den_setL h2⟩
theorem q_index (he : QE X c W e te fe) (hf : QE X c W f tf ff) (hbase : attributeBase e "index" X.env (eval e X.env) = eval e X.env := by rfl)
    (hfew : ((backTo cpos (starEach [f] X.env)).all (fun y => !y.1) && (backToKw cpos (keywordEach [] X.env)).all (fun y => y.1.isSome) && decide ([f].length + ([] : List Keyword).length + (if ([] : List Keyword).isEmpty then 0 else 1) < 30)) = true := by rfl) (hline : (apos.endLine == cpos.line) = true := by rfl)
    (hs : starEach [f] X.env = (false, eval f X.env) :: starEach [] X.env := by rfl) (hplain : (backTo cpos (starEach [] X.env)).any (·.1) = false := by rfl) (hK : X.K = c.K := by rfl) :
    QE X c W (.Call (.Attribute e "index" apos) [f] [] cpos) (tBM c.K "list" (rIndex c.K) te (tCons tf tNil)) (mIdx fe ff) := by
  obtain ⟨h1, h2⟩ := he
  obtain ⟨k1, k2⟩ := hf
  exact ⟨hK ▸ pe_bm PySem.F.plainAttrs_list PySem.F.slot_list_index PySem.F.type_list_index mt_index h1 (pa_cons k1 pa_nil hs) hbase hfew hline hs hplain, den_index h2 k2⟩
theorem b_minT (hc : X.calm = true := by rfl) (hK : X.K = c.K := by rfl) : QB X c "min" (rMinT c.K) gMinT := ⟨.inl ⟨_, hK ▸ cr_minT hc, by decide +kernel⟩, cd_minT⟩
end
end Fx

/-! what the printed texts name -/
namespace Fx
open PySem PySem.Spec PyProof.Rows L2
def noS : Stmt := .Pass ⟨0, 0, 0, 0⟩
def noE : Expr := .Name "" ⟨0, 0, 0, 0⟩
def sAt (ss : List Stmt) (i : Nat) : Stmt := ss.getD i noS
def valOf : Stmt → Expr
  | .Return (some e) _ => e
  | .Assign _ e _ => e
  | .Expr e _ => e
  | _ => noE
def argOf : Expr → Nat → Expr
  | .Call _ es _ _, i => es.getD i noE
  | _, _ => noE
def lamQ (q : Str) : Expr → LamS
  | .Lambda params body scope _ => ⟨q, params, body, scope⟩
  | e => ⟨q, default, e, default⟩
theorem QSs.out {X : Cx} {c : Cfg} {W : WX} {ss : List Stmt} {t : TS} {F : M Fl} (h : QSs X c W ss t F) : ∃ t, PSs X ss t ∧ DenS c W t F := ⟨t, h.pe, h.dn⟩
theorem QE.out {X : Cx} {c : Cfg} {W : WX} {e : Expr} {t : TE} {f : M S} (h : QE X c W e t f) : ∃ t, PE X e t ∧ Den c W t f := ⟨t, h.pe, h.dn⟩
end Fx

/-! the law's call -/
namespace Fx
open PySem PySem.Spec PyProof.Rows L2
open C8 (Cal Mak pe_c pe_mk)
open LamX (Tabs TabS TabB ExtN CodeO codeO_ne)
def spLawX (c : Cfg) : Sp := fun vs H Q _ => ∃ (a : Addr) (ns : List Int), vs = [.ref a] ∧ ns.length ≤ 63 ∧ SqL c.K H a (ns.map V.int) ∧ Tabs c.T H ∧ ∀ H', Q (.bl true) H'
def noTbl (H : Hp) : Hp := fun a => match H a with
  | some o => if isTbl o then none else some o
  | none => none
theorem noTbl_sub {H : Hp} : ∀ a o, noTbl H a = some o → H a = some o ∧ isTbl o = false := fun a o e => by
  unfold noTbl at e
  split at e
  · rename_i u h
    split at e
    · cases e
    · rename_i hb
      cases e
      exact ⟨h, by simpa using hb⟩
  · cases e
theorem noTbl_at {H : Hp} {a : Addr} {o : HO} (h : H a = some o) (n : isTbl o = false) : noTbl H a = some o := by
  unfold noTbl
  rw [h]
  simp [n]
theorem law_ok {P : Program} {w : World} {c : Cfg} {mg : Str → Option Value} {base : Heap} {CX : CXT} {k : Nat} {f : Addr} {fd : FuncData} {F : Fn} (pure : ∀ ns : List Int, ns.length ≤ 63 → ∃ ρ, F [.d (.scr ns)] = .ok (.d (.bl true)) ρ)
    (o : FnOk P w c.K mg base CX k f fd ["script"] (spF c F)) : FnOk P w c.K mg base CX k f fd ["script"] (spLawX c) := by
  refine o.imp fun vs H Q E h => ?_
  obtain ⟨a, ns, rfl, hl, hs, hT, q⟩ := h
  obtain ⟨ρ, e⟩ := pure ns hl
  refine ⟨⟨fun _ => none⟩, [], [], [.d (.scr ns)], ⟨noTbl H, [], [], ⟨fun a o e => (noTbl_sub a o e).1, fun a o e => (noTbl_sub a o e).2, List.nodup_nil, fun p hp => by simp at hp, hT⟩, .nil, .d (.scr ?_) .nil⟩, ?_⟩
  · rcases hs with (h | ⟨o, h⟩) | h
    · exact .inl (.inl (noTbl_at h rfl))
    · exact .inl (.inr ⟨o, noTbl_at h rfl⟩)
    · exact .inr h
  · rw [e]
    intro v σ' H' r
    obtain ⟨G, O, hv⟩ := r.one
    cases hv
    exact q H'
theorem cal_mk {P : Program} {w : World} {K : PySem.W.Frag} {mg : Str → Option Value} {base : Heap} {f : Addr} {fd : FuncData} {x : Str} {st : Stmt} {ps : List Str} {k : Nat} {sp : Sp} (F : Fun K x x st f fd) (hm : mg x = some (.ref f)) (b : Binds K fd ps []) (o : FnOk P w K mg base CX0 k f fd ps sp) : Cal P w K mg base k x sp [] := ⟨f, fd, ps, [], o, hm, F.kp, b, .nil⟩
theorem cal_mkC {P : Program} {w : World} {K : PySem.W.Frag} {mg : Str → Option Value} {base : Heap} {f c : Addr} {fd : FuncData} {x : Str} {st : Stmt} {ps : List Str} {k : Nat} {sp : Sp} (F : FunC K x x st f fd c) (hm : mg x = some (.ref f)) (b : Binds K fd ps []) (o : FnOk P w K mg base CX0 k f fd ps sp) : Cal P w K mg base k x sp [] := ⟨f, fd, ps, [], o, hm, F.kp, b, .nil⟩
theorem FunC.toFun {K : PySem.W.Frag} {x qual : Str} {st : Stmt} {f c : Addr} {fd : FuncData} (F : FunC K x qual st f fd c) : Fun K x qual st f fd := by
  obtain ⟨⟨oc, od, kV, doc, pm, an, ct, osl, e, lk, hcd⟩, kp⟩ := F
  exact ⟨⟨oc, od, kV, doc, pm, an, .ref c, ct, osl, e, lk, hcd⟩, kp⟩
end Fx

/-! running denotations: what a run that goes well gives -/
namespace Fx
open PySem
namespace R
/-- the run goes well and gives what P tells -/
def OKr {α : Type} (m : Out α) (P : α → En → Prop) : Prop := Post P (fun _ _ => False) m
/-- a call goes well -/
def OKFr (o : Out S) (K : S → Prop) : Prop := OKr o fun s _ => K s
section
variable {α β : Type} {P Q : α → En → Prop}
theorem ok_ok {a : α} {ρ : En} : OKr (.ok a ρ) P ↔ P a ρ := Iff.rfl
theorem ok_stuck : OKr (.stuck : Out α) P ↔ False := Iff.rfl
theorem ok_err {e : Err} {ρ : En} : OKr (.err e ρ : Out α) P ↔ False := Iff.rfl
theorem ok_then {m : Out α} {f : α → En → Out β} {P : β → En → Prop} : OKr (m.then f) P ↔ OKr m fun a ρ => OKr (f a ρ) P := post_then
theorem ok_ite {c : Prop} [Decidable c] {a b : Out α} : OKr (if c then a else b) P ↔ (c → OKr a P) ∧ (¬c → OKr b P) := by
  split
  · rename_i h
    exact ⟨fun k => ⟨fun _ => k, fun n => absurd h n⟩, fun k => k.1 h⟩
  · rename_i h
    exact ⟨fun k => ⟨fun n => absurd n h, fun _ => k⟩, fun k => k.2 h⟩
theorem OKr.imp {m : Out α} (h : OKr m P) (k : ∀ a ρ, P a ρ → Q a ρ) : OKr m Q := Post.imp h k fun _ _ h => h
theorem OKr.at {m : Out α} (h : OKr m P) : ∃ a ρ, m = .ok a ρ ∧ P a ρ := by
  cases m with
  | ok a ρ => exact ⟨a, ρ, rfl, h⟩
  | err e ρ => exact h.elim
  | stuck => exact h.elim
theorem ok_calm {m : Out α} : OKr m.calm P ↔ OKr m P := by
  cases m <;> exact Iff.rfl
theorem OKFr.imp {o : Out S} {K K' : S → Prop} (h : OKFr o K) (k : ∀ s, K s → K' s) : OKFr o K' := OKr.imp h fun s _ => k s
end
section
variable {ρ : En} {P : S → En → Prop} {PB : Bool → En → Prop} {PA : List D → En → Prop} {PF : Fl → En → Prop} {PU : Unit → En → Prop} {fa fb fe : M S} {fA : M (List D)} {ft fu : M Bool} {F G : M Fl}
/-- a value that stays -/
theorem ok_dv {f : M S} {K : D → En → Prop} : OKr (dv f ρ) K ↔ OKr (f ρ) fun s ρ' => ∃ x, toD s = some x ∧ K x ρ' := by
  unfold dv
  rw [ok_then]
  refine ⟨fun h => h.imp fun s ρ' k => ?_, fun h => h.imp fun s ρ' k => ?_⟩
  · cases e : toD s with
    | none => rw [e] at k; exact k.elim
    | some x => rw [e] at k; exact ⟨x, rfl, k⟩
  · obtain ⟨x, e, k⟩ := k
    rw [e]
    exact k
theorem ex_toD {x : D} {K : D → Prop} : (∃ y, toD (.d x) = some y ∧ K y) ↔ K x := ⟨fun ⟨y, e, k⟩ => by cases e; exact k, fun k => ⟨x, rfl, k⟩⟩
theorem ex_toL {ds : List D} {K : D → Prop} : (∃ y, toD (.o none (.lst ds)) = some y ∧ K y) ↔ K (.lst ds) := ⟨fun ⟨y, e, k⟩ => by cases e; exact k, fun k => ⟨_, rfl, k⟩⟩
theorem ok_c {x : D} : OKr (mC x ρ) P ↔ P (.d x) ρ := Iff.rfl
theorem ok_var {i : Nat} : OKr (mVar i ρ) P ↔ OKr (mVar i ρ) P := Iff.rfl
theorem ok_varD {i : Nat} {x : D} (e : ρ[i]? = some (some (.d x))) : OKr (mVar i ρ) P ↔ P (.d x) ρ := by
  unfold mVar
  rw [e]
  exact Iff.rfl
theorem ok_opt {α : Type} {o : Option α} {K : α → En → Prop} {ρ : En} : OKr (match o with
    | some s => .ok s ρ
    | none => .stuck) K ↔ ∃ s, o = some s ∧ K s ρ := by
  cases o with
  | none => exact ⟨fun h => h.elim, fun ⟨_, e, _⟩ => by cases e⟩
  | some s => exact ⟨fun h => ⟨s, rfl, h⟩, fun ⟨t, e, h⟩ => by cases e; exact h⟩
theorem ok_op {g : D → D → Option S} : OKr (mOp g fa fb ρ) P ↔ OKr (dv fa ρ) fun x ρ1 => OKr (dv fb ρ1) fun y ρ2 => ∃ s, g x y = some s ∧ P s ρ2 := by
  unfold mOp
  rw [ok_then]
  simp only [ok_then]
  constructor
  · exact fun h => h.imp fun x ρ1 h => h.imp fun y ρ2 h => (by
      cases e : g x y with
      | none => rw [e] at h; exact h.elim
      | some s => rw [e] at h; exact ⟨s, rfl, h⟩)
  · exact fun h => h.imp fun x ρ1 h => h.imp fun y ρ2 h => (by
      obtain ⟨s, e, k⟩ := h
      rw [e]
      exact k)
theorem ok_un {g : D → Option S} : OKr (mUn g fa ρ) P ↔ OKr (dv fa ρ) fun x ρ1 => ∃ s, g x = some s ∧ P s ρ1 := by
  unfold mUn
  rw [ok_then]
  constructor
  · exact fun h => h.imp fun x ρ1 h => (by
      cases e : g x with
      | none => rw [e] at h; exact h.elim
      | some s => rw [e] at h; exact ⟨s, rfl, h⟩)
  · exact fun h => h.imp fun x ρ1 h => (by
      obtain ⟨s, e, k⟩ := h
      rw [e]
      exact k)
theorem ok_nil : OKr (aNil ρ) PA ↔ PA [] ρ := Iff.rfl
theorem ok_cons {fr : M (List D)} : OKr (aCons fa fr ρ) PA ↔ OKr (dv fa ρ) fun x ρ1 => OKr (fr ρ1) fun ds ρ2 => PA (x :: ds) ρ2 := by
  unfold aCons
  simp only [ok_then, ok_ok]
theorem ok_cb {g : List D → Option S} : OKr (mCB g fA ρ) P ↔ OKr (fA ρ) fun ds ρ1 => ∃ s, g ds = some s ∧ P s ρ1 := by
  unfold mCB
  rw [ok_then]
  constructor
  · exact fun h => h.imp fun x ρ1 h => (by
      cases e : g x with
      | none => rw [e] at h; exact h.elim
      | some s => rw [e] at h; exact ⟨s, rfl, h⟩)
  · exact fun h => h.imp fun x ρ1 h => (by
      obtain ⟨s, e, k⟩ := h
      rw [e]
      exact k)
theorem ok_test : OKr (mTest fa ρ) PB ↔ OKr (dv fa ρ) fun x ρ1 => ∃ b, x = .bl b ∧ PB b ρ1 := by
  unfold mTest
  rw [ok_then]
  refine ⟨fun h => h.imp fun x ρ1 h => ?_, fun h => h.imp fun x ρ1 h => ?_⟩
  · cases x <;> first | exact h.elim | exact ⟨_, rfl, h⟩
  · obtain ⟨b, rfl, h⟩ := h
    exact h
theorem ex_bl {b : Bool} {K : Bool → Prop} : (∃ c, D.bl b = D.bl c ∧ K c) ↔ K b := ⟨fun ⟨c, e, k⟩ => by cases e; exact k, fun k => ⟨b, rfl, k⟩⟩
theorem ok_not : OKr (mNot ft ρ) PB ↔ OKr (ft ρ) fun b ρ1 => PB (!b) ρ1 := by
  unfold mNot
  simp only [ok_then, ok_ok]
theorem ok_and : OKr (mAnd ft fu ρ) PB ↔ OKr (ft ρ) fun b ρ1 => (b = true → OKr (fu ρ1) PB) ∧ (¬b = true → PB false ρ1) := by
  unfold mAnd
  simp only [ok_then, ok_ok, ok_ite]
theorem ok_or : OKr (mOr ft fu ρ) PB ↔ OKr (ft ρ) fun b ρ1 => (b = true → PB true ρ1) ∧ (¬b = true → OKr (fu ρ1) PB) := by
  unfold mOr
  simp only [ok_then, ok_ok, ok_ite]
theorem ok_andV : OKr (mAndV fa fb ρ) P ↔ OKr (mTest fa ρ) fun b ρ1 => (b = true → OKr (fb ρ1) P) ∧ (¬b = true → P (.d (.bl false)) ρ1) := by
  unfold mAndV
  simp only [ok_then, ok_ok, ok_ite]
theorem ok_orV : OKr (mOrV fa fb ρ) P ↔ OKr (mTest fa ρ) fun b ρ1 => (b = true → P (.d (.bl true)) ρ1) ∧ (¬b = true → OKr (fb ρ1) P) := by
  unfold mOrV
  simp only [ok_then, ok_ok, ok_ite]
theorem ok_notV : OKr (mNotV fa ρ) P ↔ OKr (mTest fa ρ) fun b ρ1 => P (.d (.bl (!b))) ρ1 := by
  unfold mNotV
  simp only [ok_then, ok_ok]
theorem ok_if : OKr (mIf ft fa fb ρ) P ↔ OKr (ft ρ) fun b ρ1 => (b = true → OKr (fa ρ1) P) ∧ (¬b = true → OKr (fb ρ1) P) := by
  unfold mIf
  simp only [ok_then, ok_ite]
theorem ok_yes : OKr (mYes ρ) PB ↔ PB true ρ := Iff.rfl
/-! statements -/
theorem ok_seq : OKr (mSeq F G ρ) PF ↔ OKr (F ρ) fun f ρ1 => (f = .nx → OKr (G ρ1) PF) ∧ (f ≠ .nx → PF f ρ1) := by
  unfold mSeq
  rw [ok_then]
  refine ⟨fun h => h.imp fun f ρ1 h => ?_, fun h => h.imp fun f ρ1 h => ?_⟩
  · cases f with
    | nx => exact ⟨fun _ => h, fun n => absurd rfl n⟩
    | rt s => exact ⟨fun e => (by cases e), fun _ => h⟩
    | bk => exact ⟨fun e => (by cases e), fun _ => h⟩
    | ct => exact ⟨fun e => (by cases e), fun _ => h⟩
  · cases f with
    | nx => exact h.1 rfl
    | rt s => exact h.2 (fun e => by cases e)
    | bk => exact h.2 (fun e => by cases e)
    | ct => exact h.2 (fun e => by cases e)
theorem fl_nx {A : Prop} {B : Prop} : ((Fl.nx = Fl.nx → A) ∧ (Fl.nx ≠ Fl.nx → B)) ↔ A := ⟨fun h => h.1 rfl, fun h => ⟨fun _ => h, fun n => absurd rfl n⟩⟩
theorem fl_rt {s : S} {A : Prop} {B : Prop} : ((Fl.rt s = Fl.nx → A) ∧ (Fl.rt s ≠ Fl.nx → B)) ↔ B := ⟨fun h => h.2 (fun e => by cases e), fun h => ⟨fun e => (by cases e), fun _ => h⟩⟩
theorem fl_bk {A : Prop} {B : Prop} : ((Fl.bk = Fl.nx → A) ∧ (Fl.bk ≠ Fl.nx → B)) ↔ B := ⟨fun h => h.2 (fun e => by cases e), fun h => ⟨fun e => (by cases e), fun _ => h⟩⟩
theorem fl_ct {A : Prop} {B : Prop} : ((Fl.ct = Fl.nx → A) ∧ (Fl.ct ≠ Fl.nx → B)) ↔ B := ⟨fun h => h.2 (fun e => by cases e), fun h => ⟨fun e => (by cases e), fun _ => h⟩⟩
theorem ok_nx : OKr (mNx ρ) PF ↔ PF .nx ρ := Iff.rfl
theorem ok_bk : OKr (mBk ρ) PF ↔ PF .bk ρ := Iff.rfl
theorem ok_ct : OKr (mCt ρ) PF ↔ PF .ct ρ := Iff.rfl
theorem ok_st : OKr (mSt ρ) PF ↔ False := Iff.rfl
theorem ok_ret : OKr (mRet fa ρ) PF ↔ OKr (fa ρ) fun s ρ1 => PF (.rt s) ρ1 := by
  unfold mRet
  simp only [ok_then, ok_ok]
theorem ok_retN : OKr (mRetN ρ) PF ↔ PF (.rt (.d .non)) ρ := Iff.rfl
theorem ok_ifS : OKr (mIfS ft F G ρ) PF ↔ OKr (ft ρ) fun b ρ1 => (b = true → OKr (F ρ1) PF) ∧ (¬b = true → OKr (G ρ1) PF) := by
  unfold mIfS
  simp only [ok_then, ok_ite]
theorem ok_drop : OKr (mDrop fa ρ) PF ↔ OKr (fa ρ) fun _ ρ1 => PF .nx ρ1 := by
  unfold mDrop
  simp only [ok_then, ok_ok]
theorem ok_asg {g : D → M Unit} : OKr (mAsg fa g ρ) PF ↔ OKr (dv fa ρ) fun x ρ1 => OKr (g x ρ1) fun _ ρ2 => PF .nx ρ2 := by
  unfold mAsg
  simp only [ok_then, ok_ok]
theorem ok_gname {i : Nat} {x : D} : OKr (gmName i x ρ) PU ↔ PU () (ρ.set i (some (.d x))) := Iff.rfl
theorem ok_call {f : Fn} : OKr (mCall f fA ρ) P ↔ OKr (fA ρ) fun ds ρ1 => OKFr (f (ds.map .d)) fun s => bare s = true ∧ P s ρ1 := by
  unfold mCall
  rw [ok_then]
  refine ⟨fun h => h.imp fun ds ρ1 h => ?_, fun h => h.imp fun ds ρ1 h => ?_⟩
  · cases e : f (ds.map .d) with
    | stuck => rw [e] at h; exact h.elim
    | err _ _ => rw [e] at h; exact h.elim
    | ok s ρ' =>
      rw [e] at h
      dsimp only at h
      rw [ok_ite] at h
      by_cases hb : bare s = true
      · exact ⟨hb, h.1 hb⟩
      · exact (h.2 hb).elim
  · obtain ⟨s, ρ', e, hb, k⟩ := h.at
    rw [e]
    dsimp only
    rw [if_pos hb]
    exact k
theorem okF_runF {np nN : Nat} {body : M Fl} {args : List S} {K : S → Prop} : OKFr (runF np nN body args) K ↔ args.length = np ∧ OKr (body (args.map some ++ List.replicate (nN - np) none)) fun f _ => (∃ s, f = .rt s ∧ K s) ∨ (f = .nx ∧ K (.d .non)) := by
  unfold OKFr runF
  by_cases ha : args.length = np
  · rw [if_pos ha]
    cases e : body (args.map some ++ List.replicate (nN - np) none) with
    | stuck => exact ⟨fun h => h.elim, fun h => h.2.elim⟩
    | err _ _ => exact ⟨fun h => h.elim, fun h => h.2.elim⟩
    | ok f ρ' =>
      cases f with
      | rt s => exact ⟨fun h => ⟨ha, .inl ⟨s, rfl, h⟩⟩, fun h => by
          rcases h.2 with ⟨t, e, k⟩ | ⟨e, k⟩
          · cases e; exact k
          · cases e⟩
      | nx => exact ⟨fun h => ⟨ha, .inr ⟨rfl, h⟩⟩, fun h => by
          rcases h.2 with ⟨t, e, k⟩ | ⟨e, k⟩
          · cases e
          · exact k⟩
      | bk => exact ⟨fun h => h.elim, fun h => by
          rcases h.2 with ⟨t, e, k⟩ | ⟨e, k⟩ <;> cases e⟩
      | ct => exact ⟨fun h => h.elim, fun h => by
          rcases h.2 with ⟨t, e, k⟩ | ⟨e, k⟩ <;> cases e⟩
  · rw [if_neg ha]
    exact ⟨fun h => h.elim, fun h => absurd h.1 ha⟩
theorem ok_runF {np nN : Nat} {body : M Fl} {args : List S} {K : S → En → Prop} (ha : args.length = np) (h : OKr (body (args.map some ++ List.replicate (nN - np) none)) fun f ρ => (∃ s, f = .rt s ∧ K s ρ) ∨ (f = .nx ∧ K (.d .non) ρ)) : OKr (runF np nN body args) K := by
  unfold runF
  rw [if_pos ha]
  obtain ⟨f, ρ', e, h⟩ := h.at
  rw [e]
  rcases h with ⟨t, rfl, k⟩ | ⟨rfl, k⟩
  · exact k
  · exact k
theorem rt_or {s : S} {K : S → Prop} : ((∃ t, Fl.rt s = .rt t ∧ K t) ∨ (Fl.rt s = .nx ∧ K (.d .non))) ↔ K s := by
  constructor
  · rintro (⟨t, e, k⟩ | ⟨e, _⟩)
    · cases e; exact k
    · cases e
  · exact fun h => .inl ⟨s, rfl, h⟩
theorem nx_or {K : S → Prop} : ((∃ t, Fl.nx = .rt t ∧ K t) ∨ (Fl.nx = .nx ∧ K (.d .non))) ↔ K (.d .non) := by
  constructor
  · rintro (⟨t, e, k⟩ | ⟨_, k⟩)
    · cases e
    · exact k
  · exact fun h => .inr ⟨rfl, h⟩
theorem okF_runL {np nN : Nat} {fe : M S} {args : List S} {K : S → Prop} : OKFr (runL np nN fe args) K ↔ args.length = np ∧ OKr (fe (args.map some ++ List.replicate (nN - np) none)) fun s _ => K s := by
  unfold OKFr runL
  by_cases ha : args.length = np
  · rw [if_pos ha]
    exact ⟨fun h => ⟨ha, h⟩, fun h => h.2⟩
  · rw [if_neg ha]
    exact ⟨fun h => h.elim, fun h => absurd h.1 ha⟩
/-! loops by what they keep -/
theorem ok_loop {gm : D → M Unit} {F : M Fl} {I : Nat → En → Prop} {PF : Fl → En → Prop} : ∀ {items : List D} {k : Nat} {ρ : En}, I k ρ →
    (∀ i x ρ, items[i]? = some x → I (k + i) ρ → OKr (gm x ρ) fun _ ρ1 => OKr (F ρ1) fun f ρ2 => (f = .nx ∨ f = .ct → I (k + i + 1) ρ2) ∧ (f = .bk → PF .nx ρ2) ∧ ∀ s, f = .rt s → PF (.rt s) ρ2) →
    (∀ ρ, I (k + items.length) ρ → PF .nx ρ) → OKr (mLoop gm F items ρ) PF
  | [], k, ρ, h, _, e => e ρ h
  | x :: xs, k, ρ, h, st, e => by
    show OKr ((gm x ρ).then fun _ ρ1 => (F ρ1).then fun f ρ2 => _) PF
    rw [ok_then]
    refine (st 0 x ρ rfl h).imp fun _ ρ1 h1 => ?_
    rw [ok_then]
    refine h1.imp fun f ρ2 ⟨a, b, d⟩ => ?_
    have st' : ∀ i y ρ, xs[i]? = some y → I (k + 1 + i) ρ → OKr (gm y ρ) fun _ ρ1 => OKr (F ρ1) fun f ρ2 => (f = .nx ∨ f = .ct → I (k + 1 + i + 1) ρ2) ∧ (f = .bk → PF .nx ρ2) ∧ ∀ s, f = .rt s → PF (.rt s) ρ2 := fun i y ρ hy hi => by
      have := st (i + 1) y ρ (by simpa using hy) (by rw [show k + (i + 1) = k + 1 + i by omega]; exact hi)
      rw [show k + (i + 1) + 1 = k + 1 + i + 1 by omega] at this
      exact this
    have e' : ∀ ρ, I (k + 1 + xs.length) ρ → PF .nx ρ := fun ρ h => e ρ (by rw [List.length_cons, show k + (xs.length + 1) = k + 1 + xs.length by omega]; exact h)
    cases f with
    | nx => exact ok_loop (k := k + 1) (a (.inl rfl)) st' e'
    | ct => exact ok_loop (k := k + 1) (a (.inr rfl)) st' e'
    | bk => exact b rfl
    | rt s => exact d s rfl
theorem ok_for {fI : M (List D)} {gm : D → M Unit} {F : M Fl} {PF : Fl → En → Prop} : OKr (mFor fI gm F ρ) PF ↔ OKr (fI ρ) fun items ρ1 => OKr (mLoop gm F items ρ1) PF := by
  unfold mFor
  rw [ok_then]
theorem ok_comp {gm : D → M Unit} {ft : M Bool} {fe : M S} {own : List Nat} {I : Nat → List D → En → Prop} {PL : List D → En → Prop} : ∀ {items : List D} {k : Nat} {acc : List D} {ρ : En}, I k acc ρ →
    (∀ i x acc ρ, items[i]? = some x → I (k + i) acc ρ → OKr (gm x ρ) fun _ ρ1 => OKr (ft ρ1) fun b ρ2 => (b = true → OKr (dv fe ρ2) fun y ρ3 => small (acc.length + 1) = true ∧ I (k + i + 1) (acc ++ [y]) (wipeE ρ3 own)) ∧ (¬b = true → I (k + i + 1) acc (wipeE ρ2 own))) →
    (∀ acc ρ, I (k + items.length) acc ρ → PL acc ρ) → OKr (mComp gm ft fe own items acc ρ) PL
  | [], k, acc, ρ, h, _, e => e acc ρ h
  | x :: xs, k, acc, ρ, h, st, e => by
    show OKr ((gm x ρ).calm.then fun _ ρ1 => (ft ρ1).calm.then fun b ρ2 => _) PL
    rw [ok_then, ok_calm]
    refine (st 0 x acc ρ rfl h).imp fun _ ρ1 h1 => ?_
    rw [ok_then, ok_calm]
    have st' : ∀ i y acc ρ, xs[i]? = some y → I (k + 1 + i) acc ρ → OKr (gm y ρ) fun _ ρ1 => OKr (ft ρ1) fun b ρ2 => (b = true → OKr (dv fe ρ2) fun y ρ3 => small (acc.length + 1) = true ∧ I (k + 1 + i + 1) (acc ++ [y]) (wipeE ρ3 own)) ∧ (¬b = true → I (k + 1 + i + 1) acc (wipeE ρ2 own)) := fun i y acc ρ hy hi => by
      have := st (i + 1) y acc ρ (by simpa using hy) (by rw [show k + (i + 1) = k + 1 + i by omega]; exact hi)
      rw [show k + (i + 1) + 1 = k + 1 + i + 1 by omega] at this
      exact this
    have e' : ∀ acc ρ, I (k + 1 + xs.length) acc ρ → PL acc ρ := fun acc ρ h => e acc ρ (by rw [List.length_cons, show k + (xs.length + 1) = k + 1 + xs.length by omega]; exact h)
    refine h1.imp fun b ρ2 ⟨a, d⟩ => ?_
    by_cases hb : b = true
    · rw [if_pos hb, ok_then, ok_calm]
      refine (a hb).imp fun y ρ3 ⟨hz, h⟩ => ?_
      rw [if_pos hz]
      exact ok_comp (k := k + 1) h st' e'
    · rw [if_neg hb]
      exact ok_comp (k := k + 1) (d hb) st' e'
theorem ok_lc {fI : M (List D)} {gm : D → M Unit} {ft : M Bool} {fe : M S} {own : List Nat} : OKr (mLc fI gm ft fe own ρ) P ↔ OKr (fI ρ) fun items ρ1 => OKr (mComp gm ft fe own items [] (wipeE ρ1 own)) fun ds ρ2 => P (.o none (.lst ds)) ρ2 := by
  unfold mLc
  simp only [ok_then, ok_ok]
theorem ok_tup : OKr (mTup fA ρ) P ↔ OKr (fA ρ) fun ds ρ1 => small ds.length = true ∧ P (.d (.tup ds)) ρ1 := by
  unfold mTup
  rw [ok_then]
  refine ⟨fun h => h.imp fun ds ρ1 h => ?_, fun h => h.imp fun ds ρ1 h => ?_⟩
  · by_cases hz : small ds.length = true
    · rw [if_pos hz] at h
      exact ⟨hz, h⟩
    · rw [if_neg hz] at h
      exact h.elim
  · rw [if_pos h.1]
    exact h.2
end
end R
/-- the run goes well and gives what P tells -/
@[irreducible] def OK {α : Type} (m : Out α) (P : α → En → Prop) : Prop := R.OKr m P
@[irreducible] def OKF (o : Out S) (K : S → Prop) : Prop := R.OKFr o K
theorem ok_eq : @OK = @R.OKr := by
  funext α m P
  unfold OK
  rfl
theorem okF_eq : @OKF = @R.OKFr := by
  funext o K
  unfold OKF
  rfl
theorem ok_of {α : Type} {m : Out α} {P : α → En → Prop} (h : R.OKr m P) : OK m P := by
  rw [ok_eq]
  exact h
theorem ok_out {α : Type} {m : Out α} {P : α → En → Prop} (h : OK m P) : R.OKr m P := by
  rw [ok_eq] at h
  exact h
theorem okF {o : Out S} {K : S → Prop} : OKF o K ↔ OK o fun s _ => K s := by
  rw [ok_eq, okF_eq]
  exact Iff.rfl
section
variable {α β : Type} {P Q : α → En → Prop}
theorem ok_ok {a : α} {ρ : En} : OK (.ok a ρ) P ↔ P a ρ := by
  first | exact R.ok_ok | skip
  all_goals (try simp only [okF_eq, ok_eq] at *)
  all_goals first | exact R.ok_ok | exact R.ok_ok (by assumption) | exact R.ok_ok (by assumption) (by assumption) | exact R.ok_ok (by assumption) (by assumption) (by assumption) | apply R.ok_ok <;> assumption
theorem ok_stuck : OK (.stuck : Out α) P ↔ False := by
  first | exact R.ok_stuck | skip
  all_goals (try simp only [okF_eq, ok_eq] at *)
  all_goals first | exact R.ok_stuck | exact R.ok_stuck (by assumption) | exact R.ok_stuck (by assumption) (by assumption) | exact R.ok_stuck (by assumption) (by assumption) (by assumption) | apply R.ok_stuck <;> assumption
theorem ok_err {e : Err} {ρ : En} : OK (.err e ρ : Out α) P ↔ False := by
  first | exact R.ok_err | skip
  all_goals (try simp only [okF_eq, ok_eq] at *)
  all_goals first | exact R.ok_err | exact R.ok_err (by assumption) | exact R.ok_err (by assumption) (by assumption) | exact R.ok_err (by assumption) (by assumption) (by assumption) | apply R.ok_err <;> assumption
theorem ok_then {m : Out α} {f : α → En → Out β} {P : β → En → Prop} : OK (m.then f) P ↔ OK m fun a ρ => OK (f a ρ) P := by
  first | exact R.ok_then | skip
  all_goals (try simp only [okF_eq, ok_eq] at *)
  all_goals first | exact R.ok_then | exact R.ok_then (by assumption) | exact R.ok_then (by assumption) (by assumption) | exact R.ok_then (by assumption) (by assumption) (by assumption) | apply R.ok_then <;> assumption
theorem ok_ite {c : Prop} [Decidable c] {a b : Out α} : OK (if c then a else b) P ↔ (c → OK a P) ∧ (¬c → OK b P) := by
  first | exact R.ok_ite | skip
  all_goals (try simp only [okF_eq, ok_eq] at *)
  all_goals first | exact R.ok_ite | exact R.ok_ite (by assumption) | exact R.ok_ite (by assumption) (by assumption) | exact R.ok_ite (by assumption) (by assumption) (by assumption) | apply R.ok_ite <;> assumption
theorem OK.imp {m : Out α} (h : OK m P) (k : ∀ a ρ, P a ρ → Q a ρ) : OK m Q := by
  first | exact R.OKr.imp | skip
  all_goals (try simp only [okF_eq, ok_eq] at *)
  all_goals first | exact R.OKr.imp | exact R.OKr.imp (by assumption) | exact R.OKr.imp (by assumption) (by assumption) | exact R.OKr.imp (by assumption) (by assumption) (by assumption) | apply R.OKr.imp <;> assumption
theorem OK.at {m : Out α} (h : OK m P) : ∃ a ρ, m = .ok a ρ ∧ P a ρ := by
  first | exact R.OKr.at | skip
  all_goals (try simp only [okF_eq, ok_eq] at *)
  all_goals first | exact R.OKr.at | exact R.OKr.at (by assumption) | exact R.OKr.at (by assumption) (by assumption) | exact R.OKr.at (by assumption) (by assumption) (by assumption) | apply R.OKr.at <;> assumption
theorem ok_calm {m : Out α} : OK m.calm P ↔ OK m P := by
  first | exact R.ok_calm | skip
  all_goals (try simp only [okF_eq, ok_eq] at *)
  all_goals first | exact R.ok_calm | exact R.ok_calm (by assumption) | exact R.ok_calm (by assumption) (by assumption) | exact R.ok_calm (by assumption) (by assumption) (by assumption) | apply R.ok_calm <;> assumption
theorem OKF.imp {o : Out S} {K K' : S → Prop} (h : OKF o K) (k : ∀ s, K s → K' s) : OKF o K' := by
  first | exact R.OKFr.imp | skip
  all_goals (try simp only [okF_eq, ok_eq] at *)
  all_goals first | exact R.OKFr.imp | exact R.OKFr.imp (by assumption) | exact R.OKFr.imp (by assumption) (by assumption) | exact R.OKFr.imp (by assumption) (by assumption) (by assumption) | apply R.OKFr.imp <;> assumption
end
section
variable {ρ : En} {P : S → En → Prop} {PB : Bool → En → Prop} {PA : List D → En → Prop} {PF : Fl → En → Prop} {PU : Unit → En → Prop} {fa fb fe : M S} {fA : M (List D)} {ft fu : M Bool} {F G : M Fl}
theorem ok_dv {f : M S} {K : D → En → Prop} : OK (dv f ρ) K ↔ OK (f ρ) fun s ρ' => ∃ x, toD s = some x ∧ K x ρ' := by
  first | exact R.ok_dv | skip
  all_goals (try simp only [okF_eq, ok_eq] at *)
  all_goals first | exact R.ok_dv | exact R.ok_dv (by assumption) | exact R.ok_dv (by assumption) (by assumption) | exact R.ok_dv (by assumption) (by assumption) (by assumption) | apply R.ok_dv <;> assumption
theorem ex_toD {x : D} {K : D → Prop} : (∃ y, toD (.d x) = some y ∧ K y) ↔ K x := by
  first | exact R.ex_toD | skip
  all_goals (try simp only [okF_eq, ok_eq] at *)
  all_goals first | exact R.ex_toD | exact R.ex_toD (by assumption) | exact R.ex_toD (by assumption) (by assumption) | exact R.ex_toD (by assumption) (by assumption) (by assumption) | apply R.ex_toD <;> assumption
theorem ex_toL {ds : List D} {K : D → Prop} : (∃ y, toD (.o none (.lst ds)) = some y ∧ K y) ↔ K (.lst ds) := by
  first | exact R.ex_toL | skip
  all_goals (try simp only [okF_eq, ok_eq] at *)
  all_goals first | exact R.ex_toL | exact R.ex_toL (by assumption) | exact R.ex_toL (by assumption) (by assumption) | exact R.ex_toL (by assumption) (by assumption) (by assumption) | apply R.ex_toL <;> assumption
theorem ok_c {x : D} : OK (mC x ρ) P ↔ P (.d x) ρ := by
  first | exact R.ok_c | skip
  all_goals (try simp only [okF_eq, ok_eq] at *)
  all_goals first | exact R.ok_c | exact R.ok_c (by assumption) | exact R.ok_c (by assumption) (by assumption) | exact R.ok_c (by assumption) (by assumption) (by assumption) | apply R.ok_c <;> assumption
theorem ok_var {i : Nat} : OK (mVar i ρ) P ↔ OK (mVar i ρ) P := by
  first | exact R.ok_var | skip
  all_goals (try simp only [okF_eq, ok_eq] at *)
  all_goals first | exact R.ok_var | exact R.ok_var (by assumption) | exact R.ok_var (by assumption) (by assumption) | exact R.ok_var (by assumption) (by assumption) (by assumption) | apply R.ok_var <;> assumption
theorem ok_varD {i : Nat} {x : D} (e : ρ[i]? = some (some (.d x))) : OK (mVar i ρ) P ↔ P (.d x) ρ := by
  first | exact R.ok_varD | skip
  all_goals (try simp only [okF_eq, ok_eq] at *)
  all_goals first | exact R.ok_varD | exact R.ok_varD (by assumption) | exact R.ok_varD (by assumption) (by assumption) | exact R.ok_varD (by assumption) (by assumption) (by assumption) | apply R.ok_varD <;> assumption
theorem ok_opt {α : Type} {o : Option α} {K : α → En → Prop} {ρ : En} : OK (match o with
    | some s => .ok s ρ
    | none => .stuck) K ↔ ∃ s, o = some s ∧ K s ρ := by
  first | exact R.ok_opt | skip
  all_goals (try simp only [okF_eq, ok_eq] at *)
  all_goals first | exact R.ok_opt | exact R.ok_opt (by assumption) | exact R.ok_opt (by assumption) (by assumption) | exact R.ok_opt (by assumption) (by assumption) (by assumption) | apply R.ok_opt <;> assumption
theorem ok_op {g : D → D → Option S} : OK (mOp g fa fb ρ) P ↔ OK (dv fa ρ) fun x ρ1 => OK (dv fb ρ1) fun y ρ2 => ∃ s, g x y = some s ∧ P s ρ2 := by
  first | exact R.ok_op | skip
  all_goals (try simp only [okF_eq, ok_eq] at *)
  all_goals first | exact R.ok_op | exact R.ok_op (by assumption) | exact R.ok_op (by assumption) (by assumption) | exact R.ok_op (by assumption) (by assumption) (by assumption) | apply R.ok_op <;> assumption
theorem ok_un {g : D → Option S} : OK (mUn g fa ρ) P ↔ OK (dv fa ρ) fun x ρ1 => ∃ s, g x = some s ∧ P s ρ1 := by
  first | exact R.ok_un | skip
  all_goals (try simp only [okF_eq, ok_eq] at *)
  all_goals first | exact R.ok_un | exact R.ok_un (by assumption) | exact R.ok_un (by assumption) (by assumption) | exact R.ok_un (by assumption) (by assumption) (by assumption) | apply R.ok_un <;> assumption
theorem ok_nil : OK (aNil ρ) PA ↔ PA [] ρ := by
  first | exact R.ok_nil | skip
  all_goals (try simp only [okF_eq, ok_eq] at *)
  all_goals first | exact R.ok_nil | exact R.ok_nil (by assumption) | exact R.ok_nil (by assumption) (by assumption) | exact R.ok_nil (by assumption) (by assumption) (by assumption) | apply R.ok_nil <;> assumption
theorem ok_cons {fr : M (List D)} : OK (aCons fa fr ρ) PA ↔ OK (dv fa ρ) fun x ρ1 => OK (fr ρ1) fun ds ρ2 => PA (x :: ds) ρ2 := by
  first | exact R.ok_cons | skip
  all_goals (try simp only [okF_eq, ok_eq] at *)
  all_goals first | exact R.ok_cons | exact R.ok_cons (by assumption) | exact R.ok_cons (by assumption) (by assumption) | exact R.ok_cons (by assumption) (by assumption) (by assumption) | apply R.ok_cons <;> assumption
theorem ok_cb {g : List D → Option S} : OK (mCB g fA ρ) P ↔ OK (fA ρ) fun ds ρ1 => ∃ s, g ds = some s ∧ P s ρ1 := by
  first | exact R.ok_cb | skip
  all_goals (try simp only [okF_eq, ok_eq] at *)
  all_goals first | exact R.ok_cb | exact R.ok_cb (by assumption) | exact R.ok_cb (by assumption) (by assumption) | exact R.ok_cb (by assumption) (by assumption) (by assumption) | apply R.ok_cb <;> assumption
theorem ok_test : OK (mTest fa ρ) PB ↔ OK (dv fa ρ) fun x ρ1 => ∃ b, x = .bl b ∧ PB b ρ1 := by
  first | exact R.ok_test | skip
  all_goals (try simp only [okF_eq, ok_eq] at *)
  all_goals first | exact R.ok_test | exact R.ok_test (by assumption) | exact R.ok_test (by assumption) (by assumption) | exact R.ok_test (by assumption) (by assumption) (by assumption) | apply R.ok_test <;> assumption
theorem ex_bl {b : Bool} {K : Bool → Prop} : (∃ c, D.bl b = D.bl c ∧ K c) ↔ K b := by
  first | exact R.ex_bl | skip
  all_goals (try simp only [okF_eq, ok_eq] at *)
  all_goals first | exact R.ex_bl | exact R.ex_bl (by assumption) | exact R.ex_bl (by assumption) (by assumption) | exact R.ex_bl (by assumption) (by assumption) (by assumption) | apply R.ex_bl <;> assumption
theorem ok_not : OK (mNot ft ρ) PB ↔ OK (ft ρ) fun b ρ1 => PB (!b) ρ1 := by
  first | exact R.ok_not | skip
  all_goals (try simp only [okF_eq, ok_eq] at *)
  all_goals first | exact R.ok_not | exact R.ok_not (by assumption) | exact R.ok_not (by assumption) (by assumption) | exact R.ok_not (by assumption) (by assumption) (by assumption) | apply R.ok_not <;> assumption
theorem ok_and : OK (mAnd ft fu ρ) PB ↔ OK (ft ρ) fun b ρ1 => (b = true → OK (fu ρ1) PB) ∧ (¬b = true → PB false ρ1) := by
  first | exact R.ok_and | skip
  all_goals (try simp only [okF_eq, ok_eq] at *)
  all_goals first | exact R.ok_and | exact R.ok_and (by assumption) | exact R.ok_and (by assumption) (by assumption) | exact R.ok_and (by assumption) (by assumption) (by assumption) | apply R.ok_and <;> assumption
theorem ok_or : OK (mOr ft fu ρ) PB ↔ OK (ft ρ) fun b ρ1 => (b = true → PB true ρ1) ∧ (¬b = true → OK (fu ρ1) PB) := by
  first | exact R.ok_or | skip
  all_goals (try simp only [okF_eq, ok_eq] at *)
  all_goals first | exact R.ok_or | exact R.ok_or (by assumption) | exact R.ok_or (by assumption) (by assumption) | exact R.ok_or (by assumption) (by assumption) (by assumption) | apply R.ok_or <;> assumption
theorem ok_andV : OK (mAndV fa fb ρ) P ↔ OK (mTest fa ρ) fun b ρ1 => (b = true → OK (fb ρ1) P) ∧ (¬b = true → P (.d (.bl false)) ρ1) := by
  first | exact R.ok_andV | skip
  all_goals (try simp only [okF_eq, ok_eq] at *)
  all_goals first | exact R.ok_andV | exact R.ok_andV (by assumption) | exact R.ok_andV (by assumption) (by assumption) | exact R.ok_andV (by assumption) (by assumption) (by assumption) | apply R.ok_andV <;> assumption
theorem ok_orV : OK (mOrV fa fb ρ) P ↔ OK (mTest fa ρ) fun b ρ1 => (b = true → P (.d (.bl true)) ρ1) ∧ (¬b = true → OK (fb ρ1) P) := by
  first | exact R.ok_orV | skip
  all_goals (try simp only [okF_eq, ok_eq] at *)
  all_goals first | exact R.ok_orV | exact R.ok_orV (by assumption) | exact R.ok_orV (by assumption) (by assumption) | exact R.ok_orV (by assumption) (by assumption) (by assumption) | apply R.ok_orV <;> assumption
theorem ok_notV : OK (mNotV fa ρ) P ↔ OK (mTest fa ρ) fun b ρ1 => P (.d (.bl (!b))) ρ1 := by
  first | exact R.ok_notV | skip
  all_goals (try simp only [okF_eq, ok_eq] at *)
  all_goals first | exact R.ok_notV | exact R.ok_notV (by assumption) | exact R.ok_notV (by assumption) (by assumption) | exact R.ok_notV (by assumption) (by assumption) (by assumption) | apply R.ok_notV <;> assumption
theorem ok_if : OK (mIf ft fa fb ρ) P ↔ OK (ft ρ) fun b ρ1 => (b = true → OK (fa ρ1) P) ∧ (¬b = true → OK (fb ρ1) P) := by
  first | exact R.ok_if | skip
  all_goals (try simp only [okF_eq, ok_eq] at *)
  all_goals first | exact R.ok_if | exact R.ok_if (by assumption) | exact R.ok_if (by assumption) (by assumption) | exact R.ok_if (by assumption) (by assumption) (by assumption) | apply R.ok_if <;> assumption
theorem ok_yes : OK (mYes ρ) PB ↔ PB true ρ := by
  first | exact R.ok_yes | skip
  all_goals (try simp only [okF_eq, ok_eq] at *)
  all_goals first | exact R.ok_yes | exact R.ok_yes (by assumption) | exact R.ok_yes (by assumption) (by assumption) | exact R.ok_yes (by assumption) (by assumption) (by assumption) | apply R.ok_yes <;> assumption
/-! statements -/
theorem ok_seq : OK (mSeq F G ρ) PF ↔ OK (F ρ) fun f ρ1 => (f = .nx → OK (G ρ1) PF) ∧ (f ≠ .nx → PF f ρ1) := by
  first | exact R.ok_seq | skip
  all_goals (try simp only [okF_eq, ok_eq] at *)
  all_goals first | exact R.ok_seq | exact R.ok_seq (by assumption) | exact R.ok_seq (by assumption) (by assumption) | exact R.ok_seq (by assumption) (by assumption) (by assumption) | apply R.ok_seq <;> assumption
theorem fl_nx {A : Prop} {B : Prop} : ((Fl.nx = Fl.nx → A) ∧ (Fl.nx ≠ Fl.nx → B)) ↔ A := by
  first | exact R.fl_nx | skip
  all_goals (try simp only [okF_eq, ok_eq] at *)
  all_goals first | exact R.fl_nx | exact R.fl_nx (by assumption) | exact R.fl_nx (by assumption) (by assumption) | exact R.fl_nx (by assumption) (by assumption) (by assumption) | apply R.fl_nx <;> assumption
theorem fl_rt {s : S} {A : Prop} {B : Prop} : ((Fl.rt s = Fl.nx → A) ∧ (Fl.rt s ≠ Fl.nx → B)) ↔ B := by
  first | exact R.fl_rt | skip
  all_goals (try simp only [okF_eq, ok_eq] at *)
  all_goals first | exact R.fl_rt | exact R.fl_rt (by assumption) | exact R.fl_rt (by assumption) (by assumption) | exact R.fl_rt (by assumption) (by assumption) (by assumption) | apply R.fl_rt <;> assumption
theorem fl_bk {A : Prop} {B : Prop} : ((Fl.bk = Fl.nx → A) ∧ (Fl.bk ≠ Fl.nx → B)) ↔ B := by
  first | exact R.fl_bk | skip
  all_goals (try simp only [okF_eq, ok_eq] at *)
  all_goals first | exact R.fl_bk | exact R.fl_bk (by assumption) | exact R.fl_bk (by assumption) (by assumption) | exact R.fl_bk (by assumption) (by assumption) (by assumption) | apply R.fl_bk <;> assumption
theorem fl_ct {A : Prop} {B : Prop} : ((Fl.ct = Fl.nx → A) ∧ (Fl.ct ≠ Fl.nx → B)) ↔ B := by
  first | exact R.fl_ct | skip
  all_goals (try simp only [okF_eq, ok_eq] at *)
  all_goals first | exact R.fl_ct | exact R.fl_ct (by assumption) | exact R.fl_ct (by assumption) (by assumption) | exact R.fl_ct (by assumption) (by assumption) (by assumption) | apply R.fl_ct <;> assumption
theorem ok_nx : OK (mNx ρ) PF ↔ PF .nx ρ := by
  first | exact R.ok_nx | skip
  all_goals (try simp only [okF_eq, ok_eq] at *)
  all_goals first | exact R.ok_nx | exact R.ok_nx (by assumption) | exact R.ok_nx (by assumption) (by assumption) | exact R.ok_nx (by assumption) (by assumption) (by assumption) | apply R.ok_nx <;> assumption
theorem ok_bk : OK (mBk ρ) PF ↔ PF .bk ρ := by
  first | exact R.ok_bk | skip
  all_goals (try simp only [okF_eq, ok_eq] at *)
  all_goals first | exact R.ok_bk | exact R.ok_bk (by assumption) | exact R.ok_bk (by assumption) (by assumption) | exact R.ok_bk (by assumption) (by assumption) (by assumption) | apply R.ok_bk <;> assumption
theorem ok_ct : OK (mCt ρ) PF ↔ PF .ct ρ := by
  first | exact R.ok_ct | skip
  all_goals (try simp only [okF_eq, ok_eq] at *)
  all_goals first | exact R.ok_ct | exact R.ok_ct (by assumption) | exact R.ok_ct (by assumption) (by assumption) | exact R.ok_ct (by assumption) (by assumption) (by assumption) | apply R.ok_ct <;> assumption
theorem ok_st : OK (mSt ρ) PF ↔ False := by
  first | exact R.ok_st | skip
  all_goals (try simp only [okF_eq, ok_eq] at *)
  all_goals first | exact R.ok_st | exact R.ok_st (by assumption) | exact R.ok_st (by assumption) (by assumption) | exact R.ok_st (by assumption) (by assumption) (by assumption) | apply R.ok_st <;> assumption
theorem ok_ret : OK (mRet fa ρ) PF ↔ OK (fa ρ) fun s ρ1 => PF (.rt s) ρ1 := by
  first | exact R.ok_ret | skip
  all_goals (try simp only [okF_eq, ok_eq] at *)
  all_goals first | exact R.ok_ret | exact R.ok_ret (by assumption) | exact R.ok_ret (by assumption) (by assumption) | exact R.ok_ret (by assumption) (by assumption) (by assumption) | apply R.ok_ret <;> assumption
theorem ok_retN : OK (mRetN ρ) PF ↔ PF (.rt (.d .non)) ρ := by
  first | exact R.ok_retN | skip
  all_goals (try simp only [okF_eq, ok_eq] at *)
  all_goals first | exact R.ok_retN | exact R.ok_retN (by assumption) | exact R.ok_retN (by assumption) (by assumption) | exact R.ok_retN (by assumption) (by assumption) (by assumption) | apply R.ok_retN <;> assumption
theorem ok_ifS : OK (mIfS ft F G ρ) PF ↔ OK (ft ρ) fun b ρ1 => (b = true → OK (F ρ1) PF) ∧ (¬b = true → OK (G ρ1) PF) := by
  first | exact R.ok_ifS | skip
  all_goals (try simp only [okF_eq, ok_eq] at *)
  all_goals first | exact R.ok_ifS | exact R.ok_ifS (by assumption) | exact R.ok_ifS (by assumption) (by assumption) | exact R.ok_ifS (by assumption) (by assumption) (by assumption) | apply R.ok_ifS <;> assumption
theorem ok_drop : OK (mDrop fa ρ) PF ↔ OK (fa ρ) fun _ ρ1 => PF .nx ρ1 := by
  first | exact R.ok_drop | skip
  all_goals (try simp only [okF_eq, ok_eq] at *)
  all_goals first | exact R.ok_drop | exact R.ok_drop (by assumption) | exact R.ok_drop (by assumption) (by assumption) | exact R.ok_drop (by assumption) (by assumption) (by assumption) | apply R.ok_drop <;> assumption
theorem ok_asg {g : D → M Unit} : OK (mAsg fa g ρ) PF ↔ OK (dv fa ρ) fun x ρ1 => OK (g x ρ1) fun _ ρ2 => PF .nx ρ2 := by
  first | exact R.ok_asg | skip
  all_goals (try simp only [okF_eq, ok_eq] at *)
  all_goals first | exact R.ok_asg | exact R.ok_asg (by assumption) | exact R.ok_asg (by assumption) (by assumption) | exact R.ok_asg (by assumption) (by assumption) (by assumption) | apply R.ok_asg <;> assumption
theorem ok_gname {i : Nat} {x : D} : OK (gmName i x ρ) PU ↔ PU () (ρ.set i (some (.d x))) := by
  first | exact R.ok_gname | skip
  all_goals (try simp only [okF_eq, ok_eq] at *)
  all_goals first | exact R.ok_gname | exact R.ok_gname (by assumption) | exact R.ok_gname (by assumption) (by assumption) | exact R.ok_gname (by assumption) (by assumption) (by assumption) | apply R.ok_gname <;> assumption
theorem ok_call {f : Fn} : OK (mCall f fA ρ) P ↔ OK (fA ρ) fun ds ρ1 => OKF (f (ds.map .d)) fun s => bare s = true ∧ P s ρ1 := by
  first | exact R.ok_call | skip
  all_goals (try simp only [okF_eq, ok_eq] at *)
  all_goals first | exact R.ok_call | exact R.ok_call (by assumption) | exact R.ok_call (by assumption) (by assumption) | exact R.ok_call (by assumption) (by assumption) (by assumption) | apply R.ok_call <;> assumption
theorem okF_runF {np nN : Nat} {body : M Fl} {args : List S} {K : S → Prop} : OKF (runF np nN body args) K ↔ args.length = np ∧ OK (body (args.map some ++ List.replicate (nN - np) none)) fun f _ => (∃ s, f = .rt s ∧ K s) ∨ (f = .nx ∧ K (.d .non)) := by
  first | exact R.okF_runF | skip
  all_goals (try simp only [okF_eq, ok_eq] at *)
  all_goals first | exact R.okF_runF | exact R.okF_runF (by assumption) | exact R.okF_runF (by assumption) (by assumption) | exact R.okF_runF (by assumption) (by assumption) (by assumption) | apply R.okF_runF <;> assumption
theorem ok_runF {np nN : Nat} {body : M Fl} {args : List S} {K : S → En → Prop} (ha : args.length = np) (h : OK (body (args.map some ++ List.replicate (nN - np) none)) fun f ρ => (∃ s, f = .rt s ∧ K s ρ) ∨ (f = .nx ∧ K (.d .non) ρ)) : OK (runF np nN body args) K := by
  first | exact R.ok_runF | skip
  all_goals (try simp only [okF_eq, ok_eq] at *)
  all_goals first | exact R.ok_runF | exact R.ok_runF (by assumption) | exact R.ok_runF (by assumption) (by assumption) | exact R.ok_runF (by assumption) (by assumption) (by assumption) | apply R.ok_runF <;> assumption
theorem rt_or {s : S} {K : S → Prop} : ((∃ t, Fl.rt s = .rt t ∧ K t) ∨ (Fl.rt s = .nx ∧ K (.d .non))) ↔ K s := by
  first | exact R.rt_or | skip
  all_goals (try simp only [okF_eq, ok_eq] at *)
  all_goals first | exact R.rt_or | exact R.rt_or (by assumption) | exact R.rt_or (by assumption) (by assumption) | exact R.rt_or (by assumption) (by assumption) (by assumption) | apply R.rt_or <;> assumption
theorem nx_or {K : S → Prop} : ((∃ t, Fl.nx = .rt t ∧ K t) ∨ (Fl.nx = .nx ∧ K (.d .non))) ↔ K (.d .non) := by
  first | exact R.nx_or | skip
  all_goals (try simp only [okF_eq, ok_eq] at *)
  all_goals first | exact R.nx_or | exact R.nx_or (by assumption) | exact R.nx_or (by assumption) (by assumption) | exact R.nx_or (by assumption) (by assumption) (by assumption) | apply R.nx_or <;> assumption
theorem okF_runL {np nN : Nat} {fe : M S} {args : List S} {K : S → Prop} : OKF (runL np nN fe args) K ↔ args.length = np ∧ OK (fe (args.map some ++ List.replicate (nN - np) none)) fun s _ => K s := by
  first | exact R.okF_runL | skip
  all_goals (try simp only [okF_eq, ok_eq] at *)
  all_goals first | exact R.okF_runL | exact R.okF_runL (by assumption) | exact R.okF_runL (by assumption) (by assumption) | exact R.okF_runL (by assumption) (by assumption) (by assumption) | apply R.okF_runL <;> assumption
/-! loops by what they keep -/
theorem ok_loop {gm : D → M Unit} {F : M Fl} {I : Nat → En → Prop} {PF : Fl → En → Prop} : ∀ {items : List D} {k : Nat} {ρ : En}, I k ρ →
    (∀ i x ρ, items[i]? = some x → I (k + i) ρ → OK (gm x ρ) fun _ ρ1 => OK (F ρ1) fun f ρ2 => (f = .nx ∨ f = .ct → I (k + i + 1) ρ2) ∧ (f = .bk → PF .nx ρ2) ∧ ∀ s, f = .rt s → PF (.rt s) ρ2) →
    (∀ ρ, I (k + items.length) ρ → PF .nx ρ) → OK (mLoop gm F items ρ) PF := by
  first | exact R.ok_loop | skip
  all_goals (try simp only [okF_eq, ok_eq] at *)
  all_goals first | exact R.ok_loop | exact R.ok_loop (by assumption) | exact R.ok_loop (by assumption) (by assumption) | exact R.ok_loop (by assumption) (by assumption) (by assumption) | apply R.ok_loop <;> assumption
theorem ok_for {fI : M (List D)} {gm : D → M Unit} {F : M Fl} {PF : Fl → En → Prop} : OK (mFor fI gm F ρ) PF ↔ OK (fI ρ) fun items ρ1 => OK (mLoop gm F items ρ1) PF := by
  first | exact R.ok_for | skip
  all_goals (try simp only [okF_eq, ok_eq] at *)
  all_goals first | exact R.ok_for | exact R.ok_for (by assumption) | exact R.ok_for (by assumption) (by assumption) | exact R.ok_for (by assumption) (by assumption) (by assumption) | apply R.ok_for <;> assumption
theorem ok_comp {gm : D → M Unit} {ft : M Bool} {fe : M S} {own : List Nat} {I : Nat → List D → En → Prop} {PL : List D → En → Prop} : ∀ {items : List D} {k : Nat} {acc : List D} {ρ : En}, I k acc ρ →
    (∀ i x acc ρ, items[i]? = some x → I (k + i) acc ρ → OK (gm x ρ) fun _ ρ1 => OK (ft ρ1) fun b ρ2 => (b = true → OK (dv fe ρ2) fun y ρ3 => small (acc.length + 1) = true ∧ I (k + i + 1) (acc ++ [y]) (wipeE ρ3 own)) ∧ (¬b = true → I (k + i + 1) acc (wipeE ρ2 own))) →
    (∀ acc ρ, I (k + items.length) acc ρ → PL acc ρ) → OK (mComp gm ft fe own items acc ρ) PL := by
  first | exact R.ok_comp | skip
  all_goals (try simp only [okF_eq, ok_eq] at *)
  all_goals first | exact R.ok_comp | exact R.ok_comp (by assumption) | exact R.ok_comp (by assumption) (by assumption) | exact R.ok_comp (by assumption) (by assumption) (by assumption) | apply R.ok_comp <;> assumption
theorem ok_lc {fI : M (List D)} {gm : D → M Unit} {ft : M Bool} {fe : M S} {own : List Nat} : OK (mLc fI gm ft fe own ρ) P ↔ OK (fI ρ) fun items ρ1 => OK (mComp gm ft fe own items [] (wipeE ρ1 own)) fun ds ρ2 => P (.o none (.lst ds)) ρ2 := by
  first | exact R.ok_lc | skip
  all_goals (try simp only [okF_eq, ok_eq] at *)
  all_goals first | exact R.ok_lc | exact R.ok_lc (by assumption) | exact R.ok_lc (by assumption) (by assumption) | exact R.ok_lc (by assumption) (by assumption) (by assumption) | apply R.ok_lc <;> assumption
theorem ok_tup : OK (mTup fA ρ) P ↔ OK (fA ρ) fun ds ρ1 => small ds.length = true ∧ P (.d (.tup ds)) ρ1 := by
  first | exact R.ok_tup | skip
  all_goals (try simp only [okF_eq, ok_eq] at *)
  all_goals first | exact R.ok_tup | exact R.ok_tup (by assumption) | exact R.ok_tup (by assumption) (by assumption) | exact R.ok_tup (by assumption) (by assumption) (by assumption) | apply R.ok_tup <;> assumption
end

end Fx

/-! the checks and the draws, on data -/
namespace Fx
open PySem
namespace R
theorem ok_chain {g g' : D → D → Option S} {fa fb fc : M S} {ρ : En} {P : S → En → Prop} : OKr (mChain g g' fa fb fc ρ) P ↔ OKr (dv fa ρ) fun x ρ1 => OKr (dv fb ρ1) fun y ρ2 => ∃ b, g x y = some (.d (.bl b)) ∧ (b = true → OKr (dv fc ρ2) fun z ρ3 => ∃ s, g' y z = some s ∧ P s ρ3) ∧ (¬b = true → P (.d (.bl false)) ρ2) := by
  unfold mChain
  simp only [ok_then]
  constructor
  · exact fun h => h.imp fun x ρ1 h => h.imp fun y ρ2 h => by
      split at h
      · rename_i e
        refine ⟨true, e, fun _ => ?_, fun n => absurd rfl n⟩
        rw [ok_then] at h
        refine h.imp fun z ρ3 h => ?_
        cases e : g' y z with
        | none => rw [e] at h; exact h.elim
        | some s => rw [e] at h; exact ⟨s, rfl, h⟩
      · rename_i e
        exact ⟨false, e, fun n => (by cases n), fun _ => h⟩
      · exact h.elim
  · exact fun h => h.imp fun x ρ1 h => h.imp fun y ρ2 h => by
      obtain ⟨b, e, h1, h2⟩ := h
      rw [e]
      cases b with
      | true =>
        dsimp only
        rw [ok_then]
        refine (h1 rfl).imp fun z ρ3 h => ?_
        obtain ⟨s, e, k⟩ := h
        rw [e]
        exact k
      | false => exact h2 (by decide)
end R
theorem ok_chain {g g' : D → D → Option S} {fa fb fc : M S} {ρ : En} {P : S → En → Prop} : OK (mChain g g' fa fb fc ρ) P ↔ OK (dv fa ρ) fun x ρ1 => OK (dv fb ρ1) fun y ρ2 => ∃ b, g x y = some (.d (.bl b)) ∧ (b = true → OK (dv fc ρ2) fun z ρ3 => ∃ s, g' y z = some s ∧ P s ρ3) ∧ (¬b = true → P (.d (.bl false)) ρ2) := by
  simp only [ok_eq]
  exact R.ok_chain
theorem ex_some {α : Type} {a : α} {K : α → Prop} : (∃ s, some a = some s ∧ K s) ↔ K a := ⟨fun ⟨s, e, k⟩ => by cases e; exact k, fun k => ⟨a, rfl, k⟩⟩
theorem ex_bl1 {b : Bool} {K : Bool → Prop} : (∃ c, some (S.d (.bl b)) = some (S.d (.bl c)) ∧ K c) ↔ K b := ⟨fun ⟨s, e, k⟩ => by cases e; exact k, fun k => ⟨b, rfl, k⟩⟩
section
variable {k : Nat} {fe : M S} {items : List D} {ρ0 : En} {f : D → D} {PL : List D → En → Prop}
/-- a comprehension whose element is told of its item alone -/
theorem ok_map (hw : ρ0.set k none = ρ0) (st : ∀ x ∈ items, OK (dv fe (ρ0.set k (some (.d x)))) fun y ρ3 => y = f x ∧ ρ3.set k none = ρ0) (hs : items.length ≤ 16777216) (q : PL (items.map f) ρ0) : OK (mComp (gmName k) mYes fe [k] items [] ρ0) PL := by
  refine ok_comp (I := fun i acc ρ => acc = (items.take i).map f ∧ ρ = ρ0) (k := 0) ⟨rfl, rfl⟩ ?_ ?_
  · rintro i x acc ρ hx ⟨rfl, rfl⟩
    have hi : i < items.length := (List.getElem?_eq_some_iff.mp hx).1
    rw [ok_gname, ok_yes]
    refine ⟨fun _ => ?_, fun n => absurd rfl n⟩
    refine (st x (List.mem_of_getElem? hx)).imp fun y ρ3 ⟨e1, e2⟩ => ⟨?_, ?_, ?_⟩
    · rw [List.length_map, List.length_take, Nat.zero_add, Nat.min_eq_left (Nat.le_of_lt hi)]
      exact decide_eq_true (by omega)
    · rw [e1, Nat.zero_add, List.take_add_one, hx, List.map_append]
      rfl
    · exact e2
  · rintro acc ρ ⟨rfl, rfl⟩
    rw [Nat.zero_add, List.take_length]
    exact q
end
theorem blsD_map {α : Type} {g : α → Bool} : ∀ xs : List α, blsD (xs.map fun x => D.bl (g x)) = some (xs.map g)
  | [] => rfl
  | x :: xs => by
    show (blsD (xs.map fun x => D.bl (g x))).map (g x :: ·) = _
    rw [blsD_map xs]
    rfl
section
variable {x0 x1 x2 x3 : D}
theorem at0 : L2.atI [x0, x1, x2, x3] 0 = some x0 := rfl
theorem at1 : L2.atI [x0, x1, x2, x3] 1 = some x1 := rfl
theorem at2 : L2.atI [x0, x1, x2, x3] 2 = some x2 := rfl
theorem at3 : L2.atI [x0, x1, x2, x3] 3 = some x3 := rfl
theorem ix1 : L2.ixN 4 1 = some 1 := rfl
theorem ix2 : L2.ixN 4 2 = some 2 := rfl
theorem ix3 : L2.ixN 4 3 = some 3 := rfl
end
/-- a law's row of draws -/
def rowD (ns : List Int) (a b c : Int) : D := .lst [.scr ns, .int a, .int b, .int c]
def RowOk (a b c : Int) : Prop := 0 ≤ a ∧ 0 ≤ b ∧ b < 2147483647 ∧ 0 ≤ c
section
variable {K : S → Prop} {i j : Int}
theorem e_add : (∃ s, gAdd (.int i) (.int j) = some s ∧ K s) ↔ K (.d (.int (i + j))) := ex_some
theorem e_sub : (∃ s, gMinus (.int i) (.int j) = some s ∧ K s) ↔ K (.d (.int (i - j))) := ex_some
theorem e_mul (h : i64 j = true) : (∃ s, gMul (.int i) (.int j) = some s ∧ K s) ↔ K (.d (.int (i * j))) := by
  have e : gMul (.int i) (.int j) = ok1 (.int (i * j)) := by
    show (if (i64 i || i64 j) = true then ok1 (.int (i * j)) else none) = _
    rw [if_pos (by rw [h, Bool.or_true])]
  rw [e]
  exact ex_some
theorem e_mod (h : 0 < j) : (∃ s, gMod (.int i) (.int j) = some s ∧ K s) ↔ K (.d (.int (i % j))) := by
  unfold gMod gIIc
  dsimp only
  rw [if_pos (decide_eq_true h)]
  exact ex_some
theorem e_div (h : 0 < j) (h2 : j < 1073741824) : (∃ s, gDiv (.int i) (.int j) = some s ∧ K s) ↔ K (.d (.int (i / j))) := by
  have e : gDiv (.int i) (.int j) = ok1 (.int (i / j)) := by
    show (if (decide (0 < j) && decide (j < 1073741824)) = true then ok1 (.int (i / j)) else none) = _
    rw [if_pos (by simp [h, h2])]
  rw [e]
  exact ex_some
theorem e_pow : (∃ s, gPow (.int 10) (.int 18) = some s ∧ K s) ↔ K (.d (.int 1000000000000000000)) := ex_some
theorem e_int : (∃ s, gInt1 [.int i] = some s ∧ K s) ↔ K (.d (.int i)) := ex_some
theorem e_lenS {ns : List Int} : (∃ s, gLen [.scr ns] = some s ∧ K s) ↔ K (.d (.int ns.length)) := ex_some
theorem e_lenT {ds : List D} : (∃ s, gLen [.tup ds] = some s ∧ K s) ↔ K (.d (.int ds.length)) := ex_some
theorem e_lenL {ds : List D} : (∃ s, gLen [.lst ds] = some s ∧ K s) ↔ K (.d (.int ds.length)) := ex_some
theorem at_nat {α : Type} {xs : List α} {i : Int} (h0 : 0 ≤ i) (h1 : i < xs.length) : ∃ x, L2.atI xs i = some x ∧ xs[i.toNat]? = some x := by
  have hj : i.toNat < xs.length := by omega
  refine ⟨xs[i.toNat], ?_, List.getElem?_eq_getElem hj⟩
  have := L2.atI_nat (xs := xs) (List.getElem?_eq_getElem hj)
  rwa [Int.toNat_of_nonneg h0] at this
theorem e_ixS {ns : List Int} (h0 : 0 ≤ i) (h1 : i < ns.length) : (∃ s, gIx (.scr ns) (.int i) = some s ∧ K s) ↔ K (.d (.int ((ns[i.toNat]?).getD 0))) := by
  obtain ⟨x, e1, e2⟩ := at_nat h0 h1
  show (∃ s, (L2.atI ns i).bind (fun n => ok1 (.int n)) = some s ∧ K s) ↔ _
  rw [e1, e2]
  exact ex_some
theorem e_ixT {ds : List D} (h0 : 0 ≤ i) (h1 : i < ds.length) : (∃ s, gIx (.tup ds) (.int i) = some s ∧ K s) ↔ K (.d ((ds[i.toNat]?).getD .non)) := by
  obtain ⟨x, e1, e2⟩ := at_nat h0 h1
  show (∃ s, (L2.atI ds i).bind ok1 = some s ∧ K s) ↔ _
  rw [e1, e2]
  exact ex_some
theorem e_ixL {ds : List D} (h0 : 0 ≤ i) (h1 : i < ds.length) : (∃ s, gIx (.lst ds) (.int i) = some s ∧ K s) ↔ K (.d ((ds[i.toNat]?).getD .non)) := by
  obtain ⟨x, e1, e2⟩ := at_nat h0 h1
  show (∃ s, (L2.atI ds i).bind ok1 = some s ∧ K s) ↔ _
  rw [e1, e2]
  exact ex_some
theorem e_lt : (∃ s, gLt (.int i) (.int j) = some s ∧ K s) ↔ K (.d (.bl (decide (i < j)))) := ex_some
theorem e_le : (∃ s, gLe (.int i) (.int j) = some s ∧ K s) ↔ K (.d (.bl (decide (i ≤ j)))) := ex_some
theorem e_gt : (∃ s, gGt (.int i) (.int j) = some s ∧ K s) ↔ K (.d (.bl (decide (j < i)))) := ex_some
theorem e_ge : (∃ s, gGe (.int i) (.int j) = some s ∧ K s) ↔ K (.d (.bl (decide (j ≤ i)))) := ex_some
theorem e_leC {K : Bool → Prop} : (∃ b, gLe (.int i) (.int j) = some (S.d (.bl b)) ∧ K b) ↔ K (decide (i ≤ j)) := ex_bl1
theorem e_ltC {K : Bool → Prop} : (∃ b, gLt (.int i) (.int j) = some (S.d (.bl b)) ∧ K b) ↔ K (decide (i < j)) := ex_bl1
theorem e_isN {x : D} : (∃ s, gIsN x .non = some s ∧ K s) ↔ K (.d (.bl (isN x))) := ex_some
theorem e_notN {x : D} : (∃ s, gNotN x .non = some s ∧ K s) ↔ K (.d (.bl (!isN x))) := ex_some
end
section
variable {ns : List Int} {a b c : Int} {o : Option Nat} {P : S → En → Prop} {ρ : En}
theorem ok_row1 : OK (mIxO 0 (mC (.int 1)) (some (.o o (rowD ns a b c)) :: ρ)) P ↔ P (.d (.int a)) (some (.o o (rowD ns a b c)) :: ρ) := by
  rw [ok_eq]
  exact Iff.rfl
theorem ok_row2 : OK (mIxO 0 (mC (.int 2)) (some (.o o (rowD ns a b c)) :: ρ)) P ↔ P (.d (.int b)) (some (.o o (rowD ns a b c)) :: ρ) := by
  rw [ok_eq]
  exact Iff.rfl
theorem ok_row3 : OK (mIxO 0 (mC (.int 3)) (some (.o o (rowD ns a b c)) :: ρ)) P ↔ P (.d (.int c)) (some (.o o (rowD ns a b c)) :: ρ) := by
  rw [ok_eq]
  exact Iff.rfl
theorem ok_row0 : OK (mIxO 0 (mC (.int 0)) (some (.o o (rowD ns a b c)) :: ρ)) P ↔ P (.d (.scr ns)) (some (.o o (rowD ns a b c)) :: ρ) := by
  rw [ok_eq]
  exact Iff.rfl
variable {PU : Unit → En → Prop} {x : Int}
theorem ok_put1 : OK (gmItem 0 (mC (.int 1)) (.int x) (some (.o o (rowD ns a b c)) :: ρ)) PU ↔ PU () (some (.o o (rowD ns x b c)) :: ρ) := by
  rw [ok_eq]
  exact Iff.rfl
theorem ok_put2 : OK (gmItem 0 (mC (.int 2)) (.int x) (some (.o o (rowD ns a b c)) :: ρ)) PU ↔ PU () (some (.o o (rowD ns a x c)) :: ρ) := by
  rw [ok_eq]
  exact Iff.rfl
theorem ok_put3 : OK (gmItem 0 (mC (.int 3)) (.int x) (some (.o o (rowD ns a b c)) :: ρ)) PU ↔ PU () (some (.o o (rowD ns a b x)) :: ρ) := by
  rw [ok_eq]
  exact Iff.rfl
end
local macro_rules | `(tactic| walk_at "wp") => `(tactic| simp only [okF_runF, okF_runL, ok_seq, ok_ret, ok_retN, ok_andV, ok_orV, ok_notV, ok_cb, ok_cons, ok_nil, ok_test, ok_dv, ok_op, ok_un, ok_c, ok_if, ok_ifS, ok_and, ok_or, ok_not, ok_asg, ok_gname, ok_drop, ok_call, ok_chain, ok_nx, ok_bk, ok_ct, ok_st, ok_yes, ok_for, ok_lc, ok_tup, ok_ok, ok_stuck, ex_toD, ex_toL, ex_bl, ex_some, ex_bl1, fl_nx, fl_rt, fl_bk, fl_ct, rt_or, nx_or, mVar, ok1, gIsi, isTy, Option.bind, bare, e_add, e_sub, e_int, e_lenS, e_lenT, e_lenL, e_lt, e_le, e_gt, e_ge, e_leC, e_ltC, e_isN, e_notN, e_pow,
  List.map_cons, List.map_nil, List.length_cons, List.length_nil, List.replicate_succ, List.replicate_zero, List.cons_append, List.nil_append, List.append_nil, List.getElem?_cons_zero, List.getElem?_cons_succ, List.set_cons_zero, List.set_cons_succ, Nat.reduceAdd, Nat.reduceSub, true_and, and_true, Bool.not_true, Bool.not_false, true_implies, forall_const, not_true_eq_false, false_implies, Bool.false_eq_true, not_false_eq_true, implies_true, eq_self, ne_eq, reduceCtorEq, Fl.rt.injEq, S.d.injEq, D.int.injEq, false_and, exists_false, or_false, false_or, exists_eq_left'])
local macro_rules | `(tactic| walk_at "wt") => `(tactic| simp (config := { contextual := false }) only [ok_row0, ok_row1, ok_row2, ok_row3, ok_put1, ok_put2, ok_put3, e_mod, e_div, e_mul, e_ixS, decide_true, decide_false, *, okF_runF, okF_runL, ok_seq, ok_ret, ok_retN, ok_andV, ok_orV, ok_notV, ok_cb, ok_cons, ok_nil, ok_test, ok_dv, ok_op, ok_un, ok_c, ok_if, ok_ifS, ok_and, ok_or, ok_not, ok_asg, ok_gname, ok_drop, ok_call, ok_chain, ok_nx, ok_bk, ok_ct, ok_st, ok_yes, ok_for, ok_lc, ok_tup, ok_ok, ok_stuck, ex_toD, ex_toL, ex_bl, ex_some, ex_bl1, fl_nx, fl_rt, fl_bk, fl_ct, rt_or, nx_or, mVar, ok1, gIsi, isTy, Option.bind, bare, e_add, e_sub, e_int, e_lenS, e_lenT, e_lenL, e_lt, e_le, e_gt, e_ge, e_leC, e_ltC, e_isN, e_notN, e_pow,
  List.map_cons, List.map_nil, List.length_cons, List.length_nil, List.replicate_succ, List.replicate_zero, List.cons_append, List.nil_append, List.append_nil, List.getElem?_cons_zero, List.getElem?_cons_succ, List.set_cons_zero, List.set_cons_succ, Nat.reduceAdd, Nat.reduceSub, true_and, and_true, Bool.not_true, Bool.not_false, true_implies, forall_const, not_true_eq_false, false_implies, Bool.false_eq_true, not_false_eq_true, implies_true, eq_self, ne_eq, reduceCtorEq, Fl.rt.injEq, S.d.injEq, D.int.injEq, false_and, exists_false, or_false, false_or, exists_eq_left'])
namespace Lib
def b_is_number : M Fl := (mRet (mAndV (mCB gIsi (aCons (mVar 0) (aCons (mC (.ty "int")) aNil))) (mAndV (mNotV (mCB gIsi (aCons (mVar 0) (aCons (mC (.ty "bool")) aNil)))) (mChain gLe gLe (mVar 1) (mVar 0) (mVar 2)))))
def f_is_number : Fn := runF 3 3 b_is_number
def oD : Option Int → D
  | none => .non
  | some i => .int i
def numB (lo hi : Int) : Option Int → Bool
  | none => false
  | some i => decide (lo ≤ i) && decide (i ≤ hi)
theorem num {o : Option Int} {lo hi : Int} {K : S → Prop} : OKF (f_is_number [.d (oD o), .d (.int lo), .d (.int hi)]) K ↔ K (.d (.bl (numB lo hi o))) := by
  cases o with
  | none =>
    unfold f_is_number b_is_number oD numB
    walk_at "wp"
  | some i =>
    unfold f_is_number b_is_number oD numB
    walk_at "wp"
    by_cases h : lo ≤ i <;> simp [h]
def b_is_tuple : M Fl := (mRet (mAndV (mCB gIsi (aCons (mVar 0) (aCons (mC (.ty "tuple")) aNil))) (mChain gLe gLe (mVar 1) (mCB gLen (aCons (mVar 0) aNil)) (mVar 2))))
def f_is_tuple : Fn := runF 3 3 b_is_tuple
theorem tup {ds : List D} {lo hi : Int} {K : S → Prop} : OKF (f_is_tuple [.d (.tup ds), .d (.int lo), .d (.int hi)]) K ↔ K (.d (.bl (decide (lo ≤ ds.length) && decide ((ds.length : Int) ≤ hi)))) := by
  unfold f_is_tuple b_is_tuple
  walk_at "wp"
  by_cases h : lo ≤ ds.length <;> simp [h]
def b_are_numbers : M Fl := (mRet (mAndV (mCB gIsi (aCons (mVar 0) (aCons (mC (.ty "tuple")) aNil))) (mCB gAll (aCons (mLc (iSeq (mVar 0)) (gmName 3) mYes (mCall f_is_number (aCons (mVar 3) (aCons (mVar 1) (aCons (mVar 2) aNil)))) [3]) aNil))))
def f_are_numbers : Fn := runF 3 4 b_are_numbers
theorem nums {os : List (Option Int)} {lo hi : Int} {K : S → Prop} (hl : os.length ≤ 16777216) (h : K (.d (.bl (os.all (numB lo hi))))) : OKF (f_are_numbers [.d (.tup (os.map oD)), .d (.int lo), .d (.int hi)]) K := by
  unfold f_are_numbers b_are_numbers
  walk_at "wp"
  simp only [iSeq, ok_then, ok_dv, ok_var]
  walk_at "wp"
  simp only [itemsD, ok_ok, wipeE]
  walk_at "wp"
  refine ok_map (f := fun x => .bl (match x with | .int i => decide (lo ≤ i) && decide (i ≤ hi) | _ => false)) rfl ?_ (by rw [List.length_map]; exact hl) ?_
  · intro x hx
    obtain ⟨o, _, rfl⟩ := List.mem_map.mp hx
    walk_at "wp"
    rw [num]
    walk_at "wp"
    cases o <;> rfl
  · refine ⟨_, ?_, h⟩
    show (blsD _).bind _ = _
    have e : List.map (fun x => D.bl (match x with | D.int i => decide (lo ≤ i) && decide (i ≤ hi) | x => false)) (List.map oD os) = os.map fun o => D.bl (numB lo hi o) := by
      rw [List.map_map]
      refine List.map_congr_left fun o _ => ?_
      cases o <;> rfl
    rw [e, blsD_map, Option.bind_some, List.all_map]
    rfl
def b_law_taken : M Fl := (mSeq (mIfS (mTest (mOp gGt (mIxO 0 (mC (.int 3))) (mC (.int 0)))) (mSeq (mAsg (mOp gMod (mCB gInt1 (aCons (mIxO 0 (mC (.int 3))) aNil)) (mVar 1)) (gmName 2))
    (mSeq (mAsg (mOp gDiv (mIxO 0 (mC (.int 3))) (mVar 1)) (gmItem 0 (mC (.int 3))))
    (mRet (mVar 2)))) mNx)
    (mSeq (mAsg (mOp gAdd (mIxO 0 (mC (.int 1))) (mC (.int 1))) (gmItem 0 (mC (.int 1))))
    (mSeq (mIfS (mTest (mOp gGt (mIxO 0 (mC (.int 1))) (mCB gLen (aCons (mIxO 0 (mC (.int 0))) aNil)))) (mSeq (mAsg (mOp gMod (mCB gInt1 (aCons (mOp gAdd (mOp gMul (mIxO 0 (mC (.int 2))) (mC (.int 48271))) (mC (.int 11))) aNil)) (mC (.int 2147483647))) (gmItem 0 (mC (.int 2))))
    (mRet (mOp gMod (mCB gInt1 (aCons (mOp gDiv (mIxO 0 (mC (.int 2))) (mC (.int 7))) aNil)) (mVar 1)))) mNx)
    (mSeq (mAsg (mOp gIx (mIxO 0 (mC (.int 0))) (mOp gMinus (mIxO 0 (mC (.int 1))) (mC (.int 1)))) (gmName 3))
    (mSeq (mAsg (mOp gMod (mCB gInt1 (aCons (mOp gAdd (mOp gAdd (mOp gMul (mIxO 0 (mC (.int 2))) (mC (.int 48271))) (mVar 3)) (mC (.int 11))) aNil)) (mC (.int 2147483647))) (gmItem 0 (mC (.int 2))))
    (mSeq (mIfS (mTest (mOp gGe (mVar 3) (mOp gPow (mC (.int 10)) (mC (.int 18))))) (mAsg (mOp gDiv (mVar 3) (mVar 1)) (gmItem 0 (mC (.int 3)))) mNx)
    (mRet (mOp gMod (mCB gInt1 (aCons (mVar 3) aNil)) (mVar 1)))))))))
def f_law_taken : Fn := runF 2 4 b_law_taken
theorem taken {ns : List Int} {a b c m : Int} (h : RowOk a b c) (h1 : 0 < m) (h2 : m < 1073741824) : OK (f_law_taken [.o (some 0) (rowD ns a b c), .d (.int m)]) fun s ρ => ∃ k a' b' c', s = .d (.int k) ∧ 0 ≤ k ∧ k < m ∧ RowOk a' b' c' ∧ ∃ ρ', ρ = some (.o (some 0) (rowD ns a' b' c')) :: ρ' := by
  obtain ⟨ha, hb, hb2, hc⟩ := h
  have key : OK (b_law_taken [some (.o (some 0) (rowD ns a b c)), some (.d (.int m)), none, none]) fun f ρ => ∃ k a' b' c', f = .rt (.d (.int k)) ∧ 0 ≤ k ∧ k < m ∧ RowOk a' b' c' ∧ ∃ ρ', ρ = some (.o (some 0) (rowD ns a' b' c')) :: ρ' := by
    unfold b_law_taken
    by_cases c0 : 0 < c
    · walk_at "wt"
      refine ⟨c % m, a, b, c / m, rfl, Int.emod_nonneg _ (by omega), Int.emod_lt_of_pos _ h1, ⟨ha, hb, hb2, Int.ediv_nonneg hc (Int.le_of_lt h1)⟩, _, rfl⟩
    · have q1 : i64 48271 = true := rfl
      have q2 : (0 : Int) < 2147483647 := by decide
      have q3 : (0 : Int) < 7 := by decide
      have q4 : (7 : Int) < 1073741824 := by decide
      by_cases c1 : (ns.length : Int) < a + 1
      · walk_at "wt"
        have hm := Int.emod_nonneg ((b * 48271 + 11) % 2147483647 / 7) (show m ≠ 0 by omega)
        have hl := Int.emod_lt_of_pos ((b * 48271 + 11) % 2147483647 / 7) h1
        have hb3 := Int.emod_nonneg (b * 48271 + 11) (show (2147483647 : Int) ≠ 0 by decide)
        have hb4 := Int.emod_lt_of_pos (b * 48271 + 11) q2
        exact ⟨_, _, _, _, rfl, hm, hl, ⟨by omega, hb3, hb4, hc⟩, _, rfl⟩
      · have q5 : 0 ≤ a + 1 - 1 := by omega
        have q6 : a + 1 - 1 < (ns.length : Int) := by omega
        by_cases c2 : 1000000000000000000 ≤ (ns[(a + 1 - 1).toNat]?).getD 0
        · walk_at "wt"
          have hm := Int.emod_nonneg ((ns[(a + 1 - 1).toNat]?).getD 0) (show m ≠ 0 by omega)
          have hl := Int.emod_lt_of_pos ((ns[(a + 1 - 1).toNat]?).getD 0) h1
          have hb3 := Int.emod_nonneg (b * 48271 + (ns[(a + 1 - 1).toNat]?).getD 0 + 11) (show (2147483647 : Int) ≠ 0 by decide)
          have hb4 := Int.emod_lt_of_pos (b * 48271 + (ns[(a + 1 - 1).toNat]?).getD 0 + 11) q2
          exact ⟨_, _, _, _, rfl, hm, hl, ⟨by omega, hb3, hb4, Int.ediv_nonneg (by omega) (Int.le_of_lt h1)⟩, _, rfl⟩
        · walk_at "wt"
          have hm := Int.emod_nonneg ((ns[(a + 1 - 1).toNat]?).getD 0) (show m ≠ 0 by omega)
          have hl := Int.emod_lt_of_pos ((ns[(a + 1 - 1).toNat]?).getD 0) h1
          have hb3 := Int.emod_nonneg (b * 48271 + (ns[(a + 1 - 1).toNat]?).getD 0 + 11) (show (2147483647 : Int) ≠ 0 by decide)
          have hb4 := Int.emod_lt_of_pos (b * 48271 + (ns[(a + 1 - 1).toNat]?).getD 0 + 11) q2
          exact ⟨_, _, _, _, rfl, hm, hl, ⟨by omega, hb3, hb4, hc⟩, _, rfl⟩
  refine ok_runF rfl (key.imp fun f ρ h => ?_)
  obtain ⟨k, a', b', c', rfl, h⟩ := h
  exact .inl ⟨_, rfl, k, a', b', c', rfl, h⟩
end Lib
end Fx

/-! draws within a def, comprehensions that draw -/
namespace Fx
open PySem
def rowS (o : Option Nat) (ns : List Int) (a b c : Int) : Option S := some (.o o (rowD ns a b c))
theorem ok_callO {F : Fn} {i j : Nat} {fA : M (List D)} {ρ : En} {P : S → En → Prop} (h : OK (fA ρ) fun ds ρ1 => ∃ b x, ρ1[i]? = some (some (.o b x)) ∧ j ≤ ds.length ∧ OK (F ((ds.take j).map .d ++ .o (some j) x :: (ds.drop j).map .d)) fun s ρ' => ∃ y, ρ'[j]? = some (some (.o (some j) y)) ∧ bare s = true ∧ P s (ρ1.set i (some (.o b y)))) : OK (mCallO F i j fA ρ) P := by
  unfold mCallO
  rw [ok_then]
  refine h.imp fun ds ρ1 ⟨b, x, e, hj, k⟩ => ?_
  rw [e]
  dsimp only
  rw [if_pos hj]
  obtain ⟨s, ρ', e2, y, e3, hb, k⟩ := k.at
  rw [e2]
  dsimp only
  rw [e3]
  dsimp only
  rw [if_pos ⟨rfl, hb⟩, ok_ok]
  exact k
theorem ok_own {i : Nat} {fr : M (List D)} {ρ : En} {P : List D → En → Prop} : OK (aOwn i fr ρ) P ↔ isOwn ρ i = true ∧ OK (fr ρ) P := by
  unfold aOwn
  rw [ok_ite]
  exact ⟨fun h => by
    by_cases ho : isOwn ρ i = true
    · exact ⟨ho, h.1 ho⟩
    · exact (ok_stuck.mp (h.2 ho)).elim, fun h => ⟨fun _ => h.2, fun n => absurd h.1 n⟩⟩
section
variable {r k : Nat} {o : Option Nat} {ns : List Int} {ρ : En} {P : S → En → Prop} {fm fe : M S} {m : Int}
theorem own_row {a b c : Int} (e : ρ[r]? = some (rowS o ns a b c)) : isOwn ρ r = true := by
  unfold isOwn
  rw [e]
  rfl
/-- a draw of m ways -/
theorem ok_taken {a b c : Int} (e : ρ[r]? = some (rowS o ns a b c)) (hr : RowOk a b c) (hm : OK (dv fm ρ) fun x ρ1 => x = .int m ∧ ρ1 = ρ) (h1 : 0 < m) (h2 : m < 1073741824)
    (q : ∀ v a b c, 0 ≤ v → v < m → RowOk a b c → P (.d (.int v)) (ρ.set r (rowS o ns a b c))) : OK (mCallO Lib.f_law_taken r 0 (aOwn r (aCons fm aNil)) ρ) P := by
  refine ok_callO (ok_own.mpr ⟨own_row e, ?_⟩)
  rw [ok_cons]
  refine hm.imp fun x ρ1 ⟨e1, e2⟩ => ?_
  subst e1
  subst e2
  rw [ok_nil]
  refine ⟨o, rowD ns a b c, e, Nat.zero_le _, (Lib.taken hr h1 h2).imp fun s ρ' h => ?_⟩
  obtain ⟨v, a', b', c', rfl, v0, v1, hr', ρ2, rfl⟩ := h
  exact ⟨rowD ns a' b' c', rfl, rfl, q v a' b' c' v0 v1 hr'⟩
variable {items : List D} {PL : List D → En → Prop}
/-- a comprehension that draws -/
theorem ok_compR {a b c : Int} (Good : Nat → D → Prop) (e : ρ[r]? = some (rowS o ns a b c)) (hr : RowOk a b c) (hw : ρ.set k none = ρ) (hkr : k ≠ r)
    (st : ∀ i x a b c ρ', items[i]? = some x → RowOk a b c → ρ' = (ρ.set r (rowS o ns a b c)).set k (some (.d x)) → ρ'[r]? = some (rowS o ns a b c) → OK (dv fe ρ') fun y ρ3 => Good i y ∧ ∃ a' b' c', RowOk a' b' c' ∧ ρ3 = ρ'.set r (rowS o ns a' b' c'))
    (hs : items.length ≤ 16777216) (q : ∀ ys a b c, ys.length = items.length → (∀ i y, ys[i]? = some y → Good i y) → RowOk a b c → PL ys (ρ.set r (rowS o ns a b c))) : OK (mComp (gmName k) mYes fe [k] items [] ρ) PL := by
  have hrl : r < ρ.length := (List.getElem?_eq_some_iff.mp e).1
  refine ok_comp (I := fun i acc ρ' => acc.length = i ∧ i ≤ items.length ∧ (∀ j y, acc[j]? = some y → Good j y) ∧ ∃ a b c, RowOk a b c ∧ ρ' = ρ.set r (rowS o ns a b c)) (k := 0) ⟨rfl, Nat.zero_le _, fun j y h => by simp at h, a, b, c, hr, ?_⟩ ?_ ?_
  · have := List.set_getElem_self hrl
    have e2 : ρ[r] = rowS o ns a b c := by
      rw [List.getElem?_eq_getElem hrl] at e
      exact Option.some.inj e
    rw [e2] at this
    exact this.symm
  · rintro i x acc ρ' hx ⟨hl, hle, hg, a, b, c, hr, rfl⟩
    have hi : i < items.length := (List.getElem?_eq_some_iff.mp hx).1
    rw [ok_gname, ok_yes]
    refine ⟨fun _ => ?_, fun n => absurd rfl n⟩
    have er : ((ρ.set r (rowS o ns a b c)).set k (some (.d x)))[r]? = some (rowS o ns a b c) := by
      rw [List.getElem?_set_ne hkr, List.getElem?_set_self hrl]
    refine (st i x a b c _ hx hr rfl er).imp fun y ρ3 ⟨hy, a', b', c', hr', e3⟩ => ⟨?_, ?_, ?_, ?_, a', b', c', hr', ?_⟩
    · exact decide_eq_true (by omega)
    · rw [List.length_append, hl]
      rfl
    · omega
    · intro j z hz
      by_cases hj : j < acc.length
      · rw [List.getElem?_append_left hj] at hz
        exact hg j z hz
      · rw [List.getElem?_append_right (by omega)] at hz
        have : j - acc.length = 0 := by
          have := (List.getElem?_eq_some_iff.mp hz).1
          simp at this
          omega
        rw [this] at hz
        cases hz
        have : j = i := by omega
        rw [this]
        exact hy
    · subst e3
      show (List.set _ r _).set k none = _
      rw [List.set_comm _ _ (Ne.symm hkr), List.set_set, List.set_comm _ _ hkr.symm, hw, List.set_set]
  · rintro acc ρ' ⟨hl, _, hg, a, b, c, hr, rfl⟩
    exact q acc a b c (by omega) hg hr
end
end Fx

/-! algebras: drawn, made, on data -/
namespace Fx
open PySem
theorem ok_psNil {ρ : En} {P : List S → En → Prop} : OK (psNil ρ) P ↔ P [] ρ := by
  rw [ok_eq]
  exact Iff.rfl
theorem ok_psCons {fa : M S} {fr : M (List S)} {ρ : En} {P : List S → En → Prop} : OK (psCons fa fr ρ) P ↔ OK (fa ρ) fun s ρ1 => OK (fr ρ1) fun ss ρ2 => P (s :: ss) ρ2 := by
  unfold psCons
  simp only [ok_then, ok_ok]
theorem ok_par3 {i j k : Nat} {oi oj ok : Bool} {fP : M (List S)} {ρ : En} {PF : Fl → En → Prop} (h : OK (fP ρ) fun ss ρ1 => ∃ s t u s' t' u', ss = [s, t, u] ∧ stS oi s = some s' ∧ stS oj t = some t' ∧ stS ok u = some u' ∧ PF .nx (((ρ1.set k (some u')).set j (some t')).set i (some s'))) : OK (mPar3 i oi j oj k ok fP ρ) PF := by
  unfold mPar3
  rw [ok_then]
  refine h.imp fun ss ρ1 ⟨s, t, u, s', t', u', e, e1, e2, e3, q⟩ => ?_
  subst e
  dsimp only
  rw [e1, e2, e3]
  exact ok_of q
theorem ok_par2 {i j : Nat} {oi oj : Bool} {fP : M (List S)} {ρ : En} {PF : Fl → En → Prop} (h : OK (fP ρ) fun ss ρ1 => ∃ s t s' t', ss = [s, t] ∧ stS oi s = some s' ∧ stS oj t = some t' ∧ PF .nx ((ρ1.set j (some t')).set i (some s'))) : OK (mPar2 i oi j oj fP ρ) PF := by
  unfold mPar2
  rw [ok_then]
  refine h.imp fun ss ρ1 ⟨s, t, s', t', e, e1, e2, q⟩ => ?_
  subst e
  dsimp only
  rw [e1, e2]
  exact ok_of q
theorem ok_range1 {fA : M (List D)} {ρ : En} {n : Int} {P : List D → En → Prop} (h : OK (fA ρ) fun ds ρ1 => ds = [.int n] ∧ -4611686018427387904 ≤ n ∧ n < 4611686018427387904 ∧ P (intsFrom 0 n.toNat) ρ1) : OK (iRange1 fA ρ) P := by
  unfold iRange1
  rw [ok_then]
  refine h.imp fun ds ρ1 ⟨e, h1, h2, q⟩ => ?_
  subst e
  dsimp only
  rw [if_pos (by unfold rOk; simp [h1, h2])]
  exact ok_of q
theorem ok_range1e {fA : M (List D)} {ρ : En} {P : List D → En → Prop} (h : OK (fA ρ) fun ds ρ1 => ∃ n, ds = [.int n] ∧ -4611686018427387904 ≤ n ∧ n < 4611686018427387904 ∧ P (intsFrom 0 n.toNat) ρ1) : OK (iRange1 fA ρ) P := by
  unfold iRange1
  rw [ok_then]
  refine h.imp fun ds ρ1 ⟨n, e, h1, h2, q⟩ => ?_
  subst e
  dsimp only
  rw [if_pos (by unfold rOk; simp [h1, h2])]
  exact ok_of q
theorem rowS_set0 {o : Option Nat} {ns : List Int} {a b c : Int} {x : Option S} {ρ : En} : List.set (x :: ρ) 0 (rowS o ns a b c) = some (.o o (rowD ns a b c)) :: ρ := rfl
theorem st_d {x : D} : stS false (.d x) = some (.d x) := rfl
theorem intsD_get {ys : List D} {Good : Int → Prop} (h : ∀ (i : Nat) y, ys[i]? = some y → ∃ v, y = .int v ∧ Good v) : ∃ vs : List Int, ys = vs.map D.int ∧ vs.length = ys.length ∧ ∀ v ∈ vs, Good v := by
  induction ys with
  | nil => exact ⟨[], rfl, rfl, fun v hv => by cases hv⟩
  | cons y ys ih =>
    obtain ⟨v, rfl, hv⟩ := h 0 y rfl
    obtain ⟨vs, rfl, hl, hg⟩ := ih fun i y hy => h (i + 1) y (by simpa using hy)
    refine ⟨v :: vs, rfl, by simp, fun w hw => ?_⟩
    rcases List.mem_cons.mp hw with rfl | hw
    · exact hv
    · exact hg w hw
theorem e_sorted {vs : List Int} {K : S → Prop} : (∃ s, gSorted [.lst (vs.map D.int)] = some s ∧ K s) ↔ K (.o none (.lst ((isort vs).map D.int))) := by
  show (∃ s, (intsD (vs.map D.int)).map (fun ns => S.o none (D.lst ((isort ns).map D.int))) = some s ∧ K s) ↔ _
  rw [intsD_map]
  exact ex_some
theorem e_tupleL {ds : List D} {K : S → Prop} : (∃ s, gTuple [.lst ds] = some s ∧ K s) ↔ K (.d (.tup ds)) := ex_some
theorem eq_int {i j : Int} {K : S → Prop} : (∃ s, gEq (.int i) (.int j) = some s ∧ K s) ↔ K (.d (.bl (decide (i = j)))) := by
  have e : gEq (.int i) (.int j) = some (.d (.bl (decide (i = j)))) := by
    rfl
  rw [e]
  exact ex_some
theorem ok_seqI {F G : M Fl} {ρ : En} {PF : Fl → En → Prop} (I : En → Prop) (h : OK (F ρ) fun f ρ1 => f = .nx ∧ I ρ1) (k : ∀ ρ1, I ρ1 → OK (G ρ1) PF) : OK (mSeq F G ρ) PF := by
  rw [ok_seq]
  exact h.imp fun f ρ1 ⟨e, hi⟩ => ⟨fun _ => k ρ1 hi, fun n => absurd e n⟩
theorem ok_ifI {ft : M Bool} {F G : M Fl} {ρ : En} {PF : Fl → En → Prop} {b : Bool} (ht : OK (ft ρ) fun b' ρ1 => b' = b ∧ ρ1 = ρ) (h1 : b = true → OK (F ρ) PF) (h2 : b = false → OK (G ρ) PF) : OK (mIfS ft F G ρ) PF := by
  rw [ok_ifS]
  refine ht.imp fun b' ρ1 ⟨e1, e2⟩ => ?_
  subst e1
  subst e2
  exact ⟨h1, fun n => h2 (by simpa using n)⟩
theorem ok_setsI {m : M Fl} {ρ : En} {PF : Fl → En → Prop} (h : OK (m ρ) PF) : OK (m ρ) PF := h
theorem ok_asgO {i : Nat} {fa : M S} {ρ : En} {PF : Fl → En → Prop} : OK (mAsgO i fa ρ) PF ↔ OK (fa ρ) fun s ρ1 => (∃ x, s = .o none x ∧ PF .nx (ρ1.set i (some (.o none x)))) ∨ ∃ x, s = .d x ∧ PF .nx (ρ1.set i (some (.d x))) := by
  unfold mAsgO
  rw [ok_then]
  refine ⟨fun h => h.imp fun s ρ1 h => ?_, fun h => h.imp fun s ρ1 h => ?_⟩
  · split at h
    · exact .inl ⟨_, rfl, ok_out h⟩
    · exact .inr ⟨_, rfl, ok_out h⟩
    · exact (ok_out h).elim
  · rcases h with ⟨x, rfl, h⟩ | ⟨x, rfl, h⟩
    · exact ok_of h
    · exact ok_of h
theorem ok_lst {fA : M (List D)} {ρ : En} {P : S → En → Prop} : OK (mLst fA ρ) P ↔ OK (fA ρ) fun ds ρ1 => small ds.length = true ∧ P (.o none (.lst ds)) ρ1 := by
  unfold mLst
  rw [ok_then]
  refine ⟨fun h => h.imp fun ds ρ1 h => ?_, fun h => h.imp fun ds ρ1 h => ?_⟩
  · by_cases hz : small ds.length = true
    · rw [if_pos hz] at h
      exact ⟨hz, ok_out h⟩
    · rw [if_neg hz] at h
      exact (ok_out h).elim
  · rw [if_pos h.1]
    exact ok_of h.2
theorem ok_app {i : Nat} {fe : M S} {ρ : En} {P : S → En → Prop} {o : Option Nat} {ds : List D} (e : ρ[i]? = some (some (.o o (.lst ds)))) (h : OK (dv fe ρ) fun y ρ1 => ρ1[i]? = some (some (.o o (.lst ds))) ∧ small (ds.length + 1) = true ∧ P (.d .non) (ρ1.set i (some (.o o (.lst (ds ++ [y])))))) : OK (mMeth1 i gApp fe ρ) P := by
  unfold mMeth1
  have ho : ownL ρ i = true := by
    unfold ownL
    rw [e]
  rw [if_pos ho, ok_then]
  refine h.imp fun y ρ1 ⟨e1, hz, q⟩ => ?_
  rw [e1]
  dsimp only
  have e2 : gApp ds y = some (.non, ds ++ [y]) := if_pos hz
  rw [e2]
  exact ok_of q
section
variable {r k : Nat} {o : Option Nat} {ns : List Int} {ρ : En} {PF : Fl → En → Prop} {PL : List D → En → Prop}
/-- [_law_taken(row, m) for .. in range(n)] -/
theorem ok_draws {n m a b c : Int} {fn fm : M S} (e : ρ[r]? = some (rowS o ns a b c)) (hr : RowOk a b c) (hkr : k ≠ r) (hn : OK (aCons fn aNil ρ) fun ds ρ1 => ds = [.int n] ∧ ρ1 = ρ) (n0 : 0 ≤ n) (n1 : n ≤ 16777216)
    (hm : ∀ ρ', (∃ a b c x, ρ' = ((ρ.set k none).set r (rowS o ns a b c)).set k x) → OK (dv fm ρ') fun x ρ1 => x = .int m ∧ ρ1 = ρ') (m1 : 0 < m) (m2 : m < 1073741824) {P : S → En → Prop}
    (q : ∀ (vs : List Int) a b c, (vs.length : Int) = n → (∀ v ∈ vs, 0 ≤ v ∧ v < m) → RowOk a b c → P (.o none (.lst (vs.map D.int))) ((ρ.set k none).set r (rowS o ns a b c))) :
    OK (mLc (iRange1 (aCons fn aNil)) (gmName k) mYes (mCallO Lib.f_law_taken r 0 (aOwn r (aCons fm aNil))) [k] ρ) P := by
  rw [ok_lc]
  refine ok_range1 (n := n) (hn.imp fun ds ρ1 ⟨e1, e2⟩ => ⟨e1, by omega, by omega, ?_⟩)
  subst e2
  show OK (mComp _ _ _ _ _ _ (ρ1.set k none)) _
  refine ok_compR (r := r) (o := o) (ns := ns) (fun _ y => ∃ v, y = .int v ∧ 0 ≤ v ∧ v < m) (by rw [List.getElem?_set_ne hkr]; exact e) hr (List.set_set ..) hkr ?_ (by rw [intsFrom_length]; omega) ?_
  · intro i x a b c ρ' hx h e' er
    rw [ok_dv]
    refine ok_taken (m := m) er h (hm ρ' ⟨a, b, c, _, e'⟩) m1 m2 fun v a b c v0 v1 h => ?_
    exact ⟨_, rfl, ⟨v, rfl, v0, v1⟩, a, b, c, h, rfl⟩
  · intro ys a b c hl hg h
    rw [intsFrom_length] at hl
    obtain ⟨vs, rfl, hvl, hv⟩ := intsD_get (Good := fun v => 0 ≤ v ∧ v < m) hg
    exact q vs a b c (by omega) hv h
end
theorem intsFrom_at {n i : Nat} {x : D} (h : (intsFrom 0 n)[i]? = some x) : x = .int i ∧ i < n := by
  have hi := (List.getElem?_eq_some_iff.mp h).1
  rw [intsFrom_length] at hi
  rw [intsFrom_get n 0 i hi] at h
  cases h
  exact ⟨by simp, hi⟩
theorem ok_iseq {f : M S} {ρ : En} {P : List D → En → Prop} : OK (iSeq f ρ) P ↔ OK (dv f ρ) fun x ρ1 => ∃ ds, itemsD x = some ds ∧ P ds ρ1 := by
  unfold iSeq
  rw [ok_then]
  refine ⟨fun h => h.imp fun x ρ1 h => ?_, fun h => h.imp fun x ρ1 h => ?_⟩
  · cases e : itemsD x with
    | none => rw [e] at h; exact (ok_out h).elim
    | some ds => rw [e] at h; exact ⟨ds, rfl, ok_out h⟩
  · obtain ⟨ds, e, h⟩ := h
    rw [e]
    exact ok_of h
theorem optsD_get {ys : List D} {Good : Option Int → Prop} (h : ∀ (i : Nat) y, ys[i]? = some y → ∃ v, y = Lib.oD v ∧ Good v) : ∃ vs : List (Option Int), ys = vs.map Lib.oD ∧ vs.length = ys.length ∧ ∀ v ∈ vs, Good v := by
  induction ys with
  | nil => exact ⟨[], rfl, rfl, fun v hv => by cases hv⟩
  | cons y ys ih =>
    obtain ⟨v, rfl, hv⟩ := h 0 y rfl
    obtain ⟨vs, rfl, hl, hg⟩ := ih fun i y hy => h (i + 1) y (by simpa using hy)
    refine ⟨v :: vs, rfl, by simp, fun w hw => ?_⟩
    rcases List.mem_cons.mp hw with rfl | hw
    · exact hv
    · exact hg w hw
theorem ok_sl {fe : M S} {fl fh : M (Option Int)} {ρ : En} {P : S → En → Prop} (h : OK (dv fe ρ) fun x ρ1 => OK (fl ρ1) fun lo ρ2 => OK (fh ρ2) fun hi ρ3 => ∃ s, gSl x lo hi = some s ∧ P s ρ3) : OK (mSl fe fl fh ρ) P := by
  unfold mSl
  simp only [ok_then]
  refine h.imp fun x ρ1 h => h.imp fun lo ρ2 h => h.imp fun hi ρ3 ⟨s, e, h⟩ => ?_
  rw [e]
  exact ok_of h
theorem ok_onone {ρ : En} {P : Option Int → En → Prop} : OK (oNone ρ) P ↔ P none ρ := by
  rw [ok_eq]
  exact Iff.rfl
theorem ok_osome {f : M S} {ρ : En} {P : Option Int → En → Prop} (h : OK (dv f ρ) fun x ρ1 => ∃ i, x = .int i ∧ P (some i) ρ1) : OK (oSome f ρ) P := by
  unfold oSome
  rw [ok_then]
  refine h.imp fun x ρ1 ⟨i, e, h⟩ => ?_
  subst e
  exact ok_of h
theorem e_times {x : D} {k : Int} {K : S → Prop} (h0 : 0 ≤ k) (h1 : k < 1000000) : (∃ s, gMul (.lst [x]) (.int k) = some s ∧ K s) ↔ K (.o none (.lst (List.replicate k.toNat x))) := by
  have e : gMul (.lst [x]) (.int k) = some (.o none (.lst (List.replicate k.toNat x))) := by
    show (if small ([x].length * k.toNat) && decide (k < 1073741824) && decide (-1073741824 < k) then some (S.o none (.lst (List.replicate k.toNat [x]).flatten)) else none) = _
    rw [if_pos (by
      unfold small
      simp only [List.length_singleton, Nat.one_mul, Bool.and_eq_true, decide_eq_true_eq]
      omega)]
    congr 3
    generalize k.toNat = n
    induction n with
    | zero => rfl
    | succ n ih => rw [List.replicate_succ, List.flatten_cons, ih]; rfl
  rw [e]
  exact ex_some
theorem e_catL {xs ys : List D} {K : S → Prop} (h : xs.length + ys.length ≤ 16777216) : (∃ s, gAdd (.lst xs) (.lst ys) = some s ∧ K s) ↔ K (.o none (.lst (xs ++ ys))) := by
  have e : gAdd (.lst xs) (.lst ys) = some (.o none (.lst (xs ++ ys))) := if_pos (decide_eq_true h)
  rw [e]
  exact ex_some
theorem cutD_to {xs : List D} {k : Int} (h : 0 ≤ k) : cutD xs none (some k) = xs.take k.toNat := by
  unfold cutD
  have e : HT.sIx xs.length xs.length (some k) = min k.toNat xs.length := by
    show (if k < 0 then _ else min k.toNat xs.length) = _
    rw [if_neg (by omega)]
  rw [e]
  show (xs.drop 0).take (min k.toNat xs.length - 0) = _
  rw [List.drop_zero, Nat.sub_zero]
  by_cases hk : k.toNat ≤ xs.length
  · rw [Nat.min_eq_left hk]
  · rw [Nat.min_eq_right (by omega), List.take_length, List.take_of_length_le (by omega)]
local macro_rules | `(tactic| walk_at "wp") => `(tactic| simp only [okF_runF, okF_runL, ok_seq, ok_ret, ok_retN, ok_andV, ok_orV, ok_notV, ok_cb, ok_cons, ok_nil, ok_test, ok_dv, ok_op, ok_un, ok_c, ok_if, ok_ifS, ok_and, ok_or, ok_not, ok_asg, ok_gname, ok_drop, ok_call, ok_chain, ok_nx, ok_bk, ok_ct, ok_st, ok_yes, ok_tup, ok_ok, ok_stuck, ex_toD, ex_toL, ex_bl, ex_some, ex_bl1, fl_nx, fl_rt, fl_bk, fl_ct, rt_or, nx_or, mVar, ok1, gIsi, mIsi2, gIsi2, isTy2, isTy, Option.bind, bare, e_add, e_sub, e_int, e_lenS, e_lenT, e_lenL, e_lt, e_le, e_gt, e_ge, e_leC, e_ltC, e_isN, e_notN, e_pow,
  List.map_cons, List.map_nil, List.length_cons, List.length_nil, List.replicate_succ, List.replicate_zero, List.cons_append, List.nil_append, List.append_nil, List.getElem?_cons_zero, List.getElem?_cons_succ, List.set_cons_zero, List.set_cons_succ, Nat.reduceAdd, Nat.reduceSub, true_and, and_true, Bool.not_true, Bool.not_false, true_implies, forall_const, not_true_eq_false, false_implies, Bool.false_eq_true, not_false_eq_true, implies_true, eq_self, ne_eq, reduceCtorEq, Fl.rt.injEq, S.d.injEq, D.int.injEq, false_and, exists_false, or_false, false_or, exists_eq_left'])
local macro_rules | `(tactic| walk_at "wt") => `(tactic| simp (config := { contextual := false }) only [ok_row0, ok_row1, ok_row2, ok_row3, ok_put1, ok_put2, ok_put3, e_mod, e_div, e_mul, e_ixS, decide_true, decide_false, *, okF_runF, okF_runL, ok_seq, ok_ret, ok_retN, ok_andV, ok_orV, ok_notV, ok_cb, ok_cons, ok_nil, ok_test, ok_dv, ok_op, ok_un, ok_c, ok_if, ok_ifS, ok_and, ok_or, ok_not, ok_asg, ok_gname, ok_drop, ok_call, ok_chain, ok_nx, ok_bk, ok_ct, ok_st, ok_yes, ok_tup, ok_ok, ok_stuck, ex_toD, ex_toL, ex_bl, ex_some, ex_bl1, fl_nx, fl_rt, fl_bk, fl_ct, rt_or, nx_or, mVar, ok1, gIsi, mIsi2, gIsi2, isTy2, isTy, Option.bind, bare, e_add, e_sub, e_int, e_lenS, e_lenT, e_lenL, e_lt, e_le, e_gt, e_ge, e_leC, e_ltC, e_isN, e_notN, e_pow,
  List.map_cons, List.map_nil, List.length_cons, List.length_nil, List.replicate_succ, List.replicate_zero, List.cons_append, List.nil_append, List.append_nil, List.getElem?_cons_zero, List.getElem?_cons_succ, List.set_cons_zero, List.set_cons_succ, Nat.reduceAdd, Nat.reduceSub, true_and, and_true, Bool.not_true, Bool.not_false, true_implies, forall_const, not_true_eq_false, false_implies, Bool.false_eq_true, not_false_eq_true, implies_true, eq_self, ne_eq, reduceCtorEq, Fl.rt.injEq, S.d.injEq, D.int.injEq, false_and, exists_false, or_false, false_or, exists_eq_left'])
local macro_rules | `(tactic| walk_at "wy") => `(tactic| try walk_at "wp")
local macro_rules | `(tactic| walk_at "we") => `(tactic| first | done | rfl | exact ⟨rfl, rfl⟩ | exact ⟨rfl, rfl, rfl⟩)

namespace Lib
def b_is_table : M Fl := (mSeq (mIfS (mNot (mTest (mCall f_is_tuple (aCons (mVar 0) (aCons (mVar 1) (aCons (mVar 1) aNil)))))) (mRet (mC (.bl false))) mNx)
    (mRet (mCB gAll (aCons (mLc (iSeq (mVar 0)) (gmName 2) mYes (mOrV (mOp gIsN (mVar 2) (mC .non)) (mCall f_is_number (aCons (mVar 2) (aCons (mC (.int 0)) (aCons (mOp gMinus (mVar 1) (mC (.int 1))) aNil))))) [2]) aNil))))
def f_is_table : Fn := runF 2 3 b_is_table
def b_check_algebra : M Fl := (mIfS (mNot (mTest (mIsC "Algebra" (mVar 0)))) mSt mNx)
def f_check_algebra : Fn := runF 1 1 b_check_algebra
def b_levels_after : M Fl := (mSeq (mAsg (mOp gIx (mFldE "Algebra" 1 (mVar 0)) (mVar 1)) (gmName 2))
    (mRet (mLc (iSeq (mVar 2)) (gmName 3) mYes (mIf (mTest (mOp gIsN (mVar 3) (mC .non))) (mC (.int 4096)) (mOp gIx (mFldE "Algebra" 0 (mVar 0)) (mVar 3))) [3])))
def f_levels_after : Fn := runF 2 4 b_levels_after
def b_least_pair (fl : Nat → Fn) : M Fl := (mSeq (mDrop (mCall f_check_algebra (aCons (mVar 0) aNil)))
    (mSeq (mFor (iRange1 (aCons (mCB gLen (aCons (mFldE "Algebra" 1 (mVar 0)) aNil)) aNil)) (gmName 2) (mSeq (mAsg (mCall f_levels_after (aCons (mVar 0) (aCons (mVar 2) aNil))) (gmName 3))
    (mFor (iEnu (aCons (mFldE "Algebra" 0 (mVar 0)) aNil)) (gmTup 2 (gmCons (gmName 4) (gmCons (gmName 5) gmNil))) (mIfS (mTruth (mLCall 1 fl (aCons (mVar 5) (aCons (mOp gIx (mVar 3) (mVar 4)) aNil)))) (mRet (mTup (aCons (mVar 2) (aCons (mVar 4) aNil)))) mNx))))
    (mRet (mC .non))))
def f_least_pair (fl : Nat → Fn) : Fn := runF 2 6 (b_least_pair fl)
def b_least_triple (fl : Nat → Fn) : M Fl := (mSeq (mDrop (mCall f_check_algebra (aCons (mVar 0) aNil)))
    (mSeq (mFor (iRange1 (aCons (mCB gLen (aCons (mFldE "Algebra" 1 (mVar 0)) aNil)) aNil)) (gmName 2) (mSeq (mAsg (mCall f_levels_after (aCons (mVar 0) (aCons (mVar 2) aNil))) (gmName 3))
    (mFor (iEnu (aCons (mFldE "Algebra" 0 (mVar 0)) aNil)) (gmTup 2 (gmCons (gmName 4) (gmCons (gmName 5) gmNil))) (mFor (iEnu (aCons (mFldE "Algebra" 0 (mVar 0)) aNil)) (gmTup 2 (gmCons (gmName 6) (gmCons (gmName 7) gmNil))) (mIfS (mTruth (mLCall 1 fl (aCons (mVar 5) (aCons (mVar 7) (aCons (mOp gIx (mVar 3) (mVar 4)) (aCons (mOp gIx (mVar 3) (mVar 6)) aNil)))))) (mRet (mTup (aCons (mVar 2) (aCons (mVar 4) (aCons (mVar 6) aNil))))) mNx)))))
    (mRet (mC .non))))
def f_least_triple (fl : Nat → Fn) : Fn := runF 2 8 (b_least_triple fl)
def tableBody : M Fl := (mSeq (mAsg (mLc (iRange1 (aCons (mVar 3) aNil)) (gmName 7) mYes (mCallO f_law_taken 0 0 (aOwn 0 (aCons (mVar 3) aNil))) [7]) (gmName 10))
    (mSeq (mIfS (mTest (mOp gEq (mVar 4) (mC (.int 1)))) (mAsg (mLc (iRange1 (aCons (mVar 3) aNil)) (gmName 7) mYes (mOp gAdd (mVar 7) (mCallO f_law_taken 0 0 (aOwn 0 (aCons (mOp gMinus (mVar 3) (mVar 7)) aNil)))) [7]) (gmName 10)) mNx)
    (mSeq (mIfS (mTest (mOp gEq (mVar 4) (mC (.int 2)))) (mAsg (mLc (iRange1 (aCons (mVar 3) aNil)) (gmName 7) mYes (mOp gAdd (mOp gAdd (mVar 7) (mC (.int 1))) (mCallO f_law_taken 0 0 (aOwn 0 (aCons (mC (.int 2)) aNil)))) [7]) (gmName 10)) mNx)
    (mSeq (mIfS (mTest (mOp gGt (mVar 4) (mC (.int 2)))) (mAsg (mCB gSorted (aCons (mVar 10) aNil)) (gmName 10)) mNx)
    (mSeq (mAsg (mLc (iSeq (mVar 10)) (gmName 11) mYes (mIf (mTest (mOp gLt (mVar 11) (mVar 3))) (mVar 11) (mC .non)) [11]) (gmName 10))
    (mSeq (mIfS (mTest (mOp gEq (mVar 5) (mC (.int 1)))) (mSeq (mAsg (mCallO f_law_taken 0 0 (aOwn 0 (aCons (mOp gAdd (mVar 3) (mC (.int 1))) aNil))) (gmName 12))
    (mAsg (mOp gAdd (mSl (mVar 10) oNone (oSome (mVar 12))) (mOp gMul (mLst (aCons (mC .non) aNil)) (mOp gMinus (mVar 3) (mVar 12)))) (gmName 10))) mNx)
    (mSeq (mIfS (mAnd (mTest (mOp gEq (mVar 5) (mC (.int 2)))) (mTest (mOp gEq (mVar 4) (mC (.int 0))))) (mAsg (mLc (iSeq (mVar 10)) (gmName 11) mYes (mIf (mTest (mOp gEq (mCallO f_law_taken 0 0 (aOwn 0 (aCons (mC (.int 4)) aNil))) (mC (.int 0)))) (mC .non) (mVar 11)) [11]) (gmName 10)) mNx)
    (mSeq (mIfS (mTest (mOp gEq (mCallO f_law_taken 0 0 (aOwn 0 (aCons (mC (.int 12)) aNil))) (mC (.int 0)))) (mAsg (mOp gMul (mLst (aCons (mC .non) aNil)) (mVar 3)) (gmName 10)) mNx)
    (mDrop (mMeth1 8 gApp (mCB gTuple (aCons (mVar 10) aNil))))))))))))
def b_law_algebra : M Fl := (mSeq (mPar3 3 false 4 false 5 false (psCons (mOp gAdd (mC (.int 1)) (mCallO f_law_taken 0 0 (aOwn 0 (aCons (mVar 1) aNil)))) (psCons (mCallO f_law_taken 0 0 (aOwn 0 (aCons (mC (.int 5)) aNil))) (psCons (mCallO f_law_taken 0 0 (aOwn 0 (aCons (mC (.int 3)) aNil))) psNil))))
    (mSeq (mAsg (mCB gTuple (aCons (mCB gSorted (aCons (mLc (iRange1 (aCons (mVar 3) aNil)) (gmName 7) mYes (mCallO f_law_taken 0 0 (aOwn 0 (aCons (mOp gAdd (mVar 1) (mC (.int 1))) aNil))) [7]) aNil)) aNil)) (gmName 6))
    (mSeq (mIfS (mTest (mOp gEq (mVar 4) (mC (.int 0)))) (mAsg (mCB gTuple (aCons (mLc (iRange1 (aCons (mVar 3) aNil)) (gmName 7) mYes (mCallO f_law_taken 0 0 (aOwn 0 (aCons (mOp gAdd (mVar 1) (mC (.int 1))) aNil))) [7]) aNil)) (gmName 6)) mNx)
    (mSeq (mAsgO 8 (mLst aNil))
    (mSeq (mFor (iRange1 (aCons (mOp gAdd (mC (.int 1)) (mCallO f_law_taken 0 0 (aOwn 0 (aCons (mVar 2) aNil)))) aNil)) (gmName 9) tableBody)
    (mRet (mTup (aCons (mVar 6) (aCons (mCB gTuple (aCons (mVar 8) aNil)) aNil)))))))))
def f_law_algebra : Fn := runF 3 13 b_law_algebra
def b_Algebra_init : M Fl := (mSeq (mIfS (mOr (mNot (mTest (mCall f_is_tuple (aCons (mVar 1) (aCons (mC (.int 1)) (aCons (mC (.int 64)) aNil)))))) (mNot (mTest (mCall f_are_numbers (aCons (mVar 1) (aCons (mC (.int 0)) (aCons (mC (.int 4095)) aNil))))))) mSt mNx)
    (mSeq (mIfS (mNot (mTest (mCall f_is_tuple (aCons (mVar 2) (aCons (mC (.int 1)) (aCons (mC (.int 64)) aNil)))))) mSt mNx)
    (mSeq (mFor (iEnu (aCons (mVar 2) aNil)) (gmTup 2 (gmCons (gmName 3) (gmCons (gmName 4) gmNil))) (mIfS (mNot (mTest (mCall f_is_table (aCons (mVar 4) (aCons (mCB gLen (aCons (mVar 1) aNil)) aNil))))) mSt mNx))
    (mSeq (mSetF "Algebra" 0 0 (mVar 1))
    (mSetF "Algebra" 1 0 (mVar 2))))))
def f_Algebra_init : Fn := runF 3 5 b_Algebra_init
def b_followed : M Fl := (mSeq (mDrop (mCall f_check_algebra (aCons (mVar 0) aNil)))
    (mSeq (mIfS (mNot (mTest (mCall f_is_tuple (aCons (mVar 1) (aCons (mC (.int 0)) (aCons (mC (.int 20)) aNil)))))) mSt mNx)
    (mSeq (mFor (iEnu (aCons (mVar 1) aNil)) (gmTup 2 (gmCons (gmName 3) (gmCons (gmName 4) gmNil))) (mIfS (mNot (mTest (mCall f_is_number (aCons (mVar 4) (aCons (mC (.int 0)) (aCons (mOp gMinus (mCB gLen (aCons (mFldE "Algebra" 1 (mVar 0)) aNil)) (mC (.int 1))) aNil)))))) mSt mNx))
    (mSeq (mIfS (mNot (mTest (mCall f_is_number (aCons (mVar 2) (aCons (mC (.int 0)) (aCons (mOp gMinus (mCB gLen (aCons (mFldE "Algebra" 0 (mVar 0)) aNil)) (mC (.int 1))) aNil)))))) mSt mNx)
    (mSeq (mAsg (mVar 2) (gmName 5))
    (mSeq (mFor (iSeq (mVar 1)) (gmName 4) (mIfS (mTest (mOp gNotN (mVar 5) (mC .non))) (mAsg (mOp gIx (mOp gIx (mFldE "Algebra" 1 (mVar 0)) (mVar 4)) (mVar 5)) (gmName 5)) mNx))
    (mRet (mVar 5))))))))
def f_followed : Fn := runF 3 6 b_followed

def tabD (t : List (Option Int)) : D := .tup (t.map oD)
/-- an algebra as it is drawn -/
structure OkAlg (most many : Int) (ls : List Int) (ts : List (List (Option Int))) : Prop where
  l1 : 1 ≤ ls.length
  l2 : (ls.length : Int) ≤ most
  lv : ∀ l ∈ ls, 0 ≤ l ∧ l ≤ most
  t1 : 1 ≤ ts.length
  t2 : (ts.length : Int) ≤ many
  tb : ∀ t ∈ ts, t.length = ls.length ∧ ∀ i, some i ∈ t → 0 ≤ i ∧ i < (ls.length : Int)
theorem law_algebra {ns : List Int} {a b c most many : Int} (h : RowOk a b c) (h1 : 1 ≤ most) (h2 : most ≤ 1000) (h3 : 1 ≤ many) (h4 : many ≤ 1000) :
    OK (f_law_algebra [.o (some 0) (rowD ns a b c), .d (.int most), .d (.int many)]) fun s ρ => ∃ ls ts a b c, s = .d (.tup [.tup (ls.map D.int), .tup (ts.map tabD)]) ∧ OkAlg most many ls ts ∧ RowOk a b c ∧ ∃ ρ', ρ = some (.o (some 0) (rowD ns a b c)) :: ρ' := by
  unfold f_law_algebra
  refine ok_runF rfl ?_
  show OK (b_law_algebra [some (.o (some 0) (rowD ns a b c)), some (.d (.int most)), some (.d (.int many)), none, none, none, none, none, none, none, none, none, none]) _
  unfold b_law_algebra
  refine ok_seqI (fun ρ => ∃ sz way den a b c, 1 ≤ sz ∧ sz ≤ most ∧ 0 ≤ way ∧ way < 5 ∧ 0 ≤ den ∧ den < 3 ∧ RowOk a b c ∧ ρ = [some (.o (some 0) (rowD ns a b c)), some (.d (.int most)), some (.d (.int many)), some (.d (.int sz)), some (.d (.int way)), some (.d (.int den)), none, none, none, none, none, none, none]) ?_ ?_
  · refine ok_par3 ?_
    simp only [ok_psCons, ok_psNil]
    walk_at "wp"
    refine ok_taken (m := most) rfl h (by walk_at "wp") (by omega) (by omega) fun v a b c v0 v1 h => ?_
    simp only [rowS_set0]
    walk_at "wp"
    refine ok_taken (m := 5) rfl h (by walk_at "wp") (by omega) (by omega) fun way a b c w0 w1 h => ?_
    simp only [rowS_set0]
    refine ok_taken (m := 3) rfl h (by walk_at "wp") (by omega) (by omega) fun den a b c d0 d1 h => ?_
    simp only [rowS_set0]
    exact ⟨_, _, _, _, _, _, rfl, rfl, rfl, rfl, 1 + v, way, den, a, b, c, by omega, by omega, w0, w1, d0, d1, h, rfl⟩
  rintro _ ⟨sz, way, den, a, b, c, s1, s2, w0, w1, d0, d1, h, rfl⟩
  refine ok_seqI (fun ρ => ∃ (ls : List Int) (a b c : Int), (ls.length : Int) = sz ∧ (∀ l ∈ ls, 0 ≤ l ∧ l ≤ most) ∧ RowOk a b c ∧ ρ = [some (.o (some 0) (rowD ns a b c)), some (.d (.int most)), some (.d (.int many)), some (.d (.int sz)), some (.d (.int way)), some (.d (.int den)), some (.d (.tup (ls.map D.int))), none, none, none, none, none, none]) ?_ ?_
  · walk_at "wp"
    refine ok_draws (r := 0) (k := 7) (o := some 0) (ns := ns) (n := sz) (m := most + 1) rfl h (by decide) (by walk_at "wp") (by omega) (by omega) ?_ (by omega) (by omega) fun vs a b c hl hv h => ?_
    · rintro ρ' ⟨a, b, c, x, rfl⟩
      walk_at "wp"
    · walk_at "wp"
      simp only [e_sorted, e_tupleL]
      walk_at "wp"
      simp only [e_tupleL]
      walk_at "wp"
      refine ⟨isort vs, a, b, c, by rw [(isort_perm vs).length_eq]; exact hl, fun l hm => ?_, h, rfl⟩
      have := hv l ((isort_perm vs).mem_iff.mp hm)
      omega
  rintro _ ⟨ls, a, b, c, hl, hv, h, rfl⟩
  refine ok_seqI (fun ρ => ∃ (ls : List Int) (a b c : Int), (ls.length : Int) = sz ∧ (∀ l ∈ ls, 0 ≤ l ∧ l ≤ most) ∧ RowOk a b c ∧ ρ = [some (.o (some 0) (rowD ns a b c)), some (.d (.int most)), some (.d (.int many)), some (.d (.int sz)), some (.d (.int way)), some (.d (.int den)), some (.d (.tup (ls.map D.int))), none, none, none, none, none, none]) ?_ ?_
  · refine ok_ifI (b := decide (way = 0)) ?_ ?_ ?_
    · walk_at "wp"
      simp only [eq_int]
      walk_at "wp"
    · intro _
      walk_at "wp"
      refine ok_draws (r := 0) (k := 7) (o := some 0) (ns := ns) (n := sz) (m := most + 1) rfl h (by decide) (by walk_at "wp") (by omega) (by omega) ?_ (by omega) (by omega) fun vs a b c hl hv h => ?_
      · rintro ρ' ⟨a, b, c, x, rfl⟩
        walk_at "wp"
      · walk_at "wp"
        simp only [e_tupleL]
        walk_at "wp"
        exact ⟨vs, a, b, c, hl, fun l hm => (by have := hv l hm; omega), h, rfl⟩
    · intro _
      rw [ok_nx]
      exact ⟨rfl, ls, a, b, c, hl, hv, h, rfl⟩
  clear hl hv h ls
  rintro _ ⟨ls, a, b, c, hl, hv, h, rfl⟩
  refine ok_seqI (fun ρ => ρ = [some (.o (some 0) (rowD ns a b c)), some (.d (.int most)), some (.d (.int many)), some (.d (.int sz)), some (.d (.int way)), some (.d (.int den)), some (.d (.tup (ls.map D.int))), none, some (.o none (.lst [])), none, none, none, none]) ?_ ?_
  · rw [ok_asgO]
    simp only [ok_lst]
    walk_at "wp"
    exact ⟨rfl, .lst [], rfl, rfl⟩
  rintro _ rfl
  refine ok_seqI (fun ρ => ∃ (ts : List (List (Option Int))) (a b c : Int) (x7 x9 x10 x11 x12 : Option S), 1 ≤ ts.length ∧ (ts.length : Int) ≤ many ∧ (∀ t ∈ ts, (t.length : Int) = sz ∧ ∀ i, some i ∈ t → 0 ≤ i ∧ i < sz) ∧ RowOk a b c ∧ ρ = [some (.o (some 0) (rowD ns a b c)), some (.d (.int most)), some (.d (.int many)), some (.d (.int sz)), some (.d (.int way)), some (.d (.int den)), some (.d (.tup (ls.map D.int))), x7, some (.o none (.lst (ts.map tabD))), x9, x10, x11, x12]) ?_ ?_
  · rw [ok_for]
    have body : ∀ (x : D) (ts : List (List (Option Int))) (a b c : Int) (x7 x9 x10 x11 x12 : Option S), RowOk a b c → ts.length < 16777216 → OK (gmName 9 x [some (.o (some 0) (rowD ns a b c)), some (.d (.int most)), some (.d (.int many)), some (.d (.int sz)), some (.d (.int way)), some (.d (.int den)), some (.d (.tup (ls.map D.int))), x7, some (.o none (.lst (ts.map tabD))), x9, x10, x11, x12]) fun _ ρ1 => OK (tableBody ρ1) fun f ρ2 => f = .nx ∧ ∃ (os : List (Option Int)) (a b c : Int) (x7 x9 x10 x11 x12 : Option S), (os.length : Int) = sz ∧ (∀ i, some i ∈ os → 0 ≤ i ∧ i < sz) ∧ RowOk a b c ∧ ρ2 = [some (.o (some 0) (rowD ns a b c)), some (.d (.int most)), some (.d (.int many)), some (.d (.int sz)), some (.d (.int way)), some (.d (.int den)), some (.d (.tup (ls.map D.int))), x7, some (.o none (.lst ((ts ++ [os]).map tabD))), x9, x10, x11, x12] := by
      intro x ts a b c x7 x9 x10 x11 x12 h hz
      walk_at "wp"
      unfold tableBody
      refine ok_seqI (fun ρ => ∃ (vs : List Int) (a b c : Int) (x7 x11 x12 : Option S), (vs.length : Int) = sz ∧ (∀ v ∈ vs, 0 ≤ v) ∧ RowOk a b c ∧ ρ = [some (.o (some 0) (rowD ns a b c)), some (.d (.int most)), some (.d (.int many)), some (.d (.int sz)), some (.d (.int way)), some (.d (.int den)), some (.d (.tup (ls.map D.int))), x7, some (.o none (.lst (ts.map tabD))), some (.d x), some (.d (.lst (vs.map D.int))), x11, x12]) ?_ ?_
      · walk_at "wp"
        refine ok_draws (r := 0) (k := 7) (o := some 0) (ns := ns) (n := sz) (m := sz) rfl h (by decide) (by walk_at "wp") (by omega) (by omega) ?_ (by omega) (by omega) fun vs a b c hl hv h => ?_
        · rintro ρ' ⟨a, b, c, x, rfl⟩
          walk_at "wp"
        · walk_at "wp"
          exact ⟨vs, a, b, c, _, _, _, hl, fun v hm => (hv v hm).1, h, rfl⟩
      rintro _ ⟨vs, a, b, c, x7, x11, x12, hl, hv, h, rfl⟩
      refine ok_seqI (fun ρ => ∃ (vs : List Int) (a b c : Int) (x7 x11 x12 : Option S), (vs.length : Int) = sz ∧ (∀ v ∈ vs, 0 ≤ v) ∧ RowOk a b c ∧ ρ = [some (.o (some 0) (rowD ns a b c)), some (.d (.int most)), some (.d (.int many)), some (.d (.int sz)), some (.d (.int way)), some (.d (.int den)), some (.d (.tup (ls.map D.int))), x7, some (.o none (.lst (ts.map tabD))), some (.d x), some (.d (.lst (vs.map D.int))), x11, x12]) ?_ ?_
      · refine ok_ifI (b := decide (way = 1)) ?_ ?_ ?_
        · walk_at "wp"
          simp only [eq_int]
          walk_at "wp"
        · intro _
          walk_at "wp"
          rw [ok_lc]
          refine ok_range1 (n := sz) ?_
          walk_at "wp"
          refine ⟨by omega, by omega, ?_⟩
          simp only [wipeE]
          walk_at "wp"
          refine ok_compR (r := 0) (o := some 0) (ns := ns) (fun _ y => ∃ v, y = .int v ∧ 0 ≤ v) rfl h rfl (by decide) ?_ (by rw [intsFrom_length]; omega) ?_
          · intro i x a b c ρ' hx h e er
            obtain ⟨rfl, hi⟩ := intsFrom_at hx
            subst e
            simp only [rowS_set0]
            walk_at "wp"
            refine ok_taken (m := sz - i) rfl h (by walk_at "wp") (by omega) (by omega) fun v a b c v0 v1 h => ?_
            simp only [rowS_set0]
            walk_at "wp"
            exact ⟨by omega, a, b, c, h, rfl⟩
          · intro ys a b c hl' hg h
            rw [intsFrom_length] at hl'
            obtain ⟨vs, rfl, hvl, hv⟩ := intsD_get (Good := fun v => 0 ≤ v) hg
            exact ⟨vs, a, b, c, _, _, _, by omega, hv, h, rfl⟩
        · intro _
          rw [ok_nx]
          exact ⟨rfl, vs, a, b, c, x7, x11, x12, hl, hv, h, rfl⟩
      clear hl hv h vs
      rintro _ ⟨vs, a, b, c, x7, x11, x12, hl, hv, h, rfl⟩
      refine ok_seqI (fun ρ => ∃ (vs : List Int) (a b c : Int) (x7 x11 x12 : Option S), (vs.length : Int) = sz ∧ (∀ v ∈ vs, 0 ≤ v) ∧ RowOk a b c ∧ ρ = [some (.o (some 0) (rowD ns a b c)), some (.d (.int most)), some (.d (.int many)), some (.d (.int sz)), some (.d (.int way)), some (.d (.int den)), some (.d (.tup (ls.map D.int))), x7, some (.o none (.lst (ts.map tabD))), some (.d x), some (.d (.lst (vs.map D.int))), x11, x12]) ?_ ?_
      · refine ok_ifI (b := decide (way = 2)) ?_ ?_ ?_
        · walk_at "wp"
          simp only [eq_int]
          walk_at "wp"
        · intro _
          walk_at "wp"
          rw [ok_lc]
          refine ok_range1 (n := sz) ?_
          walk_at "wp"
          refine ⟨by omega, by omega, ?_⟩
          simp only [wipeE]
          walk_at "wp"
          refine ok_compR (r := 0) (o := some 0) (ns := ns) (fun _ y => ∃ v, y = .int v ∧ 0 ≤ v) rfl h rfl (by decide) ?_ (by rw [intsFrom_length]; omega) ?_
          · intro i x a b c ρ' hx h e er
            obtain ⟨rfl, hi⟩ := intsFrom_at hx
            subst e
            simp only [rowS_set0]
            walk_at "wp"
            refine ok_taken (m := 2) rfl h (by walk_at "wp") (by omega) (by omega) fun v a b c v0 v1 h => ?_
            simp only [rowS_set0]
            walk_at "wp"
            exact ⟨by omega, a, b, c, h, rfl⟩
          · intro ys a b c hl' hg h
            rw [intsFrom_length] at hl'
            obtain ⟨vs, rfl, hvl, hv⟩ := intsD_get (Good := fun v => 0 ≤ v) hg
            exact ⟨vs, a, b, c, _, _, _, by omega, hv, h, rfl⟩
        · intro _
          rw [ok_nx]
          exact ⟨rfl, vs, a, b, c, x7, x11, x12, hl, hv, h, rfl⟩
      clear hl hv h vs
      rintro _ ⟨vs, a, b, c, x7, x11, x12, hl, hv, h, rfl⟩
      refine ok_seqI (fun ρ => ∃ (vs : List Int) (a b c : Int) (x7 x11 x12 : Option S), (vs.length : Int) = sz ∧ (∀ v ∈ vs, 0 ≤ v) ∧ RowOk a b c ∧ ρ = [some (.o (some 0) (rowD ns a b c)), some (.d (.int most)), some (.d (.int many)), some (.d (.int sz)), some (.d (.int way)), some (.d (.int den)), some (.d (.tup (ls.map D.int))), x7, some (.o none (.lst (ts.map tabD))), some (.d x), some (.d (.lst (vs.map D.int))), x11, x12]) ?_ ?_
      · refine ok_ifI (b := decide (2 < way)) ?_ ?_ ?_
        · walk_at "wp"
        · intro _
          walk_at "wp"
          simp only [e_sorted]
          walk_at "wp"
          exact ⟨isort vs, a, b, c, x7, x11, x12, by rw [(isort_perm vs).length_eq]; exact hl, fun v hm => hv v ((isort_perm vs).mem_iff.mp hm), h, rfl⟩
        · intro _
          rw [ok_nx]
          exact ⟨rfl, vs, a, b, c, x7, x11, x12, hl, hv, h, rfl⟩
      clear hl hv h vs
      rintro _ ⟨vs, a, b, c, x7, x11, x12, hl, hv, h, rfl⟩
      refine ok_seqI (fun ρ => ∃ (os : List (Option Int)) (a b c : Int) (x7 x11 x12 : Option S), (os.length : Int) = sz ∧ (∀ i, some i ∈ os → 0 ≤ i ∧ i < sz) ∧ RowOk a b c ∧ ρ = [some (.o (some 0) (rowD ns a b c)), some (.d (.int most)), some (.d (.int many)), some (.d (.int sz)), some (.d (.int way)), some (.d (.int den)), some (.d (.tup (ls.map D.int))), x7, some (.o none (.lst (ts.map tabD))), some (.d x), some (.d (.lst (os.map oD))), x11, x12]) ?_ ?_
      · walk_at "wp"
        simp only [ok_lc, ok_iseq]
        walk_at "wp"
        simp only [itemsD, ex_some, wipeE]
        walk_at "wp"
        refine ok_map (f := fun y => match y with | .int v => (if v < sz then .int v else .non) | y => y) rfl ?_ (by rw [List.length_map]; omega) ?_
        · intro y hy
          obtain ⟨v, _, rfl⟩ := List.mem_map.mp hy
          walk_at "wp"
          simp only [decide_eq_true_eq]
          by_cases hvs : v < sz
          · simp [hvs]
          · simp [hvs]
        · refine ⟨vs.map fun v => if v < sz then some v else none, a, b, c, x7, none, x12, by rw [List.length_map]; exact hl, fun i hi => ?_, h, ?_⟩
          · obtain ⟨v, hm, e⟩ := List.mem_map.mp hi
            have := hv v hm
            split at e
            · cases e
              omega
            · cases e
          · have e : List.map (fun y => match y with | .int v => (if v < sz then D.int v else D.non) | y => y) (List.map D.int vs) = (vs.map fun v => if v < sz then some v else none).map oD := by
              rw [List.map_map, List.map_map]
              refine List.map_congr_left fun v _ => ?_
              show (if v < sz then D.int v else D.non) = oD (if v < sz then some v else none)
              split <;> rfl
            rw [e]
            rfl
      rintro _ ⟨os, a, b, c, x7, x11, x12, hl, hv, h, rfl⟩
      refine ok_seqI (fun ρ => ∃ (os : List (Option Int)) (a b c : Int) (x7 x11 x12 : Option S), (os.length : Int) = sz ∧ (∀ i, some i ∈ os → 0 ≤ i ∧ i < sz) ∧ RowOk a b c ∧ ρ = [some (.o (some 0) (rowD ns a b c)), some (.d (.int most)), some (.d (.int many)), some (.d (.int sz)), some (.d (.int way)), some (.d (.int den)), some (.d (.tup (ls.map D.int))), x7, some (.o none (.lst (ts.map tabD))), some (.d x), some (.d (.lst (os.map oD))), x11, x12]) ?_ ?_
      · refine ok_ifI (b := decide (den = 1)) ?_ ?_ ?_
        · walk_at "wp"
          simp only [eq_int]
          walk_at "wp"
        · intro _
          walk_at "wp"
          refine ok_taken (m := sz + 1) rfl h (by walk_at "wp") (by omega) (by omega) fun cut a b c c0 c1 h => ?_
          simp only [rowS_set0]
          walk_at "wp"
          refine ok_sl ?_
          walk_at "wp"
          rw [ok_onone]
          refine ok_osome ?_
          walk_at "wp"
          refine ⟨.o none (.lst (cutD (os.map oD) none (some cut))), rfl, ?_⟩
          walk_at "wp"
          simp only [ok_lst]
          walk_at "wp"
          refine ⟨rfl, ?_⟩
          rw [e_times (by omega) (by omega)]
          walk_at "wp"
          have hlen : (cutD (os.map oD) none (some cut)).length + (List.replicate (sz - cut).toNat D.non).length ≤ 16777216 := by
            rw [cutD_to c0, List.length_take, List.length_map, List.length_replicate]
            omega
          rw [e_catL hlen]
          walk_at "wp"
          refine ⟨os.take cut.toNat ++ List.replicate (sz - cut).toNat none, a, b, c, x7, x11, some (.d (.int cut)), ?_, ?_, h, ?_⟩
          · rw [List.length_append, List.length_take, List.length_replicate]
            omega
          · intro i hi
            rcases List.mem_append.mp hi with hi | hi
            · exact hv i (List.mem_of_mem_take hi)
            · exact nomatch (List.mem_replicate.mp hi).2
          · have e : cutD (os.map oD) none (some cut) ++ List.replicate (sz - cut).toNat D.non = (os.take cut.toNat ++ List.replicate (sz - cut).toNat none).map oD := by
              rw [cutD_to c0, List.map_append, List.map_take, List.map_replicate]
              rfl
            rw [e]
        · intro _
          rw [ok_nx]
          exact ⟨rfl, os, a, b, c, x7, x11, x12, hl, hv, h, rfl⟩
      clear hl hv h os
      rintro _ ⟨os, a, b, c, x7, x11, x12, hl, hv, h, rfl⟩
      refine ok_seqI (fun ρ => ∃ (os : List (Option Int)) (a b c : Int) (x7 x11 x12 : Option S), (os.length : Int) = sz ∧ (∀ i, some i ∈ os → 0 ≤ i ∧ i < sz) ∧ RowOk a b c ∧ ρ = [some (.o (some 0) (rowD ns a b c)), some (.d (.int most)), some (.d (.int many)), some (.d (.int sz)), some (.d (.int way)), some (.d (.int den)), some (.d (.tup (ls.map D.int))), x7, some (.o none (.lst (ts.map tabD))), some (.d x), some (.d (.lst (os.map oD))), x11, x12]) ?_ ?_
      · refine ok_ifI (b := decide (den = 2) && decide (way = 0)) ?_ ?_ ?_
        · walk_at "wp"
          simp only [eq_int]
          walk_at "wp"
          by_cases q : den = 2 <;> simp [q]
        · intro _
          walk_at "wp"
          simp only [ok_lc, ok_iseq]
          walk_at "wp"
          simp only [itemsD, ex_some, wipeE]
          walk_at "wp"
          refine ok_compR (r := 0) (o := some 0) (ns := ns) (fun i y => ∃ v, y = Lib.oD v ∧ (v = none ∨ os[i]? = some v)) rfl h rfl (by decide) ?_ (by rw [List.length_map]; omega) ?_
          · intro i y a b c ρ' hx h e er
            rw [List.getElem?_map] at hx
            obtain ⟨v, hv', rfl⟩ := Option.map_eq_some_iff.mp hx
            subst e
            simp only [rowS_set0]
            walk_at "wp"
            refine ok_taken (m := 4) rfl h (by walk_at "wp") (by omega) (by omega) fun w a b c w0 w1 h => ?_
            simp only [rowS_set0]
            walk_at "wp"
            simp only [eq_int]
            walk_at "wp"
            refine ⟨fun _ => ⟨⟨none, rfl, .inl rfl⟩, a, b, c, h, rfl⟩, fun _ => ⟨⟨v, rfl, .inr hv'⟩, a, b, c, h, rfl⟩⟩
          · intro ys a b c hl' hg h
            rw [List.length_map] at hl'
            obtain ⟨vs, rfl, hvl, hv2⟩ := optsD_get (Good := fun v => v = none ∨ v ∈ os) fun i y hy => (by
              obtain ⟨v, e, k⟩ := hg i y hy
              exact ⟨v, e, k.imp id fun k => List.mem_of_getElem? k⟩)
            refine ⟨vs, a, b, c, x7, none, x12, by omega, fun i hi => ?_, h, rfl⟩
            rcases hv2 _ hi with k | k
            · cases k
            · exact hv i k
        · intro _
          rw [ok_nx]
          exact ⟨rfl, os, a, b, c, x7, x11, x12, hl, hv, h, rfl⟩
      clear hl hv h os
      rintro _ ⟨os, a, b, c, x7, x11, x12, hl, hv, h, rfl⟩
      refine ok_seqI (fun ρ => ∃ (os : List (Option Int)) (a b c : Int) (x7 x11 x12 : Option S), (os.length : Int) = sz ∧ (∀ i, some i ∈ os → 0 ≤ i ∧ i < sz) ∧ RowOk a b c ∧ ρ = [some (.o (some 0) (rowD ns a b c)), some (.d (.int most)), some (.d (.int many)), some (.d (.int sz)), some (.d (.int way)), some (.d (.int den)), some (.d (.tup (ls.map D.int))), x7, some (.o none (.lst (ts.map tabD))), some (.d x), some (.d (.lst (os.map oD))), x11, x12]) ?_ ?_
      · rw [ok_ifS]
        walk_at "wp"
        refine ok_taken (m := 12) rfl h (by walk_at "wp") (by omega) (by omega) fun w a b c w0 w1 h => ?_
        simp only [rowS_set0]
        walk_at "wp"
        simp only [eq_int]
        walk_at "wp"
        refine ⟨fun _ => ?_, fun _ => ⟨os, a, b, c, x7, x11, x12, hl, hv, h, rfl⟩⟩
        simp only [ok_lst]
        walk_at "wp"
        refine ⟨rfl, ?_⟩
        rw [e_times (by omega) (by omega)]
        walk_at "wp"
        refine ⟨List.replicate sz.toNat none, a, b, c, x7, x11, x12, ?_, ?_, h, ?_⟩
        · rw [List.length_replicate]
          omega
        · intro i hi
          exact nomatch (List.mem_replicate.mp hi).2
        · rw [List.map_replicate]
          rfl
      clear hl hv h os
      rintro _ ⟨os, a, b, c, x7, x11, x12, hl, hv, h, rfl⟩
      walk_at "wp"
      refine ok_app (o := none) (ds := ts.map tabD) rfl ?_
      walk_at "wp"
      simp only [e_tupleL]
      walk_at "wp"
      refine ⟨decide_eq_true (by rw [List.length_map]; omega), os, a, b, c, x7, some (.d x), some (.d (.lst (os.map oD))), x11, x12, hl, hv, h, ?_⟩
      rw [List.map_append]
      rfl
    refine ok_range1e ?_
    walk_at "wp"
    refine ok_taken (m := many) rfl h (by walk_at "wp") (by omega) (by omega) fun w a b c v0 v1 h => ?_
    simp only [rowS_set0]
    walk_at "wp"
    refine ⟨1 + w, rfl, by omega, by omega, ?_⟩
    refine ok_loop (k := 0) (I := fun i ρ => ∃ (ts : List (List (Option Int))) (a b c : Int) (x7 x9 x10 x11 x12 : Option S), ts.length = i ∧ (i : Int) ≤ 1 + w ∧ (∀ t ∈ ts, (t.length : Int) = sz ∧ ∀ i, some i ∈ t → 0 ≤ i ∧ i < sz) ∧ RowOk a b c ∧ ρ = [some (.o (some 0) (rowD ns a b c)), some (.d (.int most)), some (.d (.int many)), some (.d (.int sz)), some (.d (.int way)), some (.d (.int den)), some (.d (.tup (ls.map D.int))), x7, some (.o none (.lst (ts.map tabD))), x9, x10, x11, x12]) ⟨[], a, b, c, none, none, none, none, none, rfl, by omega, (fun t ht => absurd ht (List.not_mem_nil)), h, rfl⟩ ?_ ?_
    · rintro i x ρ hx ⟨ts, a, b, c, x7, x9, x10, x11, x12, e, le, ht, h, rfl⟩
      obtain ⟨_, hi⟩ := intsFrom_at hx
      refine (body x ts a b c x7 x9 x10 x11 x12 h (by omega)).imp fun _ ρ1 h1 => h1.imp fun f ρ2 h2 => ?_
      obtain ⟨rfl, os, a, b, c, x7, x9, x10, x11, x12, ho, hq, h, rfl⟩ := h2
      refine ⟨fun _ => ⟨ts ++ [os], a, b, c, x7, x9, x10, x11, x12, by rw [List.length_append, e]; rfl, by omega, fun t hm => ?_, h, rfl⟩, fun n => (by cases n), fun s n => (by cases n)⟩
      rcases List.mem_append.mp hm with hm | hm
      · exact ht t hm
      · rw [List.mem_singleton.mp hm]
        exact ⟨ho, hq⟩
    · rintro ρ ⟨ts, a, b, c, x7, x9, x10, x11, x12, e, le, ht, h, rfl⟩
      rw [intsFrom_length] at e
      exact ⟨rfl, ts, a, b, c, x7, x9, x10, x11, x12, by omega, by omega, ht, h, rfl⟩
  rintro _ ⟨ts, a, b, c, x7, x9, x10, x11, x12, t1, t2, t3, h, rfl⟩
  walk_at "wp"
  show OK (.ok _ _) _
  walk_at "wp"
  simp only [e_tupleL]
  walk_at "wp"
  exact ⟨rfl, ls, ts, a, b, c, rfl, ⟨by omega, by omega, hv, t1, t2, fun t ht => ⟨by have := (t3 t ht).1; omega, fun i hi => by have := (t3 t ht).2 i hi; omega⟩⟩, h, _, rfl⟩
end Lib
end Fx

/-! algebras on data: made, checked, followed -/
namespace Fx
open PySem
theorem ok_make {n : String} {nf : Nat} {F : Fn} {fA : M (List D)} {ρ : En} {P : S → En → Prop} (h : OK (fA ρ) fun ds ρ1 => OK (F (S.o (some 0) (D.ins n []) :: ds.map S.d)) fun s ρ' => s = .d .non ∧ ∃ fs, ρ'[0]? = some (some (.o (some 0) (.ins n fs))) ∧ fs.length = nf ∧ P (.d (.ins n fs)) ρ1) : OK (mMake n nf F fA ρ) P := by
  unfold mMake
  rw [ok_then]
  refine h.imp fun ds ρ1 h => ?_
  obtain ⟨s, ρ', e, rfl, fs, e2, hl, k⟩ := h.at
  rw [e]
  dsimp only
  rw [e2]
  dsimp only
  rw [if_pos ⟨rfl, rfl, hl⟩]
  exact ok_of k
theorem ok_setF {n : String} {i k : Nat} {fe : M S} {ρ : En} {PF : Fl → En → Prop} (h : OK (dv fe ρ) fun x ρ1 => ∃ b ds, ρ1[k]? = some (some (.o b (.ins n ds))) ∧ ds.length = i ∧ PF .nx (ρ1.set k (some (.o b (.ins n (ds ++ [x])))))) : OK (mSetF n i k fe ρ) PF := by
  unfold mSetF
  rw [ok_then]
  refine h.imp fun x ρ1 ⟨b, ds, e, hl, q⟩ => ?_
  rw [e]
  dsimp only
  rw [if_pos ⟨rfl, hl⟩]
  exact ok_of q
theorem ok_ienu {fA : M (List D)} {ρ : En} {P : List D → En → Prop} (h : OK (fA ρ) fun ds ρ1 => ∃ x es, ds = [x] ∧ itemsD x = some es ∧ P (enumD 0 es) ρ1) : OK (iEnu fA ρ) P := by
  unfold iEnu
  rw [ok_then]
  refine h.imp fun ds ρ1 ⟨x, es, e, e2, q⟩ => ?_
  subst e
  dsimp only
  rw [e2]
  exact ok_of q
theorem enumD_at {ds : List D} {i : Nat} {x : D} (h : (enumD 0 ds)[i]? = some x) : ∃ d, ds[i]? = some d ∧ x = .tup [.int (i : Nat), d] := by
  have hi := (List.getElem?_eq_some_iff.mp h).1
  rw [enumD_length] at hi
  have e := List.getElem?_eq_getElem hi
  rw [enumD_get ds 0 i _ e] at h
  cases h
  exact ⟨_, e, by rw [Nat.zero_add]⟩
theorem ok_gtup2 {i j : Nat} {x y : D} {ρ : En} {P : Unit → En → Prop} (h : P () ((ρ.set i (some (.d x))).set j (some (.d y)))) : OK (gmTup 2 (gmCons (gmName i) (gmCons (gmName j) gmNil)) (.tup [x, y]) ρ) P := ok_of h
theorem ok_fld {n : String} {i : Nat} {fe : M S} {ρ : En} {P : S → En → Prop} (h : OK (dv fe ρ) fun x ρ1 => ∃ ds y, x = .ins n ds ∧ ds[i]? = some y ∧ P (.d y) ρ1) : OK (mFldE n i fe ρ) P := by
  unfold mFldE
  rw [ok_un]
  refine h.imp fun x ρ1 ⟨ds, y, e, e2, q⟩ => ⟨.d y, ?_, q⟩
  subst e
  show (if n = n then (ds[i]?).bind ok1 else none) = _
  rw [if_pos rfl, e2]
  rfl
theorem ok_truth {fe : M S} {ρ : En} {PB : Bool → En → Prop} (h : OK (dv fe ρ) fun x ρ1 => ∃ b, truD x = some b ∧ PB b ρ1) : OK (mTruth fe ρ) PB := by
  unfold mTruth
  rw [ok_then]
  refine h.imp fun x ρ1 ⟨b, e, q⟩ => ?_
  rw [e]
  exact ok_of q
theorem ok_lcall {i k : Nat} {fl : Nat → Fn} {fA : M (List D)} {ρ : En} {P : S → En → Prop} (e : ρ[i]? = some (some (.d (.fn k)))) (h : OK (mCall (fl k) fA ρ) P) : OK (mLCall i fl fA ρ) P := by
  unfold mLCall
  rw [e]
  exact h
local macro_rules | `(tactic| walk_at "wp") => `(tactic| simp only [okF_runF, okF_runL, ok_seq, ok_ret, ok_retN, ok_andV, ok_orV, ok_notV, ok_cb, ok_cons, ok_nil, ok_test, ok_dv, ok_op, ok_un, ok_c, ok_if, ok_ifS, ok_and, ok_or, ok_not, ok_asg, ok_gname, ok_drop, ok_call, ok_chain, ok_nx, ok_bk, ok_ct, ok_st, ok_yes, ok_tup, ok_ok, ok_stuck, ex_toD, ex_toL, ex_bl, ex_some, ex_bl1, fl_nx, fl_rt, fl_bk, fl_ct, rt_or, nx_or, mVar, ok1, gIsi, mIsi2, gIsi2, isTy2, isTy, Option.bind, bare, e_add, e_sub, e_int, e_lenS, e_lenT, e_lenL, e_lt, e_le, e_gt, e_ge, e_leC, e_ltC, e_isN, e_notN, e_pow,
  List.map_cons, List.map_nil, List.length_cons, List.length_nil, List.replicate_succ, List.replicate_zero, List.cons_append, List.nil_append, List.append_nil, List.getElem?_cons_zero, List.getElem?_cons_succ, List.set_cons_zero, List.set_cons_succ, Nat.reduceAdd, Nat.reduceSub, true_and, and_true, Bool.not_true, Bool.not_false, true_implies, forall_const, not_true_eq_false, false_implies, Bool.false_eq_true, not_false_eq_true, implies_true, eq_self, ne_eq, reduceCtorEq, Fl.rt.injEq, S.d.injEq, D.int.injEq, false_and, exists_false, or_false, false_or, exists_eq_left'])
local macro_rules | `(tactic| walk_at "wt") => `(tactic| simp (config := { contextual := false }) only [ok_row0, ok_row1, ok_row2, ok_row3, ok_put1, ok_put2, ok_put3, e_mod, e_div, e_mul, e_ixS, decide_true, decide_false, *, okF_runF, okF_runL, ok_seq, ok_ret, ok_retN, ok_andV, ok_orV, ok_notV, ok_cb, ok_cons, ok_nil, ok_test, ok_dv, ok_op, ok_un, ok_c, ok_if, ok_ifS, ok_and, ok_or, ok_not, ok_asg, ok_gname, ok_drop, ok_call, ok_chain, ok_nx, ok_bk, ok_ct, ok_st, ok_yes, ok_tup, ok_ok, ok_stuck, ex_toD, ex_toL, ex_bl, ex_some, ex_bl1, fl_nx, fl_rt, fl_bk, fl_ct, rt_or, nx_or, mVar, ok1, gIsi, mIsi2, gIsi2, isTy2, isTy, Option.bind, bare, e_add, e_sub, e_int, e_lenS, e_lenT, e_lenL, e_lt, e_le, e_gt, e_ge, e_leC, e_ltC, e_isN, e_notN, e_pow,
  List.map_cons, List.map_nil, List.length_cons, List.length_nil, List.replicate_succ, List.replicate_zero, List.cons_append, List.nil_append, List.append_nil, List.getElem?_cons_zero, List.getElem?_cons_succ, List.set_cons_zero, List.set_cons_succ, Nat.reduceAdd, Nat.reduceSub, true_and, and_true, Bool.not_true, Bool.not_false, true_implies, forall_const, not_true_eq_false, false_implies, Bool.false_eq_true, not_false_eq_true, implies_true, eq_self, ne_eq, reduceCtorEq, Fl.rt.injEq, S.d.injEq, D.int.injEq, false_and, exists_false, or_false, false_or, exists_eq_left'])
local macro_rules | `(tactic| walk_at "wy") => `(tactic| try walk_at "wp")
local macro_rules | `(tactic| walk_at "we") => `(tactic| first | done | rfl | exact ⟨rfl, rfl⟩ | exact ⟨rfl, rfl, rfl⟩)

namespace Lib
def algD (ls : List Int) (ts : List (List (Option Int))) : D := .ins "Algebra" [.tup (ls.map D.int), .tup (ts.map tabD)]
theorem nums1 {ls : List Int} {lo hi : Int} {K : S → Prop} (hl : ls.length ≤ 16777216) (hv : ∀ l ∈ ls, lo ≤ l ∧ l ≤ hi) (h : K (.d (.bl true))) : OKF (f_are_numbers [.d (.tup (ls.map D.int)), .d (.int lo), .d (.int hi)]) K := by
  have e : ls.map D.int = (ls.map some).map oD := by
    rw [List.map_map]
    rfl
  rw [e]
  refine nums (by rw [List.length_map]; exact hl) ?_
  have e2 : (ls.map some).all (numB lo hi) = true := by
    rw [List.all_eq_true]
    intro o ho
    obtain ⟨l, hm, rfl⟩ := List.mem_map.mp ho
    have := hv l hm
    simp [numB, this.1, this.2]
  rw [e2]
  exact h
theorem table {t : List (Option Int)} {n : Int} {K : S → Prop} (hl : (t.length : Int) = n) (hn : n ≤ 1000) (ht : ∀ i, some i ∈ t → 0 ≤ i ∧ i < n) (h : K (.d (.bl true))) : OKF (f_is_table [.d (tabD t), .d (.int n)]) K := by
  unfold f_is_table b_is_table tabD
  walk_at "wp"
  rw [tup, List.length_map, hl]
  walk_at "wp"
  have e : (decide (n ≤ n)) = true := decide_eq_true (Int.le_refl n)
  simp only [e, Bool.and_true]
  walk_at "wp"
  simp only [ok_lc, ok_iseq]
  walk_at "wp"
  simp only [itemsD, ex_some, wipeE]
  walk_at "wp"
  refine ok_map (f := fun _ => .bl true) rfl ?_ (by rw [List.length_map]; omega) ?_
  · intro y hy
    obtain ⟨o, ho, rfl⟩ := List.mem_map.mp hy
    walk_at "wp"
    cases o with
    | none => exact fun n => absurd rfl n
    | some i =>
      intro _
      rw [num]
      have := ht i ho
      have e : numB 0 (n - 1) (some i) = true := by
        show (decide (0 ≤ i) && decide (i ≤ n - 1)) = true
        rw [decide_eq_true this.1, decide_eq_true (show i ≤ n - 1 by omega)]
        rfl
      rw [e]
      exact ⟨rfl, _, rfl, rfl⟩
  · refine ⟨.d (.bl true), ?_, h⟩
    show (blsD _).bind _ = _
    rw [blsD_map (g := fun _ => true), Option.bind_some]
    show ok1 (.bl ((List.map (fun _ => true) (t.map oD)).all id)) = _
    rw [List.all_map]
    simp [ok1]
theorem made {most many : Int} {ls : List Int} {ts : List (List (Option Int))} (o : OkAlg most many ls ts) (h1 : most ≤ 64) (h2 : many ≤ 64) :
    OK (f_Algebra_init [.o (some 0) (.ins "Algebra" []), .d (.tup (ls.map D.int)), .d (.tup (ts.map tabD))]) fun s ρ => s = .d .non ∧ ρ[0]? = some (some (.o (some 0) (algD ls ts))) := by
  obtain ⟨l1, l2, lv, t1, t2, tb⟩ := o
  unfold f_Algebra_init
  refine ok_runF rfl ?_
  show OK (b_Algebra_init [some (.o (some 0) (.ins "Algebra" [])), some (.d (.tup (ls.map D.int))), some (.d (.tup (ts.map tabD))), none, none]) _
  unfold b_Algebra_init
  refine ok_seqI (fun ρ => ρ = [some (.o (some 0) (.ins "Algebra" [])), some (.d (.tup (ls.map D.int))), some (.d (.tup (ts.map tabD))), none, none]) ?_ ?_
  · walk_at "wp"
    rw [tup, List.length_map, decide_eq_true (show (1 : Int) ≤ ls.length by omega), decide_eq_true (show (ls.length : Int) ≤ 64 by omega)]
    walk_at "wp"
    refine ⟨fun n => (by cases n), fun _ => nums1 (ls := ls) (lo := 0) (hi := 4095) (by omega) (fun l hl => by have := lv l hl; omega) ?_⟩
    walk_at "wp"
  rintro _ rfl
  refine ok_seqI (fun ρ => ρ = [some (.o (some 0) (.ins "Algebra" [])), some (.d (.tup (ls.map D.int))), some (.d (.tup (ts.map tabD))), none, none]) ?_ ?_
  · walk_at "wp"
    rw [tup, List.length_map, decide_eq_true (show (1 : Int) ≤ ts.length by omega), decide_eq_true (show (ts.length : Int) ≤ 64 by omega)]
    walk_at "wp"
    exact fun n => (by cases n)
  rintro _ rfl
  refine ok_seqI (fun ρ => ∃ x3 x4, ρ = [some (.o (some 0) (.ins "Algebra" [])), some (.d (.tup (ls.map D.int))), some (.d (.tup (ts.map tabD))), x3, x4]) ?_ ?_
  · rw [ok_for]
    refine ok_ienu ?_
    walk_at "wp"
    refine ⟨_, _, rfl, rfl, ?_⟩
    refine ok_loop (k := 0) (I := fun i ρ => ∃ x3 x4, ρ = [some (.o (some 0) (.ins "Algebra" [])), some (.d (.tup (ls.map D.int))), some (.d (.tup (ts.map tabD))), x3, x4]) ⟨_, _, rfl⟩ ?_ ?_
    · rintro i x ρ hx ⟨x3, x4, rfl⟩
      obtain ⟨d, hd, rfl⟩ := enumD_at hx
      rw [List.getElem?_map] at hd
      obtain ⟨t, ht, rfl⟩ := Option.map_eq_some_iff.mp hd
      refine ok_gtup2 ?_
      walk_at "wp"
      rw [List.length_map]
      have hm := tb t (List.mem_of_getElem? ht)
      refine table (by rw [hm.1]) (by omega) hm.2 ?_
      walk_at "wp"
      exact ⟨_, _, rfl⟩
    · rintro ρ ⟨x3, x4, rfl⟩
      exact ⟨rfl, _, _, rfl⟩
  rintro _ ⟨x3, x4, rfl⟩
  rw [ok_seq]
  refine ok_setF ?_
  walk_at "wp"
  refine ⟨_, _, rfl, rfl, ?_⟩
  walk_at "wp"
  refine ok_setF ?_
  walk_at "wp"
  exact ⟨_, _, rfl, rfl, rfl⟩
/-! ### what is asked of an algebra -/
theorem check {ls : List Int} {ts : List (List (Option Int))} {K : S → Prop} (h : K (.d .non)) : OKF (f_check_algebra [.d (algD ls ts)]) K := by
  unfold f_check_algebra b_check_algebra
  walk_at "wp"
  unfold mIsC
  walk_at "wp"
  exact ⟨_, rfl, _, rfl, _, rfl, fun n => (by cases n), fun _ => h⟩
/-- the level of what was made -/
def lev (ls : List Int) : Option Int → Int
  | none => 4096
  | some i => (ls[i.toNat]?).getD 0
theorem after {ls : List Int} {ts : List (List (Option Int))} {t : List (Option Int)} {f : Nat} {K : S → Prop} (ht : ts[f]? = some t) (hl : t.length ≤ 1000) (hr : ∀ i, some i ∈ t → 0 ≤ i ∧ i < (ls.length : Int)) (h : K (.o none (.lst (t.map fun o => .int (lev ls o))))) : OKF (f_levels_after [.d (algD ls ts), .d (.int (f : Nat))]) K := by
  unfold f_levels_after b_levels_after
  walk_at "wp"
  refine ok_fld ?_
  walk_at "wp"
  refine ⟨_, _, rfl, rfl, ?_⟩
  have hf := (List.getElem?_eq_some_iff.mp ht).1
  rw [e_ixT (by omega) (by rw [List.length_map]; omega), Int.toNat_natCast, List.getElem?_map, ht]
  walk_at "wp"
  show OK (mLc _ _ _ _ _ [some (.d (algD ls ts)), some (.d (.int (f : Nat))), some (.d (tabD t)), none]) _
  simp only [ok_lc, ok_iseq]
  walk_at "wp"
  simp only [tabD, itemsD, ex_some, wipeE]
  walk_at "wp"
  refine ok_map (f := fun y => match y with | .int i => .int ((ls[i.toNat]?).getD 0) | _ => .int 4096) rfl ?_ (by rw [List.length_map]; omega) ?_
  · intro y hy
    obtain ⟨o, ho, rfl⟩ := List.mem_map.mp hy
    walk_at "wp"
    cases o with
    | none => exact ⟨fun _ => rfl, fun n => absurd rfl n⟩
    | some i =>
      refine ⟨fun n => (by cases n), fun _ => ?_⟩
      have := hr i ho
      refine ok_fld ?_
      walk_at "wp"
      refine ⟨_, _, rfl, rfl, ?_⟩
      show ∃ s, gIx (.tup (ls.map D.int)) (.int i) = some s ∧ _
      rw [e_ixT this.1 (by rw [List.length_map]; exact this.2), List.getElem?_map]
      walk_at "wp"
      obtain ⟨v, e1, e2⟩ := at_nat (xs := ls) this.1 this.2
      show (Option.map D.int ls[i.toNat]?).getD D.non = D.int ((ls[i.toNat]?).getD 0)
      rw [e2]
      rfl
  · have e : (t.map oD).map (fun y => match y with | .int i => D.int ((ls[i.toNat]?).getD 0) | _ => D.int 4096) = t.map fun o => D.int (lev ls o) := by
      rw [List.map_map]
      refine List.map_congr_left fun o _ => ?_
      cases o <;> rfl
    rw [e]
    exact h
/-- a breaks at element j of the table at f -/
def Brk2 (br : Int → Int → Bool) (ls : List Int) (ts : List (List (Option Int))) (f j : Nat) : Bool := match ts[f]?, ls[j]? with
  | some t, some l => br l (lev ls ((t[j]?).getD none))
  | _, _ => false
/-- the least pair that breaks -/
def Least2 (br : Int → Int → Bool) (ls : List Int) (ts : List (List (Option Int))) : Option (Nat × Nat) → Prop
  | none => ∀ f j, Brk2 br ls ts f j = false
  | some (f, j) => f < ts.length ∧ j < ls.length ∧ Brk2 br ls ts f j = true ∧ (∀ f' j', f' < f → Brk2 br ls ts f' j' = false) ∧ ∀ j', j' < j → Brk2 br ls ts f j' = false
def pairD : Option (Nat × Nat) → D
  | none => .non
  | some (f, j) => .tup [.int (f : Nat), .int (j : Nat)]
theorem Brk2.out {br : Int → Int → Bool} {ls : List Int} {ts : List (List (Option Int))} {f j : Nat} (h : ts.length ≤ f ∨ ls.length ≤ j) : Brk2 br ls ts f j = false := by
  unfold Brk2
  rcases h with h | h
  · rw [List.getElem?_eq_none h]
  · rw [List.getElem?_eq_none h]
    cases ts[f]? <;> rfl
theorem lp_run {fl : Nat → Fn} {x y : S} {P : S → En → Prop} (h : OK (b_least_pair fl [some x, some y, none, none, none, none]) fun f ρ => (∃ s, f = .rt s ∧ P s ρ) ∨ (f = .nx ∧ P (.d .non) ρ)) : OK (f_least_pair fl [x, y]) P := by
  unfold f_least_pair
  exact ok_runF rfl h
theorem lt_run {fl : Nat → Fn} {x y : S} {P : S → En → Prop} (h : OK (b_least_triple fl [some x, some y, none, none, none, none, none, none]) fun f ρ => (∃ s, f = .rt s ∧ P s ρ) ∨ (f = .nx ∧ P (.d .non) ρ)) : OK (f_least_triple fl [x, y]) P := by
  unfold f_least_triple
  exact ok_runF rfl h
theorem least2 {most many : Int} {ls : List Int} {ts : List (List (Option Int))} {fl : Nat → Fn} {k : Nat} {br : Int → Int → Bool} (o : OkAlg most many ls ts) (h1 : most ≤ 64) (h2 : many ≤ 64)
    (hfl : ∀ (a b : Int) (K : S → Prop), K (.d (.bl (br a b))) → OKF (fl k [.d (.int a), .d (.int b)]) K) {K : S → Prop} (hK : ∀ r, Least2 br ls ts r → K (.d (pairD r))) : OKF (f_least_pair fl [.d (algD ls ts), .d (.fn k)]) K := by
  rw [okF]
  have l1 := o.l1
  have l2 := o.l2
  have t1 := o.t1
  have t2 := o.t2
  have tb := o.tb
  refine lp_run ?_
  unfold b_least_pair
  rw [ok_seq]
  walk_at "wp"
  refine check ⟨rfl, ?_⟩
  rw [ok_for]
  refine @ok_range1e _ _ _ ?_
  walk_at "wp"
  refine ok_fld ?_
  walk_at "wp"
  refine ⟨_, _, rfl, rfl, ?_⟩
  rw [e_lenT, List.length_map]
  walk_at "wp"
  refine ⟨ts.length, rfl, by omega, by omega, ?_⟩
  refine @ok_loop _ _ (fun f ρ => (∃ x2 x3 x4 x5, ρ = [some (.d (algD ls ts)), some (.d (.fn k)), x2, x3, x4, x5]) ∧ ∀ f' j, f' < f → Brk2 br ls ts f' j = false) _ _ 0 _ ⟨⟨_, _, _, _, rfl⟩, fun f' j h => absurd h (Nat.not_lt_zero _)⟩ ?_ ?_
  · rintro f x ρ hx ⟨⟨x2, x3, x4, x5, rfl⟩, hb⟩
    obtain ⟨rfl, hf⟩ := intsFrom_at hx
    rw [Int.toNat_natCast] at hf
    have et := List.getElem?_eq_getElem hf
    obtain ⟨tl, tr⟩ := tb _ (List.getElem_mem hf)
    rw [Nat.zero_add] at hb ⊢
    walk_at "wp"
    refine @after _ _ _ _ _ et (by omega) tr ?_
    refine ⟨rfl, .lst _, rfl, ?_⟩
    rw [ok_for]
    refine @ok_ienu _ _ _ ?_
    walk_at "wp"
    refine @ok_fld _ _ _ _ _ ?_
    walk_at "wp"
    refine ⟨_, _, rfl, rfl, ?_⟩
    refine ⟨_, _, rfl, rfl, ?_⟩
    refine @ok_loop _ _ (fun j ρ => (∃ x4 x5, ρ = [some (.d (algD ls ts)), some (.d (.fn k)), some (.d (.int (f : Nat))), some (.d (.lst (ts[f].map fun o => .int (lev ls o)))), x4, x5]) ∧ ∀ j', j' < j → Brk2 br ls ts f j' = false) _ _ 0 _ ⟨⟨_, _, rfl⟩, fun j h => absurd h (Nat.not_lt_zero _)⟩ ?_ ?_
    · rintro j x ρ hx ⟨⟨x4, x5, rfl⟩, hc⟩
      obtain ⟨d, hd, rfl⟩ := enumD_at hx
      rw [List.getElem?_map] at hd
      obtain ⟨l, el, rfl⟩ := Option.map_eq_some_iff.mp hd
      have hj := (List.getElem?_eq_some_iff.mp el).1
      rw [Nat.zero_add] at hc ⊢
      refine @ok_gtup2 _ _ _ _ _ _ ?_
      walk_at "wp"
      refine @ok_truth _ _ _ ?_
      walk_at "wp"
      refine @ok_lcall _ k _ _ _ _ rfl ?_
      walk_at "wp"
      rw [e_ixL (by omega) (by rw [List.length_map, tl]; omega), Int.toNat_natCast, List.getElem?_map]
      have ej : ts[f][j]? = some ts[f][j] := List.getElem?_eq_getElem (by rw [tl]; exact hj)
      rw [ej]
      walk_at "wp"
      refine hfl _ _ _ ⟨rfl, _, rfl, ?_⟩
      have key : br l (lev ls ts[f][j]) = Brk2 br ls ts f j := by
        unfold Brk2
        rw [et, el]
        dsimp only
        rw [ej]
        rfl
      refine ⟨_, rfl, ?_⟩
      rw [key]
      refine ⟨fun hbr => ⟨rfl, ?_⟩, fun hbr => ⟨⟨_, _, rfl⟩, fun j' hj' => ?_⟩⟩
      · rintro _ rfl _ rfl
        exact hK (some (f, j)) ⟨hf, hj, hbr, fun f' j' h => hb f' j' h, fun j' h => hc j' h⟩
      · by_cases e : j' = j
        · rw [e]
          simpa using hbr
        · exact hc j' (by omega)
    · rintro ρ ⟨⟨x4, x5, rfl⟩, hc⟩
      rw [enumD_length, List.length_map, Nat.zero_add] at hc
      refine ⟨fun _ => ⟨⟨_, _, _, _, rfl⟩, fun f' j hf' => ?_⟩, fun n => (by cases n), fun s n => (by cases n)⟩
      by_cases e : f' = f
      · rw [e]
        by_cases hj : j < ls.length
        · exact hc j hj
        · exact Brk2.out (.inr (by omega))
      · exact hb f' j (by omega)
  · rintro ρ ⟨⟨x2, x3, x4, x5, rfl⟩, hb⟩
    rw [intsFrom_length, Int.toNat_natCast, Nat.zero_add] at hb
    walk_at "wp"
    refine hK none fun f j => ?_
    by_cases hf : f < ts.length
    · exact hb f j hf
    · exact Brk2.out (.inl (by omega))
/-- a breaks at elements i, j of the table at f -/
def Brk3 (br : Int → Int → Int → Int → Bool) (ls : List Int) (ts : List (List (Option Int))) (f i j : Nat) : Bool := match ts[f]?, ls[i]?, ls[j]? with
  | some t, some a, some b => br a b (lev ls ((t[i]?).getD none)) (lev ls ((t[j]?).getD none))
  | _, _, _ => false
def Least3 (br : Int → Int → Int → Int → Bool) (ls : List Int) (ts : List (List (Option Int))) : Option (Nat × Nat × Nat) → Prop
  | none => ∀ f i j, Brk3 br ls ts f i j = false
  | some (f, i, j) => f < ts.length ∧ i < ls.length ∧ j < ls.length ∧ Brk3 br ls ts f i j = true ∧ (∀ f' i' j', f' < f → Brk3 br ls ts f' i' j' = false) ∧ (∀ i' j', i' < i → Brk3 br ls ts f i' j' = false) ∧ ∀ j', j' < j → Brk3 br ls ts f i j' = false
def tripleD : Option (Nat × Nat × Nat) → D
  | none => .non
  | some (f, i, j) => .tup [.int (f : Nat), .int (i : Nat), .int (j : Nat)]
theorem Brk3.out {br : Int → Int → Int → Int → Bool} {ls : List Int} {ts : List (List (Option Int))} {f i j : Nat} (h : ts.length ≤ f ∨ ls.length ≤ i ∨ ls.length ≤ j) : Brk3 br ls ts f i j = false := by
  unfold Brk3
  rcases h with h | h | h
  · rw [List.getElem?_eq_none h]
  · rw [List.getElem?_eq_none h]
    cases ts[f]? <;> rfl
  · rw [List.getElem?_eq_none h]
    cases ts[f]? <;> cases ls[i]? <;> rfl
theorem least3 {most many : Int} {ls : List Int} {ts : List (List (Option Int))} {fl : Nat → Fn} {k : Nat} {br : Int → Int → Int → Int → Bool} (o : OkAlg most many ls ts) (h1 : most ≤ 64) (h2 : many ≤ 64)
    (hfl : ∀ (a b c d : Int) (K : S → Prop), K (.d (.bl (br a b c d))) → OKF (fl k [.d (.int a), .d (.int b), .d (.int c), .d (.int d)]) K) {K : S → Prop} (hK : ∀ r, Least3 br ls ts r → K (.d (tripleD r))) : OKF (f_least_triple fl [.d (algD ls ts), .d (.fn k)]) K := by
  rw [okF]
  have l1 := o.l1
  have l2 := o.l2
  have t1 := o.t1
  have t2 := o.t2
  have tb := o.tb
  refine lt_run ?_
  unfold b_least_triple
  rw [ok_seq]
  walk_at "wp"
  refine check ⟨rfl, ?_⟩
  rw [ok_for]
  refine @ok_range1e _ _ _ ?_
  walk_at "wp"
  refine ok_fld ?_
  walk_at "wp"
  refine ⟨_, _, rfl, rfl, ?_⟩
  rw [e_lenT, List.length_map]
  walk_at "wp"
  refine ⟨ts.length, rfl, by omega, by omega, ?_⟩
  refine @ok_loop _ _ (fun f ρ => (∃ x2 x3 x4 x5 x6 x7, ρ = [some (.d (algD ls ts)), some (.d (.fn k)), x2, x3, x4, x5, x6, x7]) ∧ ∀ f' i j, f' < f → Brk3 br ls ts f' i j = false) _ _ 0 _ ⟨⟨_, _, _, _, _, _, rfl⟩, fun f' i j h => absurd h (Nat.not_lt_zero _)⟩ ?_ ?_
  · rintro f x ρ hx ⟨⟨x2, x3, x4, x5, x6, x7, rfl⟩, hb⟩
    obtain ⟨rfl, hf⟩ := intsFrom_at hx
    rw [Int.toNat_natCast] at hf
    have et := List.getElem?_eq_getElem hf
    obtain ⟨tl, tr⟩ := tb _ (List.getElem_mem hf)
    rw [Nat.zero_add] at hb ⊢
    walk_at "wp"
    refine @after _ _ _ _ _ et (by omega) tr ?_
    refine ⟨rfl, .lst _, rfl, ?_⟩
    rw [ok_for]
    refine @ok_ienu _ _ _ ?_
    walk_at "wp"
    refine @ok_fld _ _ _ _ _ ?_
    walk_at "wp"
    refine ⟨_, _, rfl, rfl, ?_⟩
    refine ⟨_, _, rfl, rfl, ?_⟩
    refine @ok_loop _ _ (fun i ρ => (∃ x4 x5 x6 x7, ρ = [some (.d (algD ls ts)), some (.d (.fn k)), some (.d (.int (f : Nat))), some (.d (.lst (ts[f].map fun o => .int (lev ls o)))), x4, x5, x6, x7]) ∧ ∀ i' j, i' < i → Brk3 br ls ts f i' j = false) _ _ 0 _ ⟨⟨_, _, _, _, rfl⟩, fun i j h => absurd h (Nat.not_lt_zero _)⟩ ?_ ?_
    · rintro i x ρ hx ⟨⟨x4, x5, x6, x7, rfl⟩, hc⟩
      obtain ⟨d, hd, rfl⟩ := enumD_at hx
      rw [List.getElem?_map] at hd
      obtain ⟨a, ea, rfl⟩ := Option.map_eq_some_iff.mp hd
      have hi := (List.getElem?_eq_some_iff.mp ea).1
      rw [Nat.zero_add] at hc ⊢
      refine @ok_gtup2 _ _ _ _ _ _ ?_
      walk_at "wp"
      rw [ok_for]
      refine @ok_ienu _ _ _ ?_
      walk_at "wp"
      refine @ok_fld _ _ _ _ _ ?_
      walk_at "wp"
      refine ⟨_, _, rfl, rfl, ?_⟩
      refine ⟨_, _, rfl, rfl, ?_⟩
      refine @ok_loop _ _ (fun j ρ => (∃ x6 x7, ρ = [some (.d (algD ls ts)), some (.d (.fn k)), some (.d (.int (f : Nat))), some (.d (.lst (ts[f].map fun o => .int (lev ls o)))), some (.d (.int (i : Nat))), some (.d (.int a)), x6, x7]) ∧ ∀ j', j' < j → Brk3 br ls ts f i j' = false) _ _ 0 _ ⟨⟨_, _, rfl⟩, fun j h => absurd h (Nat.not_lt_zero _)⟩ ?_ ?_
      · rintro j x ρ hx ⟨⟨x6, x7, rfl⟩, hd⟩
        obtain ⟨d, hd', rfl⟩ := enumD_at hx
        rw [List.getElem?_map] at hd'
        obtain ⟨b, eb, rfl⟩ := Option.map_eq_some_iff.mp hd'
        have hj := (List.getElem?_eq_some_iff.mp eb).1
        rw [Nat.zero_add] at hd ⊢
        refine @ok_gtup2 _ _ _ _ _ _ ?_
        walk_at "wp"
        refine @ok_truth _ _ _ ?_
        walk_at "wp"
        refine @ok_lcall _ k _ _ _ _ rfl ?_
        walk_at "wp"
        have ei : ts[f][i]? = some ts[f][i] := List.getElem?_eq_getElem (by rw [tl]; exact hi)
        have ej : ts[f][j]? = some ts[f][j] := List.getElem?_eq_getElem (by rw [tl]; exact hj)
        rw [e_ixL (by omega) (by rw [List.length_map, tl]; omega), Int.toNat_natCast, List.getElem?_map, ei]
        walk_at "wp"
        rw [e_ixL (by omega) (by rw [List.length_map, tl]; omega), Int.toNat_natCast, List.getElem?_map, ej]
        walk_at "wp"
        refine hfl _ _ _ _ _ ⟨rfl, _, rfl, ?_⟩
        have key : br a b (lev ls ts[f][i]) (lev ls ts[f][j]) = Brk3 br ls ts f i j := by
          unfold Brk3
          rw [et, ea, eb]
          dsimp only
          rw [ei, ej]
          rfl
        refine ⟨_, rfl, ?_⟩
        rw [key]
        refine ⟨fun hbr => ⟨rfl, ?_⟩, fun hbr => ⟨⟨_, _, rfl⟩, fun j' hj' => ?_⟩⟩
        · rintro _ rfl _ rfl _ rfl
          exact hK (some (f, i, j)) ⟨hf, hi, hj, hbr, fun f' i' j' h => hb f' i' j' h, fun i' j' h => hc i' j' h, fun j' h => hd j' h⟩
        · by_cases e : j' = j
          · rw [e]
            simpa using hbr
          · exact hd j' (by omega)
      · rintro ρ ⟨⟨x6, x7, rfl⟩, hd⟩
        rw [enumD_length, List.length_map, Nat.zero_add] at hd
        refine ⟨fun _ => ⟨⟨_, _, _, _, rfl⟩, fun i' j hi' => ?_⟩, fun n => (by cases n), fun s n => (by cases n)⟩
        by_cases e : i' = i
        · rw [e]
          by_cases hj : j < ls.length
          · exact hd j hj
          · exact Brk3.out (.inr (.inr (by omega)))
        · exact hc i' j (by omega)
    · rintro ρ ⟨⟨x4, x5, x6, x7, rfl⟩, hc⟩
      rw [enumD_length, List.length_map, Nat.zero_add] at hc
      refine ⟨fun _ => ⟨⟨_, _, _, _, _, _, rfl⟩, fun f' i j hf' => ?_⟩, fun n => (by cases n), fun s n => (by cases n)⟩
      by_cases e : f' = f
      · rw [e]
        by_cases hi : i < ls.length
        · exact hc i j hi
        · exact Brk3.out (.inr (.inl (by omega)))
      · exact hb f' i j (by omega)
  · rintro ρ ⟨⟨x2, x3, x4, x5, x6, x7, rfl⟩, hb⟩
    rw [intsFrom_length, Int.toNat_natCast, Nat.zero_add] at hb
    walk_at "wp"
    refine hK none fun f i j => ?_
    by_cases hf : f < ts.length
    · exact hb f i j hf
    · exact Brk3.out (.inl (by omega))
end Lib
end Fx

/-! words followed, on data -/
namespace Fx
open PySem
local macro_rules | `(tactic| walk_at "wp") => `(tactic| simp only [okF_runF, okF_runL, ok_seq, ok_ret, ok_retN, ok_andV, ok_orV, ok_notV, ok_cb, ok_cons, ok_nil, ok_test, ok_dv, ok_op, ok_un, ok_c, ok_if, ok_ifS, ok_and, ok_or, ok_not, ok_asg, ok_gname, ok_drop, ok_call, ok_chain, ok_nx, ok_bk, ok_ct, ok_st, ok_yes, ok_tup, ok_ok, ok_stuck, ex_toD, ex_toL, ex_bl, ex_some, ex_bl1, fl_nx, fl_rt, fl_bk, fl_ct, rt_or, nx_or, mVar, ok1, gIsi, mIsi2, gIsi2, isTy2, isTy, Option.bind, bare, e_add, e_sub, e_int, e_lenS, e_lenT, e_lenL, e_lt, e_le, e_gt, e_ge, e_leC, e_ltC, e_isN, e_notN, e_pow,
  List.map_cons, List.map_nil, List.length_cons, List.length_nil, List.replicate_succ, List.replicate_zero, List.cons_append, List.nil_append, List.append_nil, List.getElem?_cons_zero, List.getElem?_cons_succ, List.set_cons_zero, List.set_cons_succ, Nat.reduceAdd, Nat.reduceSub, true_and, and_true, Bool.not_true, Bool.not_false, true_implies, forall_const, not_true_eq_false, false_implies, Bool.false_eq_true, not_false_eq_true, implies_true, eq_self, ne_eq, reduceCtorEq, Fl.rt.injEq, S.d.injEq, D.int.injEq, false_and, exists_false, or_false, false_or, exists_eq_left'])
local macro_rules | `(tactic| walk_at "wt") => `(tactic| simp (config := { contextual := false }) only [ok_row0, ok_row1, ok_row2, ok_row3, ok_put1, ok_put2, ok_put3, e_mod, e_div, e_mul, e_ixS, decide_true, decide_false, *, okF_runF, okF_runL, ok_seq, ok_ret, ok_retN, ok_andV, ok_orV, ok_notV, ok_cb, ok_cons, ok_nil, ok_test, ok_dv, ok_op, ok_un, ok_c, ok_if, ok_ifS, ok_and, ok_or, ok_not, ok_asg, ok_gname, ok_drop, ok_call, ok_chain, ok_nx, ok_bk, ok_ct, ok_st, ok_yes, ok_tup, ok_ok, ok_stuck, ex_toD, ex_toL, ex_bl, ex_some, ex_bl1, fl_nx, fl_rt, fl_bk, fl_ct, rt_or, nx_or, mVar, ok1, gIsi, mIsi2, gIsi2, isTy2, isTy, Option.bind, bare, e_add, e_sub, e_int, e_lenS, e_lenT, e_lenL, e_lt, e_le, e_gt, e_ge, e_leC, e_ltC, e_isN, e_notN, e_pow,
  List.map_cons, List.map_nil, List.length_cons, List.length_nil, List.replicate_succ, List.replicate_zero, List.cons_append, List.nil_append, List.append_nil, List.getElem?_cons_zero, List.getElem?_cons_succ, List.set_cons_zero, List.set_cons_succ, Nat.reduceAdd, Nat.reduceSub, true_and, and_true, Bool.not_true, Bool.not_false, true_implies, forall_const, not_true_eq_false, false_implies, Bool.false_eq_true, not_false_eq_true, implies_true, eq_self, ne_eq, reduceCtorEq, Fl.rt.injEq, S.d.injEq, D.int.injEq, false_and, exists_false, or_false, false_or, exists_eq_left'])
local macro_rules | `(tactic| walk_at "wy") => `(tactic| try walk_at "wp")
local macro_rules | `(tactic| walk_at "we") => `(tactic| first | done | rfl | exact ⟨rfl, rfl⟩ | exact ⟨rfl, rfl, rfl⟩)

namespace Lib
def step (ts : List (List (Option Int))) (f : Int) : Option Int → Option Int
  | none => none
  | some i => (((ts[f.toNat]?).getD [])[i.toNat]?).getD none
def fol (ts : List (List (Option Int))) : List Int → Option Int → Option Int
  | [], x => x
  | f :: w, x => fol ts w (step ts f x)
theorem fol_snoc (ts : List (List (Option Int))) (f : Int) : ∀ (w : List Int) (x : Option Int), fol ts (w ++ [f]) x = step ts f (fol ts w x)
  | [], x => rfl
  | g :: w, x => fol_snoc ts f w (step ts g x)
def In (ls : List Int) (x : Option Int) : Prop := ∀ i, x = some i → 0 ≤ i ∧ i < (ls.length : Int)
theorem step_in {most many : Int} {ls : List Int} {ts : List (List (Option Int))} (o : OkAlg most many ls ts) {f : Int} (h0 : 0 ≤ f) (h1 : f < ts.length) {x : Option Int} (hx : In ls x) : In ls (step ts f x) := by
  intro i e
  cases x with
  | none => cases e
  | some j =>
    have hf : f.toNat < ts.length := by omega
    obtain ⟨tl, tr⟩ := o.tb _ (List.getElem_mem hf)
    unfold step at e
    rw [List.getElem?_eq_getElem hf, Option.getD_some] at e
    obtain ⟨q0, q1⟩ := hx j rfl
    have hj : j.toNat < ts[f.toNat].length := by omega
    have e : ((ts[f.toNat][j.toNat]?).getD none : Option Int) = some i := e
    rw [List.getElem?_eq_getElem hj, Option.getD_some] at e
    exact tr i (e ▸ List.getElem_mem hj)
theorem fo_run {x y z : S} {P : S → En → Prop} (h : OK (b_followed [some x, some y, some z, none, none, none]) fun f ρ => (∃ s, f = .rt s ∧ P s ρ) ∨ (f = .nx ∧ P (.d .non) ρ)) : OK (f_followed [x, y, z]) P := by
  unfold f_followed
  exact ok_runF rfl h
theorem followed {most many : Int} {ls : List Int} {ts : List (List (Option Int))} {w : List Int} {e : Int} (o : OkAlg most many ls ts) (h1 : most ≤ 64) (h2 : many ≤ 64) (hw : w.length ≤ 20) (hwf : ∀ f ∈ w, 0 ≤ f ∧ f < (ts.length : Int)) (e0 : 0 ≤ e) (e1 : e < ls.length) {K : S → Prop}
    (hK : In ls (fol ts w (some e)) → K (.d (oD (fol ts w (some e))))) : OKF (f_followed [.d (algD ls ts), .d (.tup (w.map D.int)), .d (.int e)]) K := by
  rw [okF]
  have l2 := o.l2
  have t2 := o.t2
  have tb := o.tb
  refine fo_run ?_
  unfold b_followed
  rw [ok_seq]
  walk_at "wp"
  refine check ⟨rfl, ?_⟩
  rw [tup, List.length_map]
  walk_at "wp"
  rw [decide_eq_true (show (0 : Int) ≤ w.length by omega), decide_eq_true (show (w.length : Int) ≤ 20 by omega)]
  refine ⟨fun n => (by cases n), fun _ => ?_⟩
  rw [ok_for]
  refine @ok_ienu _ _ _ ?_
  walk_at "wp"
  refine ⟨_, _, rfl, rfl, ?_⟩
  refine @ok_loop _ _ (fun i ρ => ∃ x3 x4, ρ = [some (.d (algD ls ts)), some (.d (.tup (w.map D.int))), some (.d (.int e)), x3, x4, none]) _ _ 0 _ ⟨_, _, rfl⟩ ?_ ?_
  · rintro i x ρ hx ⟨x3, x4, rfl⟩
    obtain ⟨d, hd, rfl⟩ := enumD_at hx
    rw [List.getElem?_map] at hd
    obtain ⟨f, ef, rfl⟩ := Option.map_eq_some_iff.mp hd
    obtain ⟨f0, f1⟩ := hwf f (List.mem_of_getElem? ef)
    refine @ok_gtup2 _ _ _ _ _ _ ?_
    walk_at "wp"
    refine @ok_fld _ _ _ _ _ ?_
    walk_at "wp"
    refine ⟨_, _, rfl, rfl, ?_⟩
    rw [e_lenT, List.length_map]
    walk_at "wp"
    have en : numB 0 (ts.length - 1) (some f) = true := by
      show (decide (0 ≤ f) && decide (f ≤ (ts.length : Int) - 1)) = true
      rw [decide_eq_true f0, decide_eq_true (show f ≤ (ts.length : Int) - 1 by omega)]
      rfl
    show OKF (f_is_number [.d (oD (some f)), .d (.int 0), .d (.int ((ts.length : Int) - 1))]) _
    rw [num, en]
    walk_at "wp"
    exact ⟨_, _, rfl⟩
  · rintro ρ ⟨x3, x4, rfl⟩
    refine ⟨fun _ => ?_, fun n => absurd rfl n⟩
    walk_at "wp"
    refine @ok_fld _ _ _ _ _ ?_
    walk_at "wp"
    refine ⟨_, _, rfl, rfl, ?_⟩
    rw [e_lenT, List.length_map]
    walk_at "wp"
    have en : numB 0 (ls.length - 1) (some e) = true := by
      show (decide (0 ≤ e) && decide (e ≤ (ls.length : Int) - 1)) = true
      rw [decide_eq_true e0, decide_eq_true (show e ≤ (ls.length : Int) - 1 by omega)]
      rfl
    show OKF (f_is_number [.d (oD (some e)), .d (.int 0), .d (.int ((ls.length : Int) - 1))]) _
    rw [num, en]
    walk_at "wp"
    rw [ok_for, ok_iseq]
    walk_at "wp"
    simp only [itemsD, ex_some]
    refine @ok_loop _ _ (fun i ρ => (∃ x4, ρ = [some (.d (algD ls ts)), some (.d (.tup (w.map D.int))), some (.d (.int e)), x3, x4, some (.d (oD (fol ts (w.take i) (some e))))]) ∧ In ls (fol ts (w.take i) (some e))) _ _ 0 _ ⟨⟨_, rfl⟩, fun i q => (by cases q; exact ⟨e0, e1⟩)⟩ ?_ ?_
    · rintro i x ρ hx ⟨⟨x4, rfl⟩, hin⟩
      rw [List.getElem?_map] at hx
      obtain ⟨f, ef, rfl⟩ := Option.map_eq_some_iff.mp hx
      obtain ⟨f0, f1⟩ := hwf f (List.mem_of_getElem? ef)
      rw [Nat.zero_add] at hin ⊢
      have et : fol ts (w.take (i + 1)) (some e) = step ts f (fol ts (w.take i) (some e)) := by
        rw [List.take_add_one, ef, ← fol_snoc]
        rfl
      have hn := step_in o f0 f1 hin
      rw [et]
      generalize fol ts (w.take i) (some e) = y at hin hn ⊢
      walk_at "wp"
      cases y with
      | none =>
        refine ⟨fun n => (by cases n), fun _ => ?_⟩
        exact ⟨⟨_, rfl⟩, hn⟩
      | some v =>
        refine ⟨fun _ => ?_, fun n => absurd rfl n⟩
        obtain ⟨v0, v1⟩ := hin v rfl
        refine @ok_fld _ _ _ _ _ ?_
        walk_at "wp"
        refine ⟨_, _, rfl, rfl, ?_⟩
        have hf : f.toNat < ts.length := by omega
        obtain ⟨tl, _⟩ := tb _ (List.getElem_mem hf)
        rw [e_ixT f0 (by rw [List.length_map]; exact f1), List.getElem?_map, List.getElem?_eq_getElem hf]
        walk_at "wp"
        show ∃ s, gIx (.tup (ts[f.toNat].map oD)) (.int v) = some s ∧ _
        have hv : v.toNat < ts[f.toNat].length := by omega
        have es : step ts f (some v) = ts[f.toNat][v.toNat] := by
          show (((ts[f.toNat]?).getD [])[v.toNat]?).getD none = _
          rw [List.getElem?_eq_getElem hf, Option.getD_some, List.getElem?_eq_getElem hv, Option.getD_some]
        rw [e_ixT v0 (by rw [List.length_map, tl]; exact v1), List.getElem?_map, List.getElem?_eq_getElem hv]
        rw [es] at hn ⊢
        exact ⟨_, rfl, ⟨_, rfl⟩, hn⟩
    · rintro ρ ⟨⟨x4, rfl⟩, hin⟩
      rw [List.length_map, Nat.zero_add, List.take_length] at hin ⊢
      walk_at "wp"
      exact hK hin
end Lib
end Fx

/-! words keep laws; more of rows -/
namespace Fx
open PySem
/-- a def that draws from the row -/
theorem ok_rowF {F : Fn} {r : Nat} {o : Option Nat} {ns : List Int} {a b c : Int} {fr : M (List D)} {ds : List D} {ρ : En} {P : S → En → Prop} {Pv : S → Prop} (e : ρ[r]? = some (rowS o ns a b c)) (h : OK (fr ρ) fun es ρ1 => es = ds ∧ ρ1 = ρ)
    (k : OK (F (.o (some 0) (rowD ns a b c) :: ds.map .d)) fun s ρ' => Pv s ∧ bare s = true ∧ ∃ a b c, RowOk a b c ∧ ∃ ρ2, ρ' = some (.o (some 0) (rowD ns a b c)) :: ρ2)
    (q : ∀ s a b c, Pv s → RowOk a b c → P s (ρ.set r (rowS o ns a b c))) : OK (mCallO F r 0 (aOwn r fr) ρ) P := by
  refine ok_callO (ok_own.mpr ⟨own_row e, ?_⟩)
  refine h.imp fun es ρ1 ⟨e1, e2⟩ => ?_
  subst e1
  subst e2
  refine ⟨o, rowD ns a b c, e, Nat.zero_le _, k.imp fun s ρ' ⟨hp, hb, a', b', c', hr, ρ2, e3⟩ => ?_⟩
  subst e3
  exact ⟨rowD ns a' b' c', rfl, hb, q s a' b' c' hp hr⟩
namespace Lib
theorem least2_no {br : Int → Int → Bool} {most many : Int} {ls : List Int} {ts : List (List (Option Int))} (o : OkAlg most many ls ts) (h : Least2 br ls ts none) {f : Int} (f0 : 0 ≤ f) (f1 : f < ts.length) {i : Int} (i0 : 0 ≤ i) (i1 : i < ls.length) :
    br (lev ls (some i)) (lev ls (step ts f (some i))) = false := by
  have hf : f.toNat < ts.length := by omega
  have hi : i.toNat < ls.length := by omega
  have := h f.toNat i.toNat
  unfold Brk2 at this
  rw [List.getElem?_eq_getElem hf, List.getElem?_eq_getElem hi] at this
  show br ((ls[i.toNat]?).getD 0) (lev ls ((((ts[f.toNat]?).getD [])[i.toNat]?).getD none)) = false
  rw [List.getElem?_eq_getElem hf, List.getElem?_eq_getElem hi]
  exact this
theorem least3_no {br : Int → Int → Int → Int → Bool} {most many : Int} {ls : List Int} {ts : List (List (Option Int))} (o : OkAlg most many ls ts) (h : Least3 br ls ts none) {f : Int} (f0 : 0 ≤ f) (f1 : f < ts.length) {i j : Int} (i0 : 0 ≤ i) (i1 : i < ls.length) (j0 : 0 ≤ j) (j1 : j < ls.length) :
    br (lev ls (some i)) (lev ls (some j)) (lev ls (step ts f (some i))) (lev ls (step ts f (some j))) = false := by
  have hf : f.toNat < ts.length := by omega
  have hi : i.toNat < ls.length := by omega
  have hj : j.toNat < ls.length := by omega
  have := h f.toNat i.toNat j.toNat
  unfold Brk3 at this
  rw [List.getElem?_eq_getElem hf, List.getElem?_eq_getElem hi, List.getElem?_eq_getElem hj] at this
  show br ((ls[i.toNat]?).getD 0) ((ls[j.toNat]?).getD 0) (lev ls ((((ts[f.toNat]?).getD [])[i.toNat]?).getD none)) (lev ls ((((ts[f.toNat]?).getD [])[j.toNat]?).getD none)) = false
  rw [List.getElem?_eq_getElem hf, List.getElem?_eq_getElem hi, List.getElem?_eq_getElem hj]
  exact this
theorem lev_some {most many : Int} {ls : List Int} {ts : List (List (Option Int))} (o : OkAlg most many ls ts) (hm : most ≤ 4095) {i : Int} (i0 : 0 ≤ i) (i1 : i < ls.length) : lev ls (some i) ≤ 4095 := by
  have hi : i.toNat < ls.length := by omega
  show (ls[i.toNat]?).getD 0 ≤ 4095
  rw [List.getElem?_eq_getElem hi, Option.getD_some]
  have := o.lv _ (List.getElem_mem hi)
  omega
theorem lev_in {most many : Int} {ls : List Int} {ts : List (List (Option Int))} (o : OkAlg most many ls ts) (hm : most ≤ 4095) {x : Option Int} (hx : In ls x) : lev ls x ≤ 4096 ∧ (x ≠ none → lev ls x ≤ 4095) := by
  cases x with
  | none => exact ⟨Int.le_refl _, fun n => absurd rfl n⟩
  | some i =>
    have := hx i rfl
    have := lev_some o hm this.1 this.2
    exact ⟨by omega, fun _ => this⟩
theorem fol_none {ts : List (List (Option Int))} : ∀ w : List Int, fol ts w none = none
  | [] => rfl
  | f :: w => fol_none w
section
variable {most many : Int} {ls : List Int} {ts : List (List (Option Int))} (o : OkAlg most many ls ts) (hm : most ≤ 4095)
include o hm
theorem fol_in : ∀ {w : List Int} {x : Option Int}, (∀ f ∈ w, 0 ≤ f ∧ f < (ts.length : Int)) → In ls x → In ls (fol ts w x)
  | [], x, _, hx => hx
  | f :: w, x, hw, hx => fol_in (w := w) (fun g hg => hw g (List.mem_cons_of_mem _ hg)) (step_in o (hw f List.mem_cons_self).1 (hw f List.mem_cons_self).2 hx)
theorem grow_word (h : ∀ (f i : Int), 0 ≤ f → f < ts.length → 0 ≤ i → i < ls.length → lev ls (some i) ≤ lev ls (step ts f (some i))) : ∀ {w : List Int} {x : Option Int}, (∀ f ∈ w, 0 ≤ f ∧ f < (ts.length : Int)) → In ls x → lev ls x ≤ lev ls (fol ts w x)
  | [], x, _, hx => Int.le_refl _
  | f :: w, none, hw, hx => by rw [fol_none]; exact Int.le_refl _
  | f :: w, some i, hw, hx => by
    have hf := hw f List.mem_cons_self
    have hi := hx i rfl
    exact Int.le_trans (h f i hf.1 hf.2 hi.1 hi.2) (grow_word (w := w) h (fun g hg => hw g (List.mem_cons_of_mem _ hg)) (step_in o hf.1 hf.2 hx))
theorem strict_word (h : ∀ (f i : Int), 0 ≤ f → f < ts.length → 0 ≤ i → i < ls.length → lev ls (some i) < lev ls (step ts f (some i))) {w : List Int} {i : Int} (hw : ∀ f ∈ w, 0 ≤ f ∧ f < (ts.length : Int)) (hn : w ≠ []) (i0 : 0 ≤ i) (i1 : i < ls.length) : lev ls (some i) < lev ls (fol ts w (some i)) := by
  cases w with
  | nil => exact absurd rfl hn
  | cons f w =>
    have hf := hw f List.mem_cons_self
    have hx : In ls (some i) := fun j e => by cases e; exact ⟨i0, i1⟩
    exact Int.lt_of_lt_of_le (h f i hf.1 hf.2 i0 i1) (grow_word (w := w) o hm (fun f i a b c d => Int.le_of_lt (h f i a b c d)) (fun g hg => hw g (List.mem_cons_of_mem _ hg)) (step_in o hf.1 hf.2 hx))
theorem iso_word (h : ∀ (f i j : Int), 0 ≤ f → f < ts.length → 0 ≤ i → i < ls.length → 0 ≤ j → j < ls.length → lev ls (some i) ≤ lev ls (some j) → lev ls (step ts f (some i)) ≤ lev ls (step ts f (some j))) : ∀ {w : List Int} {x y : Option Int}, (∀ f ∈ w, 0 ≤ f ∧ f < (ts.length : Int)) → In ls x → In ls y → lev ls x ≤ lev ls y → lev ls (fol ts w x) ≤ lev ls (fol ts w y)
  | [], x, y, _, hx, hy, l => l
  | f :: w, x, none, hw, hx, hy, l => by
    rw [fol_none]
    exact (lev_in o hm (fol_in o hm hw hx)).1
  | f :: w, none, some j, hw, hx, hy, l => by
    have := hy j rfl
    have := lev_some o hm this.1 this.2
    have l : (4096 : Int) ≤ lev ls (some j) := l
    omega
  | f :: w, some i, some j, hw, hx, hy, l => by
    have hf := hw f List.mem_cons_self
    have hi := hx i rfl
    have hj := hy j rfl
    exact iso_word (w := w) h (fun g hg => hw g (List.mem_cons_of_mem _ hg)) (step_in o hf.1 hf.2 hx) (step_in o hf.1 hf.2 hy) (h f i j hf.1 hf.2 hi.1 hi.2 hj.1 hj.2 l)
theorem canc_word (h : ∀ (f i j : Int), 0 ≤ f → f < ts.length → 0 ≤ i → i < ls.length → 0 ≤ j → j < ls.length → lev ls (some i) < lev ls (some j) → lev ls (step ts f (some j)) < 4096 → lev ls (step ts f (some i)) < lev ls (step ts f (some j))) : ∀ {w : List Int} {x y : Option Int}, (∀ f ∈ w, 0 ≤ f ∧ f < (ts.length : Int)) → In ls x → In ls y → lev ls x < lev ls y → lev ls (fol ts w y) < 4096 → lev ls (fol ts w x) < lev ls (fol ts w y)
  | [], x, y, _, hx, hy, l, _ => l
  | f :: w, x, none, hw, hx, hy, l, n => by
    rw [fol_none] at n
    exact absurd n (Int.lt_irrefl _)
  | f :: w, none, some j, hw, hx, hy, l, n => by
    have := hy j rfl
    have := lev_some o hm this.1 this.2
    have l : (4096 : Int) < lev ls (some j) := l
    omega
  | f :: w, some i, some j, hw, hx, hy, l, n => by
    have hf := hw f List.mem_cons_self
    have hi := hx i rfl
    have hj := hy j rfl
    have hsj := step_in o hf.1 hf.2 hy
    refine canc_word (w := w) h (fun g hg => hw g (List.mem_cons_of_mem _ hg)) (step_in o hf.1 hf.2 hx) hsj (h f i j hf.1 hf.2 hi.1 hi.2 hj.1 hj.2 l ?_) n
    have n : lev ls (fol ts w (step ts f (some j))) < 4096 := n
    cases e : step ts f (some j) with
    | none =>
      rw [e, fol_none] at n
      exact absurd n (Int.lt_irrefl _)
    | some k =>
      have := hsj k e
      have := lev_some o hm this.1 this.2
      omega
end
/-- the law's own height -/
def hgt (ls : List Int) : Option Int → Int
  | none => 9999
  | some i => (ls[i.toNat]?).getD 0
theorem hgt_lev {most many : Int} {ls : List Int} {ts : List (List (Option Int))} (o : OkAlg most many ls ts) (hm : most ≤ 4095) {x : Option Int} (hx : In ls x) : (x = none ∧ hgt ls x = 9999 ∧ lev ls x = 4096) ∨ (x ≠ none ∧ hgt ls x = lev ls x ∧ lev ls x ≤ 4095) := by
  cases x with
  | none => exact .inl ⟨rfl, rfl, rfl⟩
  | some i =>
    have := hx i rfl
    exact .inr ⟨by simp, rfl, lev_some o hm this.1 this.2⟩
end Lib
end Fx

/-! a value is alike itself -/
namespace Fx
open PySem
theorem eqD_self {x : D} (h : pl60 x = true) : eqD x x = true := SeqAt.eqv_refl_plain _ (pl60_shaped h).1
theorem gEq_self {x : D} (h : pl60 x = true) : gEq x x = some (.d (.bl true)) := by
  unfold gEq
  rw [h, eqD_self h]
  rfl
theorem gNe_self {x : D} (h : pl60 x = true) : gNe x x = some (.d (.bl false)) := by
  unfold gNe
  rw [h, eqD_self h]
  rfl
/-- data at most n deep, of bounded width -/
def fit : Nat → D → Bool
  | 0, .non => true
  | 0, .bl _ => true
  | 0, .int _ => true
  | 0, .str _ => true
  | 0, _ => false
  | _ + 1, .non => true
  | _ + 1, .bl _ => true
  | _ + 1, .int _ => true
  | _ + 1, .str _ => true
  | n + 1, .tup ds => decide (ds.length ≤ 1000000) && ds.all (fit n)
  | n + 1, .lst ds => decide (ds.length ≤ 1000000) && ds.all (fit n)
  | _ + 1, _ => false
local macro_rules | `(tactic| walk_at "wp") => `(tactic| simp only [okF_runF, okF_runL, ok_seq, ok_ret, ok_retN, ok_andV, ok_orV, ok_notV, ok_cb, ok_cons, ok_nil, ok_test, ok_dv, ok_op, ok_un, ok_c, ok_if, ok_ifS, ok_and, ok_or, ok_not, ok_asg, ok_gname, ok_drop, ok_call, ok_chain, ok_nx, ok_bk, ok_ct, ok_st, ok_yes, ok_tup, ok_ok, ok_stuck, ex_toD, ex_toL, ex_bl, ex_some, ex_bl1, fl_nx, fl_rt, fl_bk, fl_ct, rt_or, nx_or, mVar, ok1, gIsi, mIsi2, gIsi2, isTy2, isTy, Option.bind, bare, e_add, e_sub, e_int, e_lenS, e_lenT, e_lenL, e_lt, e_le, e_gt, e_ge, e_leC, e_ltC, e_isN, e_notN, e_pow,
  List.map_cons, List.map_nil, List.length_cons, List.length_nil, List.replicate_succ, List.replicate_zero, List.cons_append, List.nil_append, List.append_nil, List.getElem?_cons_zero, List.getElem?_cons_succ, List.set_cons_zero, List.set_cons_succ, Nat.reduceAdd, Nat.reduceSub, true_and, and_true, Bool.not_true, Bool.not_false, true_implies, forall_const, not_true_eq_false, false_implies, Bool.false_eq_true, not_false_eq_true, implies_true, eq_self, ne_eq, reduceCtorEq, Fl.rt.injEq, S.d.injEq, D.int.injEq, false_and, exists_false, or_false, false_or, exists_eq_left'])
local macro_rules | `(tactic| walk_at "wt") => `(tactic| simp (config := { contextual := false }) only [ok_row0, ok_row1, ok_row2, ok_row3, ok_put1, ok_put2, ok_put3, e_mod, e_div, e_mul, e_ixS, decide_true, decide_false, *, okF_runF, okF_runL, ok_seq, ok_ret, ok_retN, ok_andV, ok_orV, ok_notV, ok_cb, ok_cons, ok_nil, ok_test, ok_dv, ok_op, ok_un, ok_c, ok_if, ok_ifS, ok_and, ok_or, ok_not, ok_asg, ok_gname, ok_drop, ok_call, ok_chain, ok_nx, ok_bk, ok_ct, ok_st, ok_yes, ok_tup, ok_ok, ok_stuck, ex_toD, ex_toL, ex_bl, ex_some, ex_bl1, fl_nx, fl_rt, fl_bk, fl_ct, rt_or, nx_or, mVar, ok1, gIsi, mIsi2, gIsi2, isTy2, isTy, Option.bind, bare, e_add, e_sub, e_int, e_lenS, e_lenT, e_lenL, e_lt, e_le, e_gt, e_ge, e_leC, e_ltC, e_isN, e_notN, e_pow,
  List.map_cons, List.map_nil, List.length_cons, List.length_nil, List.replicate_succ, List.replicate_zero, List.cons_append, List.nil_append, List.append_nil, List.getElem?_cons_zero, List.getElem?_cons_succ, List.set_cons_zero, List.set_cons_succ, Nat.reduceAdd, Nat.reduceSub, true_and, and_true, Bool.not_true, Bool.not_false, true_implies, forall_const, not_true_eq_false, false_implies, Bool.false_eq_true, not_false_eq_true, implies_true, eq_self, ne_eq, reduceCtorEq, Fl.rt.injEq, S.d.injEq, D.int.injEq, false_and, exists_false, or_false, false_or, exists_eq_left'])
local macro_rules | `(tactic| walk_at "wy") => `(tactic| try walk_at "wp")
local macro_rules | `(tactic| walk_at "we") => `(tactic| first | done | rfl | exact ⟨rfl, rfl⟩ | exact ⟨rfl, rfl, rfl⟩)

namespace Lib
def b_law_alike (r : Fn) : M Fl := (mSeq (mIfS (mTest (mIsi2 "tuple" "list" (mVar 1))) (mSeq (mIfS (mOr (mNot (mTest (mIsi2 "tuple" "list" (mVar 0)))) (mTest (mOp gNe (mCB gIsi (aCons (mVar 0) (aCons (mC (.ty "list")) aNil))) (mCB gIsi (aCons (mVar 1) (aCons (mC (.ty "list")) aNil)))))) (mRet (mC (.bl false))) mNx)
    (mSeq (mIfS (mTest (mOp gNe (mCB gLen (aCons (mVar 0) aNil)) (mCB gLen (aCons (mVar 1) aNil)))) (mRet (mC (.bl false))) mNx)
    (mRet (mOp gEq (mLc (iRange1 (aCons (mCB gLen (aCons (mVar 1) aNil)) aNil)) (gmName 2) (mNot (mTest (mCall r (aCons (mOp gIx (mVar 0) (mVar 2)) (aCons (mOp gIx (mVar 1) (mVar 2)) aNil))))) (mVar 2) [2]) (mLst aNil))))) mNx)
    (mSeq (mIfS (mOr (mTest (mOp gIsN (mVar 1) (mC .non))) (mTest (mCB gIsi (aCons (mVar 1) (aCons (mC (.ty "str")) aNil))))) (mRet (mAndV (mOp gEq (mVar 0) (mVar 1)) (mOp gEq (mCB gIsi (aCons (mVar 0) (aCons (mC (.ty "str")) aNil))) (mCB gIsi (aCons (mVar 1) (aCons (mC (.ty "str")) aNil)))))) mNx)
    (mRet (mAndV (mCB gIsi (aCons (mVar 0) (aCons (mC (.ty "int")) aNil))) (mAndV (mOp gEq (mCB gIsi (aCons (mVar 0) (aCons (mC (.ty "bool")) aNil))) (mCB gIsi (aCons (mVar 1) (aCons (mC (.ty "bool")) aNil)))) (mOp gEq (mVar 0) (mVar 1)))))))
def f_law_alike : Nat → Fn
  | 0 => runF 2 3 mSt
  | n + 1 => runF 2 3 (b_law_alike (f_law_alike n))
theorem e_eqT {b : Bool} {K : S → Prop} : (∃ s, gEq (.bl b) (.bl b) = some s ∧ K s) ↔ K (.d (.bl true)) := by
  rw [gEq_self rfl]
  exact ex_some
theorem e_neF {b : Bool} {K : S → Prop} : (∃ s, gNe (.bl b) (.bl b) = some s ∧ K s) ↔ K (.d (.bl false)) := by
  rw [gNe_self rfl]
  exact ex_some
theorem e_neI {i : Int} {K : S → Prop} : (∃ s, gNe (.int i) (.int i) = some s ∧ K s) ↔ K (.d (.bl false)) := by
  rw [gNe_self rfl]
  exact ex_some
theorem e_eqI {i : Int} {K : S → Prop} : (∃ s, gEq (.int i) (.int i) = some s ∧ K s) ↔ K (.d (.bl true)) := by
  rw [gEq_self rfl]
  exact ex_some
theorem e_eqN {K : S → Prop} : (∃ s, gEq .non .non = some s ∧ K s) ↔ K (.d (.bl true)) := by
  rw [gEq_self rfl]
  exact ex_some
theorem e_eqS {z : Str} {K : S → Prop} : (∃ s, gEq (.str z) (.str z) = some s ∧ K s) ↔ K (.d (.bl true)) := by
  rw [gEq_self rfl]
  exact ex_some
local macro_rules | `(tactic| walk_at "wz") => `(tactic| repeat (first | walk_at "wp" | simp only [isN, e_eqN, e_eqT, e_eqI, e_eqS, e_neF, e_neI]))
theorem alike_leaf {r : Fn} {x : D} (hx : fit 0 x = true) {K : S → Prop} (q : K (.d (.bl true))) : OKF (runF 2 3 (b_law_alike r) [.d x, .d x]) K := by
  unfold b_law_alike
  cases x <;> first | cases hx | skip
  · walk_at "wz"
    exact q
  · walk_at "wz"
    exact q
  · walk_at "wz"
    exact q
  · walk_at "wz"
    exact q
theorem alike_self : ∀ (n : Nat) (x : D), fit n x = true → ∀ {K : S → Prop}, K (.d (.bl true)) → OKF (f_law_alike (n + 1) [.d x, .d x]) K := by
  intro n
  induction n with
  | zero => exact fun x h K q => alike_leaf h q
  | succ n ih =>
    intro x h K q
    show OKF (runF 2 3 (b_law_alike (f_law_alike (n + 1))) [.d x, .d x]) K
    cases x with
    | non => exact alike_leaf rfl q
    | bl b => exact alike_leaf rfl q
    | int i => exact alike_leaf rfl q
    | str z => exact alike_leaf rfl q
    | tup ds =>
      have h : (decide (ds.length ≤ 1000000) && ds.all (fit n)) = true := h
      rw [Bool.and_eq_true, decide_eq_true_eq, List.all_eq_true] at h
      obtain ⟨hl, ha⟩ := h
      unfold b_law_alike
      walk_at "wz"
      rw [ok_lc]
      refine ok_range1 (n := ds.length) ?_
      walk_at "wp"
      refine ⟨by omega, by omega, ?_⟩
      simp only [wipeE]
      walk_at "wp"
      refine ok_comp (I := fun i acc ρ => acc = [] ∧ ρ = [some (.d (.tup ds)), some (.d (.tup ds)), none]) (k := 0) ⟨rfl, rfl⟩ ?_ ?_
      · rintro i y acc ρ hy ⟨rfl, rfl⟩
        obtain ⟨rfl, hi⟩ := intsFrom_at hy
        rw [Int.toNat_natCast] at hi
        have ei : ds[i]? = some ds[i] := List.getElem?_eq_getElem hi
        repeat (first | walk_at "wp" | simp only [e_ixT (ds := ds) (i := (i : Nat)) (by omega) (by omega), Int.toNat_natCast, ei, Option.getD_some])
        refine ih _ (ha _ (List.getElem_mem hi)) ?_
        walk_at "wp"
        rfl
      · rintro acc ρ ⟨rfl, rfl⟩
        rw [ok_lst]
        walk_at "wp"
        exact ⟨rfl, _, gEq_self rfl, q⟩
    | lst ds =>
      have h : (decide (ds.length ≤ 1000000) && ds.all (fit n)) = true := h
      rw [Bool.and_eq_true, decide_eq_true_eq, List.all_eq_true] at h
      obtain ⟨hl, ha⟩ := h
      unfold b_law_alike
      walk_at "wz"
      rw [ok_lc]
      refine ok_range1 (n := ds.length) ?_
      walk_at "wp"
      refine ⟨by omega, by omega, ?_⟩
      simp only [wipeE]
      walk_at "wp"
      refine ok_comp (I := fun i acc ρ => acc = [] ∧ ρ = [some (.d (.lst ds)), some (.d (.lst ds)), none]) (k := 0) ⟨rfl, rfl⟩ ?_ ?_
      · rintro i y acc ρ hy ⟨rfl, rfl⟩
        obtain ⟨rfl, hi⟩ := intsFrom_at hy
        rw [Int.toNat_natCast] at hi
        have ei : ds[i]? = some ds[i] := List.getElem?_eq_getElem hi
        repeat (first | walk_at "wp" | simp only [e_ixL (ds := ds) (i := (i : Nat)) (by omega) (by omega), Int.toNat_natCast, ei, Option.getD_some])
        refine ih _ (ha _ (List.getElem_mem hi)) ?_
        walk_at "wp"
        rfl
      · rintro acc ρ ⟨rfl, rfl⟩
        rw [ok_lst]
        walk_at "wp"
        exact ⟨rfl, _, gEq_self rfl, q⟩
    | _ => cases h
end Lib
end Fx

/-! data that fit, slices, sums of tuples -/
namespace Fx
open PySem
theorem fit_pl : ∀ {n m : Nat} {x : D}, fit n x = true → n ≤ m → pl m x = true := by
  intro n
  induction n with
  | zero =>
    intro m x h _
    cases x <;> first | (simp [pl]; done) | cases h
  | succ n ih =>
    intro m x h hm
    cases m with
    | zero => omega
    | succ m =>
      cases x with
      | tup ds =>
        have h : (decide (ds.length ≤ 1000000) && ds.all (fit n)) = true := h
        rw [Bool.and_eq_true, List.all_eq_true] at h
        simp only [pl, plA_all, List.all_eq_true]
        exact fun y hy => ih (h.2 y hy) (by omega)
      | lst ds =>
        have h : (decide (ds.length ≤ 1000000) && ds.all (fit n)) = true := h
        rw [Bool.and_eq_true, List.all_eq_true] at h
        simp only [pl, plA_all, List.all_eq_true]
        exact fun y hy => ih (h.2 y hy) (by omega)
      | non => simp [pl]
      | bl b => simp [pl]
      | int i => simp [pl]
      | str z => simp [pl]
      | _ => cases h
theorem fit_60 {n : Nat} {x : D} (h : fit n x = true) (hn : n ≤ 60) : pl60 x = true := fit_pl h hn
theorem fit_tup {n : Nat} {ds : List D} (hl : ds.length ≤ 1000000) (h : ∀ x ∈ ds, fit n x = true) : fit (n + 1) (.tup ds) = true := by
  show (decide (ds.length ≤ 1000000) && ds.all (fit n)) = true
  rw [decide_eq_true hl, Bool.true_and, List.all_eq_true]
  exact h
theorem fit_lst {n : Nat} {ds : List D} (hl : ds.length ≤ 1000000) (h : ∀ x ∈ ds, fit n x = true) : fit (n + 1) (.lst ds) = true := by
  show (decide (ds.length ≤ 1000000) && ds.all (fit n)) = true
  rw [decide_eq_true hl, Bool.true_and, List.all_eq_true]
  exact h
theorem fit_int {n : Nat} {i : Int} : fit n (.int i) = true := by cases n <;> rfl
theorem fit_bl {n : Nat} {b : Bool} : fit n (.bl b) = true := by cases n <;> rfl
theorem fit_non {n : Nat} : fit n .non = true := by cases n <;> rfl
theorem fit_oD {n : Nat} {o : Option Int} : fit n (Lib.oD o) = true := by
  cases o with
  | none => exact fit_non
  | some i => exact fit_int
theorem fit_ints {n : Nat} {ls : List Int} (hl : ls.length ≤ 1000000) : fit (n + 1) (.tup (ls.map D.int)) = true := fit_tup (by rw [List.length_map]; exact hl) fun x hx => by
  obtain ⟨i, _, rfl⟩ := List.mem_map.mp hx
  exact fit_int
theorem fit_tab {n : Nat} {t : List (Option Int)} (hl : t.length ≤ 1000000) : fit (n + 1) (Lib.tabD t) = true := fit_tup (by rw [List.length_map]; exact hl) fun x hx => by
  obtain ⟨i, _, rfl⟩ := List.mem_map.mp hx
  exact fit_oD
theorem fit_tabs {n : Nat} {ts : List (List (Option Int))} (hl : ts.length ≤ 1000000) (ht : ∀ t ∈ ts, t.length ≤ 1000000) : fit (n + 2) (.tup (ts.map Lib.tabD)) = true := fit_tup (by rw [List.length_map]; exact hl) fun x hx => by
  obtain ⟨t, hm, rfl⟩ := List.mem_map.mp hx
  exact fit_tab (ht t hm)
/-! slices of tuples -/
theorem cutD_from {xs : List D} {k : Int} (h : 0 ≤ k) : cutD xs (some k) none = xs.drop k.toNat := by
  unfold cutD
  have e : HT.sIx xs.length 0 (some k) = min k.toNat xs.length := by
    show (if k < 0 then _ else min k.toNat xs.length) = _
    rw [if_neg (by omega)]
  rw [e, HT.sIx_none]
  by_cases hk : k.toNat ≤ xs.length
  · rw [Nat.min_eq_left hk]
    exact List.take_of_length_le (by rw [List.length_drop]; omega)
  · rw [Nat.min_eq_right (by omega), List.drop_length, List.drop_of_length_le (by omega), List.take_nil]
theorem ok_slTo {fe fh : M S} {ρ : En} {P : S → En → Prop} (h : OK (dv fe ρ) fun x ρ1 => OK (dv fh ρ1) fun y ρ2 => ∃ xs k, x = .tup xs ∧ y = .int k ∧ 0 ≤ k ∧ P (.d (.tup (xs.take k.toNat))) ρ2) : OK (mSl fe oNone (oSome fh) ρ) P := by
  refine ok_sl (h.imp fun x ρ1 h => ?_)
  rw [ok_onone]
  refine ok_osome (h.imp fun y ρ2 h => ?_)
  obtain ⟨xs, k, rfl, rfl, k0, q⟩ := h
  refine ⟨k, rfl, _, rfl, ?_⟩
  rw [cutD_to k0]
  exact q
theorem ok_slFrom {fe fl : M S} {ρ : En} {P : S → En → Prop} (h : OK (dv fe ρ) fun x ρ1 => OK (dv fl ρ1) fun y ρ2 => ∃ xs k, x = .tup xs ∧ y = .int k ∧ 0 ≤ k ∧ P (.d (.tup (xs.drop k.toNat))) ρ2) : OK (mSl fe (oSome fl) oNone ρ) P := by
  refine ok_sl (h.imp fun x ρ1 h => ?_)
  refine ok_osome (h.imp fun y ρ2 h => ?_)
  obtain ⟨xs, k, rfl, rfl, k0, q⟩ := h
  refine ⟨k, rfl, ?_⟩
  rw [ok_onone]
  refine ⟨_, rfl, ?_⟩
  rw [cutD_from k0]
  exact q
theorem e_catT {xs ys : List D} {K : S → Prop} (h : xs.length + ys.length ≤ 16777216) : (∃ s, gAdd (.tup xs) (.tup ys) = some s ∧ K s) ↔ K (.d (.tup (xs ++ ys))) := by
  have e : gAdd (.tup xs) (.tup ys) = some (.d (.tup (xs ++ ys))) := if_pos (decide_eq_true h)
  rw [e]
  exact ex_some
theorem e_neSelf {x : D} {K : S → Prop} (h : pl60 x = true) : (∃ s, gNe x x = some s ∧ K s) ↔ K (.d (.bl false)) := by
  rw [gNe_self h]
  exact ex_some
theorem e_neII {i j : Int} {K : S → Prop} : (∃ s, gNe (.int i) (.int j) = some s ∧ K s) ↔ K (.d (.bl (!decide (i = j)))) := by
  have e : gNe (.int i) (.int j) = some (.d (.bl (!decide (i = j)))) := rfl
  rw [e]
  exact ex_some
local macro_rules | `(tactic| walk_at "wp") => `(tactic| simp only [okF_runF, okF_runL, ok_seq, ok_ret, ok_retN, ok_andV, ok_orV, ok_notV, ok_cb, ok_cons, ok_nil, ok_test, ok_dv, ok_op, ok_un, ok_c, ok_if, ok_ifS, ok_and, ok_or, ok_not, ok_asg, ok_gname, ok_drop, ok_call, ok_chain, ok_nx, ok_bk, ok_ct, ok_st, ok_yes, ok_tup, ok_ok, ok_stuck, ex_toD, ex_toL, ex_bl, ex_some, ex_bl1, fl_nx, fl_rt, fl_bk, fl_ct, rt_or, nx_or, mVar, ok1, gIsi, mIsi2, gIsi2, isTy2, isTy, Option.bind, bare, e_add, e_sub, e_int, e_lenS, e_lenT, e_lenL, e_lt, e_le, e_gt, e_ge, e_leC, e_ltC, e_isN, e_notN, e_pow,
  List.map_cons, List.map_nil, List.length_cons, List.length_nil, List.replicate_succ, List.replicate_zero, List.cons_append, List.nil_append, List.append_nil, List.getElem?_cons_zero, List.getElem?_cons_succ, List.set_cons_zero, List.set_cons_succ, Nat.reduceAdd, Nat.reduceSub, true_and, and_true, Bool.not_true, Bool.not_false, true_implies, forall_const, not_true_eq_false, false_implies, Bool.false_eq_true, not_false_eq_true, implies_true, eq_self, ne_eq, reduceCtorEq, Fl.rt.injEq, S.d.injEq, D.int.injEq, false_and, exists_false, or_false, false_or, exists_eq_left'])
local macro_rules | `(tactic| walk_at "wt") => `(tactic| simp (config := { contextual := false }) only [ok_row0, ok_row1, ok_row2, ok_row3, ok_put1, ok_put2, ok_put3, e_mod, e_div, e_mul, e_ixS, decide_true, decide_false, *, okF_runF, okF_runL, ok_seq, ok_ret, ok_retN, ok_andV, ok_orV, ok_notV, ok_cb, ok_cons, ok_nil, ok_test, ok_dv, ok_op, ok_un, ok_c, ok_if, ok_ifS, ok_and, ok_or, ok_not, ok_asg, ok_gname, ok_drop, ok_call, ok_chain, ok_nx, ok_bk, ok_ct, ok_st, ok_yes, ok_tup, ok_ok, ok_stuck, ex_toD, ex_toL, ex_bl, ex_some, ex_bl1, fl_nx, fl_rt, fl_bk, fl_ct, rt_or, nx_or, mVar, ok1, gIsi, mIsi2, gIsi2, isTy2, isTy, Option.bind, bare, e_add, e_sub, e_int, e_lenS, e_lenT, e_lenL, e_lt, e_le, e_gt, e_ge, e_leC, e_ltC, e_isN, e_notN, e_pow,
  List.map_cons, List.map_nil, List.length_cons, List.length_nil, List.replicate_succ, List.replicate_zero, List.cons_append, List.nil_append, List.append_nil, List.getElem?_cons_zero, List.getElem?_cons_succ, List.set_cons_zero, List.set_cons_succ, Nat.reduceAdd, Nat.reduceSub, true_and, and_true, Bool.not_true, Bool.not_false, true_implies, forall_const, not_true_eq_false, false_implies, Bool.false_eq_true, not_false_eq_true, implies_true, eq_self, ne_eq, reduceCtorEq, Fl.rt.injEq, S.d.injEq, D.int.injEq, false_and, exists_false, or_false, false_or, exists_eq_left'])
local macro_rules | `(tactic| walk_at "wy") => `(tactic| try walk_at "wp")
local macro_rules | `(tactic| walk_at "we") => `(tactic| first | done | rfl | exact ⟨rfl, rfl⟩ | exact ⟨rfl, rfl, rfl⟩)

namespace Lib
def b_check_two : M Fl := (mSeq (mDrop (mCall f_check_algebra (aCons (mVar 0) aNil)))
    (mDrop (mCall f_check_algebra (aCons (mVar 1) aNil))))
def f_check_two : Fn := runF 2 2 b_check_two
def b_check_many : M Fl := (mIfS (mTest (mOp gGt (mVar 0) (mC (.int 64)))) mSt mNx)
def f_check_many : Fn := runF 1 1 b_check_many
def b_united : M Fl := (mSeq (mDrop (mCall f_check_two (aCons (mVar 0) (aCons (mVar 1) aNil))))
    (mSeq (mIfS (mTest (mOp gNe (mFldE "Algebra" 0 (mVar 0)) (mFldE "Algebra" 0 (mVar 1)))) mSt mNx)
    (mSeq (mDrop (mCall f_check_many (aCons (mOp gAdd (mCB gLen (aCons (mFldE "Algebra" 1 (mVar 0)) aNil)) (mCB gLen (aCons (mFldE "Algebra" 1 (mVar 1)) aNil))) aNil)))
    (mRet (mMake "Algebra" 2 f_Algebra_init (aCons (mFldE "Algebra" 0 (mVar 0)) (aCons (mOp gAdd (mFldE "Algebra" 1 (mVar 0)) (mFldE "Algebra" 1 (mVar 1))) aNil)))))))
def f_united : Fn := runF 2 2 b_united
theorem check_two {l1 l2 : List Int} {t1 t2 : List (List (Option Int))} {K : S → Prop} (h : K (.d .non)) : OKF (f_check_two [.d (algD l1 t1), .d (algD l2 t2)]) K := by
  unfold f_check_two b_check_two
  walk_at "wp"
  refine check ?_
  walk_at "wp"
  refine check ?_
  walk_at "wp"
  exact h
theorem check_many {n : Int} (hn : n ≤ 64) {K : S → Prop} (h : K (.d .non)) : OKF (f_check_many [.d (.int n)]) K := by
  unfold f_check_many b_check_many
  walk_at "wp"
  rw [decide_eq_false (by omega)]
  walk_at "wp"
  exact h
theorem OkAlg.app {most m1 m2 : Int} {ls : List Int} {A B : List (List (Option Int))} (a : OkAlg most m1 ls A) (b : OkAlg most m2 ls B) : OkAlg most (m1 + m2) ls (A ++ B) := by
  refine ⟨a.l1, a.l2, a.lv, by rw [List.length_append]; have := a.t1; omega, by rw [List.length_append]; have := a.t2; have := b.t2; omega, fun t ht => ?_⟩
  rcases List.mem_append.mp ht with h | h
  · exact a.tb t h
  · exact b.tb t h
theorem united {most m1 m2 : Int} {ls : List Int} {A B : List (List (Option Int))} (a : OkAlg most m1 ls A) (b : OkAlg most m2 ls B) (h : most ≤ 64) (hm : m1 + m2 ≤ 64) {K : S → Prop} (q : K (.d (algD ls (A ++ B)))) : OKF (f_united [.d (algD ls A), .d (algD ls B)]) K := by
  have o := a.app b
  have l2 := o.l2
  have t2 := o.t2
  rw [List.length_append] at t2
  unfold f_united b_united
  rw [okF_runF]
  refine ⟨rfl, ?_⟩
  rw [ok_seq]
  walk_at "wp"
  refine check_two ⟨rfl, ?_⟩
  refine @ok_fld _ _ _ _ _ ?_
  walk_at "wp"
  refine ⟨_, _, rfl, rfl, ?_⟩
  refine @ok_fld _ _ _ _ _ ?_
  walk_at "wp"
  refine ⟨_, _, rfl, rfl, ?_⟩
  rw [e_neSelf (fit_60 (n := 1) (fit_ints (by omega)) (by decide))]
  walk_at "wp"
  refine @ok_fld _ _ _ _ _ ?_
  walk_at "wp"
  refine ⟨_, _, rfl, rfl, ?_⟩
  walk_at "wp"
  refine @ok_fld _ _ _ _ _ ?_
  walk_at "wp"
  refine ⟨_, _, rfl, rfl, ?_⟩
  walk_at "wp"
  refine check_many (by rw [List.length_map, List.length_map]; omega) ?_
  walk_at "wp"
  refine ok_make ?_
  walk_at "wp"
  refine @ok_fld _ _ _ _ _ ?_
  walk_at "wp"
  refine ⟨_, _, rfl, rfl, ?_⟩
  refine @ok_fld _ _ _ _ _ ?_
  walk_at "wp"
  refine ⟨_, _, rfl, rfl, ?_⟩
  refine @ok_fld _ _ _ _ _ ?_
  walk_at "wp"
  refine ⟨_, _, rfl, rfl, ?_⟩
  rw [e_catT (by rw [List.length_map, List.length_map]; omega), ← List.map_append]
  walk_at "wp"
  refine (made o h hm).imp fun s ρ' ⟨e1, e2⟩ => ⟨e1, _, e2, rfl, ?_⟩
  exact q
/-! breaks of both -/
theorem least2_none {br : Int → Int → Bool} {ls : List Int} {ts : List (List (Option Int))} {r : Option (Nat × Nat)} (h : Least2 br ls ts r) : r = none ↔ ∀ f j, Brk2 br ls ts f j = false := by
  cases r with
  | none => exact ⟨fun _ => h, fun _ => rfl⟩
  | some p => exact ⟨fun e => (by cases e), fun k => by
      have := h.2.2.1
      rw [k] at this
      cases this⟩
theorem least3_none {br : Int → Int → Int → Int → Bool} {ls : List Int} {ts : List (List (Option Int))} {r : Option (Nat × Nat × Nat)} (h : Least3 br ls ts r) : r = none ↔ ∀ f i j, Brk3 br ls ts f i j = false := by
  cases r with
  | none => exact ⟨fun _ => h, fun _ => rfl⟩
  | some p => exact ⟨fun e => (by cases e), fun k => by
      have := h.2.2.2.1
      rw [k] at this
      cases this⟩
theorem brk2_app {br : Int → Int → Bool} {ls : List Int} {A B : List (List (Option Int))} : (∀ f j, Brk2 br ls (A ++ B) f j = false) ↔ (∀ f j, Brk2 br ls A f j = false) ∧ ∀ f j, Brk2 br ls B f j = false := by
  constructor
  · refine fun h => ⟨fun f j => ?_, fun f j => ?_⟩
    · by_cases hf : f < A.length
      · have := h f j
        unfold Brk2 at this ⊢
        rw [List.getElem?_append_left hf] at this
        exact this
      · exact Brk2.out (.inl (by omega))
    · have := h (A.length + f) j
      unfold Brk2 at this ⊢
      rw [List.getElem?_append_right (by omega), Nat.add_sub_cancel_left] at this
      exact this
  · rintro ⟨h1, h2⟩ f j
    by_cases hf : f < A.length
    · have := h1 f j
      unfold Brk2 at this ⊢
      rw [List.getElem?_append_left hf]
      exact this
    · have := h2 (f - A.length) j
      unfold Brk2 at this ⊢
      rw [List.getElem?_append_right (by omega)]
      exact this
theorem brk3_app {br : Int → Int → Int → Int → Bool} {ls : List Int} {A B : List (List (Option Int))} : (∀ f i j, Brk3 br ls (A ++ B) f i j = false) ↔ (∀ f i j, Brk3 br ls A f i j = false) ∧ ∀ f i j, Brk3 br ls B f i j = false := by
  constructor
  · refine fun h => ⟨fun f i j => ?_, fun f i j => ?_⟩
    · by_cases hf : f < A.length
      · have := h f i j
        unfold Brk3 at this ⊢
        rw [List.getElem?_append_left hf] at this
        exact this
      · exact Brk3.out (.inl (by omega))
    · have := h (A.length + f) i j
      unfold Brk3 at this ⊢
      rw [List.getElem?_append_right (by omega), Nat.add_sub_cancel_left] at this
      exact this
  · rintro ⟨h1, h2⟩ f i j
    by_cases hf : f < A.length
    · have := h1 f i j
      unfold Brk3 at this ⊢
      rw [List.getElem?_append_left hf]
      exact this
    · have := h2 (f - A.length) i j
      unfold Brk3 at this ⊢
      rw [List.getElem?_append_right (by omega)]
      exact this
end Lib
end Fx

/-! lexicographic products: their levels and functions, when they are isotone -/
namespace Fx
open PySem
namespace Lib
theorem prod_len {α β γ : Type} (h : α → β → γ) (B : List β) : ∀ A : List α, (A.flatMap fun a => B.map (h a)).length = A.length * B.length
  | [] => by simp
  | a :: A => by
    rw [List.flatMap_cons, List.length_append, prod_len h B A, List.length_map, List.length_cons, Nat.succ_mul]
    omega
theorem prod_get {α β γ : Type} (h : α → β → γ) (B : List β) : ∀ (A : List α) {s t : Nat} {a : α} {b : β}, A[s]? = some a → B[t]? = some b → (A.flatMap fun a => B.map (h a))[s * B.length + t]? = some (h a b)
  | [], s, t, a, b, e, _ => by simp at e
  | x :: A, 0, t, a, b, e, eb => by
    simp at e
    subst e
    have ht := (List.getElem?_eq_some_iff.mp eb).1
    rw [List.flatMap_cons, Nat.zero_mul, Nat.zero_add, List.getElem?_append_left (by rw [List.length_map]; exact ht), List.getElem?_map, eb]
    rfl
  | x :: A, s + 1, t, a, b, e, eb => by
    have e : A[s]? = some a := by simpa using e
    rw [List.flatMap_cons, List.getElem?_append_right (by rw [List.length_map, Nat.succ_mul]; omega), List.length_map, show (s + 1) * B.length + t - B.length = s * B.length + t by rw [Nat.succ_mul]; omega]
    exact prod_get h B A e eb
theorem prod_ix {n m p : Nat} (h : p < n * m) : ∃ s t, s < n ∧ t < m ∧ p = s * m + t := by
  have hm : 0 < m := by
    rcases Nat.eq_zero_or_pos m with e | e
    · subst e
      omega
    · exact e
  refine ⟨p / m, p % m, Nat.div_lt_of_lt_mul (by rw [Nat.mul_comm]; exact h), Nat.mod_lt _ hm, ?_⟩
  rw [Nat.mul_comm]
  exact (Nat.div_add_mod p m).symm
theorem plc_ord {u : List Int} (h : u.Pairwise (· < ·)) {x y : Int} (hx : x ∈ u) (hy : y ∈ u) : Rw.plc u x < Rw.plc u y ↔ x < y := by
  have gx := List.getElem?_eq_some_iff.mp (Rw.plc_get hx)
  have gy := List.getElem?_eq_some_iff.mp (Rw.plc_get hy)
  obtain ⟨ax, ex⟩ := gx
  obtain ⟨ay, ey⟩ := gy
  have pw := List.pairwise_iff_getElem.mp h
  constructor
  · intro l
    have := pw _ _ ax ay l
    rw [ex, ey] at this
    exact this
  · intro l
    rcases Nat.lt_trichotomy (Rw.plc u x) (Rw.plc u y) with c | c | c
    · exact c
    · have e : x = y := by
        have := Rw.plc_get hx
        rw [c, Rw.plc_get hy] at this
        exact (Option.some.inj this).symm
      omega
    · have := pw _ _ ay ax c
      rw [ex, ey] at this
      omega
/-- the level of an element, what a function makes of it -/
def Lv (ls : List Int) (i : Nat) : Int := (ls[i]?).getD 0
def Fu (ts : List (List (Option Int))) (f i : Nat) : Option Int := (((ts[f]?).getD [])[i]?).getD none
section
variable {most many : Int} {ls : List Int} {ts : List (List (Option Int))} (o : OkAlg most many ls ts)
include o
theorem fu_in {f i : Nat} (hf : f < ts.length) (hi : i < ls.length) : In ls (Fu ts f i) := by
  intro j e
  unfold Fu at e
  rw [List.getElem?_eq_getElem hf, Option.getD_some] at e
  obtain ⟨tl, tr⟩ := o.tb _ (List.getElem_mem hf)
  have hj : i < ts[f].length := by omega
  rw [List.getElem?_eq_getElem hj, Option.getD_some] at e
  exact tr j (e ▸ List.getElem_mem hj)
theorem brk3_at {br : Int → Int → Int → Int → Bool} {f i j : Nat} (hf : f < ts.length) (hi : i < ls.length) (hj : j < ls.length) : Brk3 br ls ts f i j = br (Lv ls i) (Lv ls j) (lev ls (Fu ts f i)) (lev ls (Fu ts f j)) := by
  unfold Brk3 Lv Fu
  rw [List.getElem?_eq_getElem hf, List.getElem?_eq_getElem hi, List.getElem?_eq_getElem hj]
  rfl
theorem least3_iff {br : Int → Int → Int → Int → Bool} {r : Option (Nat × Nat × Nat)} (h : Least3 br ls ts r) : r = none ↔ ∀ f i j, f < ts.length → i < ls.length → j < ls.length → br (Lv ls i) (Lv ls j) (lev ls (Fu ts f i)) (lev ls (Fu ts f j)) = false := by
  rw [least3_none h]
  constructor
  · intro k f i j hf hi hj
    rw [← brk3_at (br := br) o hf hi hj]
    exact k f i j
  · intro k f i j
    by_cases hf : f < ts.length
    · by_cases hi : i < ls.length
      · by_cases hj : j < ls.length
        · rw [brk3_at o hf hi hj]
          exact k f i j hf hi hj
        · exact Brk3.out (.inr (.inr (by omega)))
      · exact Brk3.out (.inr (.inl (by omega)))
    · exact Brk3.out (.inl (by omega))
theorem lv_mem {i : Nat} (hi : i < ls.length) : Lv ls i ∈ Rw.uniq ls := by
  unfold Lv
  rw [List.getElem?_eq_getElem hi, Option.getD_some, (Rw.srt_uniq ls).2]
  exact List.getElem_mem hi
end
theorem lev_nat {ls : List Int} {i : Int} (h : 0 ≤ i) : lev ls (some i) = Lv ls i.toNat := rfl
/-! ### the product -/
def lexL (ls ms : List Int) : List Int := Rw.pairLevels (Rw.uniq ls) (Rw.uniq ms) ls ms
def lexT (ts us : List (List (Option Int))) : List (List (Option Int)) := ts.flatMap fun t => us.map fun u => Rw.pairTable t u
def code (u : List Int) (ls : List Int) (i : Nat) : Int := (Rw.plc u (Lv ls i) : Nat)
theorem lexL_len {ls ms : List Int} : (lexL ls ms).length = ls.length * ms.length := by
  unfold lexL Rw.pairLevels
  rw [prod_len]
  unfold Rw.places
  rw [List.length_map, List.length_map]
theorem lexT_len {ts us : List (List (Option Int))} : (lexT ts us).length = ts.length * us.length := prod_len _ _ _
theorem lexLv {ls ms : List Int} {s t : Nat} (hs : s < ls.length) (ht : t < ms.length) : Lv (lexL ls ms) (s * ms.length + t) = code (Rw.uniq ls) ls s * ((Rw.uniq ms).length : Int) + code (Rw.uniq ms) ms t := by
  unfold Lv lexL Rw.pairLevels
  have hl : ms.length = (Rw.places (Rw.uniq ms) ms).length := by
    unfold Rw.places
    rw [List.length_map]
  rw [hl]
  have e1 : (Rw.places (Rw.uniq ls) ls)[s]? = some (code (Rw.uniq ls) ls s) := by
    unfold Rw.places code Lv
    rw [List.getElem?_map, List.getElem?_eq_getElem hs]
    rfl
  have e2 : (Rw.places (Rw.uniq ms) ms)[t]? = some (code (Rw.uniq ms) ms t) := by
    unfold Rw.places code Lv
    rw [List.getElem?_map, List.getElem?_eq_getElem ht]
    rfl
  rw [prod_get (fun a b => a * ((Rw.uniq ms).length : Int) + b) _ _ e1 e2]
  rfl
section
variable {q1 q2 m1 m2 : Int} {ls ms : List Int} {ts us : List (List (Option Int))} (o : OkAlg q1 m1 ls ts) (p : OkAlg q2 m2 ms us)
include o p
theorem lexFu {f g s t : Nat} (hf : f < ts.length) (hg : g < us.length) (hs : s < ls.length) (ht : t < ms.length) : Fu (lexT ts us) (f * us.length + g) (s * ms.length + t) = Rw.pairOf ms.length (Fu ts f s) (Fu us g t) := by
  have tl := (o.tb _ (List.getElem_mem hf)).1
  have ul := (p.tb _ (List.getElem_mem hg)).1
  have e1 : ts[f][s]? = some (Fu ts f s) := by
    unfold Fu
    rw [List.getElem?_eq_getElem hf, Option.getD_some, List.getElem?_eq_getElem (show s < ts[f].length by omega)]
    rfl
  have e2 : us[g][t]? = some (Fu us g t) := by
    unfold Fu
    rw [List.getElem?_eq_getElem hg, Option.getD_some, List.getElem?_eq_getElem (show t < us[g].length by omega)]
    rfl
  have k : (lexT ts us)[f * us.length + g]? = some (Rw.pairTable ts[f] us[g]) := prod_get _ _ _ (List.getElem?_eq_getElem hf) (List.getElem?_eq_getElem hg)
  show (((lexT ts us)[f * us.length + g]?.getD [])[s * ms.length + t]?).getD none = _
  rw [k, Option.getD_some, ← ul]
  unfold Rw.pairTable
  rw [prod_get (fun a b => Rw.pairOf (us[g].length : Int) a b) _ _ e1 e2]
  rfl
theorem code_lt {s s' : Nat} (hs : s < ls.length) (hs' : s' < ls.length) : code (Rw.uniq ls) ls s < code (Rw.uniq ls) ls s' ↔ Lv ls s < Lv ls s' := by
  have := plc_ord (Rw.srt_uniq ls).1 (lv_mem o hs) (lv_mem o hs')
  unfold code
  omega
theorem code_rng {t : Nat} (ht : t < ms.length) : 0 ≤ code (Rw.uniq ms) ms t ∧ code (Rw.uniq ms) ms t < ((Rw.uniq ms).length : Int) := by
  have := Rw.plc_lt (lv_mem p ht)
  unfold code
  omega
theorem lex_le {s s' t t' : Nat} (hs : s < ls.length) (hs' : s' < ls.length) (ht : t < ms.length) (ht' : t' < ms.length) :
    Lv (lexL ls ms) (s * ms.length + t) ≤ Lv (lexL ls ms) (s' * ms.length + t') ↔ Lv ls s < Lv ls s' ∨ (Lv ls s = Lv ls s' ∧ Lv ms t ≤ Lv ms t') := by
  rw [lexLv hs ht, lexLv hs' ht']
  have a1 := code_lt o p hs hs'
  have a2 := code_lt o p hs' hs
  have b1 := code_lt p o ht ht'
  have b2 := code_lt p o ht' ht
  obtain ⟨c1, c2⟩ := code_rng o p ht
  obtain ⟨d1, d2⟩ := code_rng o p ht'
  generalize code (Rw.uniq ls) ls s = x at *
  generalize code (Rw.uniq ls) ls s' = x' at *
  generalize code (Rw.uniq ms) ms t = y at *
  generalize code (Rw.uniq ms) ms t' = y' at *
  generalize ((Rw.uniq ms).length : Int) = m at *
  rcases Int.lt_trichotomy x x' with h | h | h
  · have : x * m + m ≤ x' * m := by
      have := Int.mul_le_mul_of_nonneg_right (show x + 1 ≤ x' by omega) (show 0 ≤ m by omega)
      rw [Int.add_mul, Int.one_mul] at this
      exact this
    constructor
    · intro _
      exact .inl (a1.mp h)
    · intro _
      omega
  · subst h
    have e : Lv ls s = Lv ls s' := by omega
    constructor
    · intro k
      exact .inr ⟨e, by omega⟩
    · rintro (k | ⟨_, k⟩)
      · omega
      · omega
  · have : x' * m + m ≤ x * m := by
      have := Int.mul_le_mul_of_nonneg_right (show x' + 1 ≤ x by omega) (show 0 ≤ m by omega)
      rw [Int.add_mul, Int.one_mul] at this
      exact this
    constructor
    · intro k
      omega
    · rintro (k | ⟨k, _⟩)
      · omega
      · omega
theorem lexA (hq : q1 * q2 ≤ 64) : OkAlg (q1 * q2) (m1 * m2) (lexL ls ms) (lexT ts us) := by
  have l1 := o.l1
  have l2 := o.l2
  have k1 := p.l1
  have k2 := p.l2
  have hu := (Rw.srt_uniq ls).len
  have hv := (Rw.srt_uniq ms).len
  have hlm : ((ls.length * ms.length : Nat) : Int) ≤ q1 * q2 := by
    have := Int.mul_le_mul l2 k2 (by omega) (by omega)
    rw [Int.natCast_mul]
    exact this
  refine ⟨?_, ?_, fun l hl => ?_, ?_, ?_, fun t ht => ?_⟩
  · rw [lexL_len]
    exact Nat.mul_pos l1 k1
  · rw [lexL_len]
    exact hlm
  · obtain ⟨i, hi⟩ := List.getElem?_of_mem hl
    have hil := (List.getElem?_eq_some_iff.mp hi).1
    rw [lexL_len] at hil
    obtain ⟨s, t, hs, ht, rfl⟩ := prod_ix hil
    have e := lexLv hs ht
    unfold Lv at e
    rw [hi, Option.getD_some] at e
    obtain ⟨c1, c2⟩ := code_rng o p ht
    obtain ⟨d1, d2⟩ := code_rng p o hs
    rw [e]
    have h1 : code (Rw.uniq ls) ls s * ((Rw.uniq ms).length : Int) + ((Rw.uniq ms).length : Int) ≤ ((Rw.uniq ls).length : Int) * ((Rw.uniq ms).length : Int) := by
      have := Int.mul_le_mul_of_nonneg_right (show code (Rw.uniq ls) ls s + 1 ≤ ((Rw.uniq ls).length : Int) by omega) (show 0 ≤ ((Rw.uniq ms).length : Int) by omega)
      rw [Int.add_mul, Int.one_mul] at this
      exact this
    have h2 : ((Rw.uniq ls).length : Int) * ((Rw.uniq ms).length : Int) ≤ q1 * q2 := Int.mul_le_mul (by omega) (by omega) (by omega) (by omega)
    have h3 : 0 ≤ code (Rw.uniq ls) ls s * ((Rw.uniq ms).length : Int) := Int.mul_nonneg d1 (by omega)
    omega
  · rw [lexT_len]
    exact Nat.mul_pos o.t1 p.t1
  · rw [lexT_len, Int.natCast_mul]
    have := o.t1
    have := o.t2
    have := p.t2
    exact Int.mul_le_mul (by omega) (by omega) (by omega) (by omega)
  · obtain ⟨i, hi⟩ := List.getElem?_of_mem ht
    have hil := (List.getElem?_eq_some_iff.mp hi).1
    rw [lexT_len] at hil
    obtain ⟨f, g, hf, hg, rfl⟩ := prod_ix hil
    have k : (lexT ts us)[f * us.length + g]? = some (Rw.pairTable ts[f] us[g]) := prod_get _ _ _ (List.getElem?_eq_getElem hf) (List.getElem?_eq_getElem hg)
    rw [k] at hi
    cases hi
    have tl := (o.tb _ (List.getElem_mem hf)).1
    have ul := (p.tb _ (List.getElem_mem hg)).1
    have hlen : (Rw.pairTable ts[f] us[g]).length = ls.length * ms.length := by
      unfold Rw.pairTable
      rw [prod_len, tl, ul]
    refine ⟨by rw [lexL_len, hlen], fun j hj => ?_⟩
    obtain ⟨x, hx⟩ := List.getElem?_of_mem hj
    have hxl := (List.getElem?_eq_some_iff.mp hx).1
    rw [hlen] at hxl
    obtain ⟨s, t, hs, ht, rfl⟩ := prod_ix hxl
    have e := lexFu o p hf hg hs ht
    unfold Fu at e
    rw [k, Option.getD_some, hx, Option.getD_some] at e
    have i1 := fu_in o hf hs
    have i2 := fu_in p hg ht
    rw [lexL_len]
    unfold Fu at i1 i2
    cases e1 : ((ts[f]?.getD [])[s]?.getD none) with
    | none => rw [e1] at e; cases e
    | some a =>
      cases e2 : ((us[g]?.getD [])[t]?.getD none) with
      | none => rw [e1, e2] at e; cases e
      | some b =>
        rw [e1, e2] at e
        cases e
        obtain ⟨a0, a1⟩ := i1 a e1
        obtain ⟨b0, b1⟩ := i2 b e2
        have h1 : a * (ms.length : Int) + (ms.length : Int) ≤ (ls.length : Int) * (ms.length : Int) := by
          have := Int.mul_le_mul_of_nonneg_right (show a + 1 ≤ (ls.length : Int) by omega) (show 0 ≤ (ms.length : Int) by omega)
          rw [Int.add_mul, Int.one_mul] at this
          exact this
        have h2 : 0 ≤ a * (ms.length : Int) := Int.mul_nonneg a0 (by omega)
        rw [Int.natCast_mul]
        omega
end
/-! ### isotone exactly by the parts -/
def Iso (ls : List Int) (ts : List (List (Option Int))) : Prop := ∀ f i j, f < ts.length → i < ls.length → j < ls.length → Lv ls i ≤ Lv ls j → lev ls (Fu ts f i) ≤ lev ls (Fu ts f j)
def Canc (ls : List Int) (ts : List (List (Option Int))) : Prop := ∀ f i j, f < ts.length → i < ls.length → j < ls.length → Lv ls i < Lv ls j → lev ls (Fu ts f j) < 4096 → lev ls (Fu ts f i) < lev ls (Fu ts f j)
def Const (ls : List Int) (ts : List (List (Option Int))) : Prop := ∀ f i j, f < ts.length → i < ls.length → j < ls.length → lev ls (Fu ts f i) = lev ls (Fu ts f j)
def Even (ls : List Int) (ts : List (List (Option Int))) : Prop := ∀ f i j, f < ts.length → i < ls.length → j < ls.length → lev ls (Fu ts f i) < 4096 → lev ls (Fu ts f j) < 4096
def Deny (ls : List Int) (ts : List (List (Option Int))) : Prop := ∀ f i, f < ts.length → i < ls.length → Fu ts f i = none
def Steps (ls : List Int) (ts : List (List (Option Int))) : Prop := ∃ f i j, f < ts.length ∧ i < ls.length ∧ j < ls.length ∧ Lv ls i < Lv ls j ∧ Fu ts f j ≠ none
section
variable {q1 q2 m1 m2 : Int} {ls ms : List Int} {ts us : List (List (Option Int))} (o : OkAlg q1 m1 ls ts) (p : OkAlg q2 m2 ms us) (h1 : q1 ≤ 4095) (h2 : q2 ≤ 4095) (hq : q1 * q2 ≤ 64)
include o p h1 h2 hq
theorem lev_top {x : Option Int} (hx : In ls x) : lev ls x ≤ 4096 ∧ (lev ls x < 4096 ↔ x ≠ none) := by
  cases x with
  | none => exact ⟨Int.le_refl _, fun h => absurd h (Int.lt_irrefl _), fun n => absurd rfl n⟩
  | some i =>
    have := hx i rfl
    have := lev_some o h1 this.1 this.2
    exact ⟨by omega, fun _ => by simp, fun _ => by omega⟩
theorem lex_lev {x x' y y' : Option Int} (hx : In ls x) (hx' : In ls x') (hy : In ms y) (hy' : In ms y') :
    lev (lexL ls ms) (Rw.pairOf ms.length x y) ≤ lev (lexL ls ms) (Rw.pairOf ms.length x' y') ↔ x' = none ∨ y' = none ∨ (x ≠ none ∧ y ≠ none ∧ (lev ls x < lev ls x' ∨ (lev ls x = lev ls x' ∧ lev ms y ≤ lev ms y'))) := by
  have A := lexA o p hq
  have bound : ∀ {a b : Option Int}, In ls a → In ms b → a ≠ none → b ≠ none → ∃ s t : Nat, s < ls.length ∧ t < ms.length ∧ a = some (Int.ofNat s) ∧ b = some (Int.ofNat t) ∧ lev (lexL ls ms) (Rw.pairOf ms.length a b) = Lv (lexL ls ms) (s * ms.length + t) := by
    intro a b ha hb na nb
    cases a with
    | none => exact absurd rfl na
    | some a =>
      cases b with
      | none => exact absurd rfl nb
      | some b =>
        obtain ⟨a0, a1⟩ := ha a rfl
        obtain ⟨b0, b1⟩ := hb b rfl
        refine ⟨a.toNat, b.toNat, by omega, by omega, congrArg some (Int.toNat_of_nonneg a0).symm, congrArg some (Int.toNat_of_nonneg b0).symm, ?_⟩
        show Lv (lexL ls ms) (a * (ms.length : Int) + b).toNat = _
        congr 1
        have e : a * (ms.length : Int) + b = ((a.toNat * ms.length + b.toNat : Nat) : Int) := by
          rw [Int.natCast_add, Int.natCast_mul, Int.toNat_of_nonneg a0, Int.toNat_of_nonneg b0]
        rw [e, Int.toNat_natCast]
  have top : ∀ {s t : Nat}, s < ls.length → t < ms.length → Lv (lexL ls ms) (s * ms.length + t) ≤ 4095 := by
    intro s t hs ht
    have hlt : s * ms.length + t < (lexL ls ms).length := by
      rw [lexL_len]
      have : (s + 1) * ms.length ≤ ls.length * ms.length := Nat.mul_le_mul_right _ hs
      rw [Nat.succ_mul] at this
      omega
    unfold Lv
    rw [List.getElem?_eq_getElem hlt, Option.getD_some]
    have := A.lv _ (List.getElem_mem hlt)
    omega
  have denied : ∀ {a b : Option Int}, a = none ∨ b = none → lev (lexL ls ms) (Rw.pairOf ms.length a b) = 4096 := by
    intro a b h
    rcases h with rfl | rfl
    · rfl
    · cases a <;> rfl
  by_cases d : x' = none ∨ y' = none
  · rw [denied d]
    refine ⟨fun _ => by rcases d with d | d; exact .inl d; exact .inr (.inl d), fun _ => ?_⟩
    by_cases d2 : x = none ∨ y = none
    · rw [denied d2]
      exact Int.le_refl _
    · obtain ⟨s, t, hs, ht, _, _, e⟩ := bound hx hy (fun z => d2 (.inl z)) (fun z => d2 (.inr z))
      rw [e]
      have := top hs ht
      omega
  · obtain ⟨s', t', hs', ht', ex', ey', e'⟩ := bound hx' hy' (fun z => d (.inl z)) (fun z => d (.inr z))
    have T := top hs' ht'
    by_cases d2 : x = none ∨ y = none
    · rw [denied d2, e']
      constructor
      · intro k
        omega
      · rintro (k | k | ⟨n1, n2, _⟩)
        · exact absurd (.inl k) d
        · exact absurd (.inr k) d
        · rcases d2 with d2 | d2
          · exact absurd d2 n1
          · exact absurd d2 n2
    · obtain ⟨s, t, hs, ht, ex, ey, e⟩ := bound hx hy (fun z => d2 (.inl z)) (fun z => d2 (.inr z))
      rw [e, e', lex_le o p hs hs' ht ht']
      have l1 : lev ls x = Lv ls s := by rw [ex]; rfl
      have l2 : lev ls x' = Lv ls s' := by rw [ex']; rfl
      have l3 : lev ms y = Lv ms t := by rw [ey]; rfl
      have l4 : lev ms y' = Lv ms t' := by rw [ey']; rfl
      rw [l1, l2, l3, l4]
      constructor
      · intro k
        exact .inr (.inr ⟨fun z => d2 (.inl z), fun z => d2 (.inr z), k⟩)
      · rintro (k | k | ⟨_, _, k⟩)
        · exact absurd (.inl k) d
        · exact absurd (.inr k) d
        · exact k
/-- the product's isotony, by the parts' elements -/
theorem iso_lex : Iso (lexL ls ms) (lexT ts us) ↔ ∀ f g s t s' t', f < ts.length → g < us.length → s < ls.length → t < ms.length → s' < ls.length → t' < ms.length →
    (Lv ls s < Lv ls s' ∨ (Lv ls s = Lv ls s' ∧ Lv ms t ≤ Lv ms t')) →
    (Fu ts f s' = none ∨ Fu us g t' = none ∨ (Fu ts f s ≠ none ∧ Fu us g t ≠ none ∧ (lev ls (Fu ts f s) < lev ls (Fu ts f s') ∨ (lev ls (Fu ts f s) = lev ls (Fu ts f s') ∧ lev ms (Fu us g t) ≤ lev ms (Fu us g t'))))) := by
  have ix : ∀ {a b n m : Nat}, a < n → b < m → a * m + b < n * m := by
    intro a b n m ha hb
    have : (a + 1) * m ≤ n * m := Nat.mul_le_mul_right _ ha
    rw [Nat.succ_mul] at this
    omega
  constructor
  · intro h f g s t s' t' hf hg hs ht hs' ht' k
    have := h (f * us.length + g) (s * ms.length + t) (s' * ms.length + t') (by rw [lexT_len]; exact ix hf hg) (by rw [lexL_len]; exact ix hs ht) (by rw [lexL_len]; exact ix hs' ht') ((lex_le o p hs hs' ht ht').mpr k)
    rw [lexFu o p hf hg hs ht, lexFu o p hf hg hs' ht'] at this
    exact (lex_lev o p h1 h2 hq (fu_in o hf hs) (fu_in o hf hs') (fu_in p hg ht) (fu_in p hg ht')).mp this
  · intro h f' i j hf' hi hj k
    rw [lexT_len] at hf'
    rw [lexL_len] at hi hj
    obtain ⟨f, g, hf, hg, rfl⟩ := prod_ix hf'
    obtain ⟨s, t, hs, ht, rfl⟩ := prod_ix hi
    obtain ⟨s', t', hs', ht', rfl⟩ := prod_ix hj
    rw [lexFu o p hf hg hs ht, lexFu o p hf hg hs' ht']
    exact (lex_lev o p h1 h2 hq (fu_in o hf hs) (fu_in o hf hs') (fu_in p hg ht) (fu_in p hg ht')).mpr (h f g s t s' t' hf hg hs ht hs' ht' ((lex_le o p hs hs' ht ht').mp k))
theorem iso_parts : Iso (lexL ls ms) (lexT ts us) ↔ Deny ls ts ∨ Deny ms us ∨ (Iso ls ts ∧ Iso ms us ∧ (Canc ls ts ∨ Const ms us) ∧ (¬Steps ls ts ∨ Even ms us)) := by
  rw [iso_lex o p h1 h2 hq]
  have tL : ∀ {f i}, f < ts.length → i < ls.length → lev ls (Fu ts f i) ≤ 4096 ∧ (lev ls (Fu ts f i) < 4096 ↔ Fu ts f i ≠ none) := fun hf hi => lev_top o p h1 h2 hq (fu_in o hf hi)
  have tM : ∀ {f i}, f < us.length → i < ms.length → lev ms (Fu us f i) ≤ 4096 ∧ (lev ms (Fu us f i) < 4096 ↔ Fu us f i ≠ none) := fun hf hi => lev_top p o h2 h1 (by rw [Int.mul_comm]; exact hq) (fu_in p hf hi)
  have nL : ∀ {f i}, f < ts.length → i < ls.length → Fu ts f i = none → lev ls (Fu ts f i) = 4096 := fun _ _ e => by rw [e]; rfl
  have nM : ∀ {f i}, f < us.length → i < ms.length → Fu us f i = none → lev ms (Fu us f i) = 4096 := fun _ _ e => by rw [e]; rfl
  constructor
  · intro h
    by_cases D1 : Deny ls ts
    · exact .inl D1
    by_cases D2 : Deny ms us
    · exact .inr (.inl D2)
    refine .inr (.inr ?_)
    have ⟨f0, s0, hf0, hs0, n0⟩ : ∃ f s, f < ts.length ∧ s < ls.length ∧ Fu ts f s ≠ none := Classical.byContradiction fun z => D1 fun f s hf hs => Classical.byContradiction fun n => z ⟨f, s, hf, hs, n⟩
    have ⟨g0, t0, hg0, ht0, k0⟩ : ∃ f s, f < us.length ∧ s < ms.length ∧ Fu us f s ≠ none := Classical.byContradiction fun z => D2 fun f s hf hs => Classical.byContradiction fun n => z ⟨f, s, hf, hs, n⟩
    have I1 : Iso ls ts := by
      intro f s s' hf hs hs' k
      rcases h f g0 s t0 s' t0 hf hg0 hs ht0 hs' ht0 (by omega) with e | e | ⟨_, _, e⟩
      · rw [nL hf hs' e]
        exact (tL hf hs).1
      · exact absurd e k0
      · omega
    have I2 : Iso ms us := by
      intro g t t' hg ht ht' k
      rcases h f0 g s0 t s0 t' hf0 hg hs0 ht hs0 ht' (.inr ⟨rfl, k⟩) with e | e | ⟨_, _, e⟩
      · exact absurd e n0
      · rw [nM hg ht' e]
        exact (tM hg ht).1
      · omega
    refine ⟨I1, I2, ?_, ?_⟩
    · by_cases C : Canc ls ts
      · exact .inl C
      refine .inr ?_
      have ⟨f, s, s', hf, hs, hs', a1, a2, a3⟩ : ∃ f s s', f < ts.length ∧ s < ls.length ∧ s' < ls.length ∧ Lv ls s < Lv ls s' ∧ lev ls (Fu ts f s') < 4096 ∧ ¬lev ls (Fu ts f s) < lev ls (Fu ts f s') := Classical.byContradiction fun z => C fun f s s' hf hs hs' b1 b2 => Classical.byContradiction fun n => z ⟨f, s, s', hf, hs, hs', b1, b2, n⟩
      have half : ∀ g t t', g < us.length → t < ms.length → t' < ms.length → lev ms (Fu us g t) ≤ lev ms (Fu us g t') := by
        intro g t t' hg ht ht'
        rcases h f g s t s' t' hf hg hs ht hs' ht' (.inl a1) with e | e | ⟨_, _, e⟩
        · exact absurd e ((tL hf hs').2.mp a2)
        · rw [nM hg ht' e]
          exact (tM hg ht).1
        · omega
      intro g t t' hg ht ht'
      exact Int.le_antisymm (half g t t' hg ht ht') (half g t' t hg ht' ht)
    · by_cases S : Steps ls ts
      · refine .inr ?_
        obtain ⟨f, s, s', hf, hs, hs', a1, a2⟩ := S
        intro g t' t hg ht' ht k
        rcases h f g s t s' t' hf hg hs ht hs' ht' (.inl a1) with e | e | ⟨_, e, _⟩
        · exact absurd e a2
        · exact absurd e ((tM hg ht').2.mp k)
        · exact (tM hg ht).2.mpr e
      · exact .inl S
  · rintro (D | D | ⟨I1, I2, C, S⟩) f g s t s' t' hf hg hs ht hs' ht' k
    · exact .inl (D f s' hf hs')
    · exact .inr (.inl (D g t' hg ht'))
    · by_cases n1 : Fu ts f s' = none
      · exact .inl n1
      by_cases n2 : Fu us g t' = none
      · exact .inr (.inl n2)
      refine .inr (.inr ?_)
      have b1 := (tL hf hs').2.mpr n1
      have b2 := (tM hg ht').2.mpr n2
      rcases k with k | ⟨k1, k2⟩
      · have i1 := I1 f s s' hf hs hs' (by omega)
        have a1 : Fu ts f s ≠ none := (tL hf hs).2.mp (by omega)
        have st : Steps ls ts := ⟨f, s, s', hf, hs, hs', k, n1⟩
        have E : Even ms us := by
          rcases S with S | S
          · exact absurd st S
          · exact S
        have a2 : Fu us g t ≠ none := (tM hg ht).2.mp (E g t' t hg ht' ht b2)
        refine ⟨a1, a2, ?_⟩
        rcases C with C | C
        · exact .inl (C f s s' hf hs hs' k b1)
        · have := C g t t' hg ht ht'
          omega
      · have i1 := I1 f s s' hf hs hs' (by omega)
        have i1' := I1 f s' s hf hs' hs (by omega)
        have i2 := I2 g t t' hg ht ht' k2
        exact ⟨(tL hf hs).2.mp (by omega), (tM hg ht).2.mp (by omega), by omega⟩
end
end Lib
end Fx

/-! comprehensions of two fors -/
namespace Fx
open PySem
section
variable {k : Nat} {fe : M S} {items : List D} {ρ0 : En} {f : D → D} {PL : List D → En → Prop}
/-- a comprehension whose element is told of its item alone, behind what is there -/
theorem ok_mapA {acc : List D} (hw : ρ0.set k none = ρ0) (st : ∀ x ∈ items, OK (dv fe (ρ0.set k (some (.d x)))) fun y ρ3 => y = f x ∧ ρ3.set k none = ρ0) (hs : acc.length + items.length ≤ 16777216) (q : PL (acc ++ items.map f) ρ0) : OK (mComp (gmName k) mYes fe [k] items acc ρ0) PL := by
  refine ok_comp (I := fun i a ρ => a = acc ++ (items.take i).map f ∧ ρ = ρ0) (k := 0) ⟨by simp, rfl⟩ ?_ ?_
  · rintro i x a ρ hx ⟨rfl, rfl⟩
    have hi : i < items.length := (List.getElem?_eq_some_iff.mp hx).1
    rw [ok_gname, ok_yes]
    refine ⟨fun _ => ?_, fun n => absurd rfl n⟩
    refine (st x (List.mem_of_getElem? hx)).imp fun y ρ3 ⟨e1, e2⟩ => ⟨?_, ?_, ?_⟩
    · rw [List.length_append, List.length_map, List.length_take, Nat.zero_add, Nat.min_eq_left (Nat.le_of_lt hi)]
      exact decide_eq_true (by omega)
    · rw [e1, Nat.zero_add, List.take_add_one, hx, List.map_append, List.append_assoc]
      rfl
    · exact e2
  · rintro a ρ ⟨rfl, rfl⟩
    rw [Nat.zero_add, List.take_length]
    exact q
end
section
variable {k1 k2 : Nat} {fI1 : M (List D)} {fe : M S} {ρ0 : En} {g : D → List D} {f : D → D → D} {PL : List D → En → Prop}
/-- .. of two fors -/
theorem ok_map2 (hk : k1 ≠ k2) (hw1 : ρ0.set k1 none = ρ0) (hw2 : ρ0.set k2 none = ρ0) : ∀ {items acc : List D},
    (∀ x ∈ items, OK (fI1 (ρ0.set k1 (some (.d x)))) fun its ρ3 => its = g x ∧ ρ3 = ρ0.set k1 (some (.d x))) →
    (∀ x ∈ items, ∀ y ∈ g x, OK (dv fe ((ρ0.set k1 (some (.d x))).set k2 (some (.d y)))) fun z ρ4 => z = f x y ∧ ρ4 = (ρ0.set k1 (some (.d x))).set k2 (some (.d y))) →
    (acc.length + (items.flatMap fun x => (g x).map (f x)).length ≤ 16777216) → PL (acc ++ items.flatMap fun x => (g x).map (f x)) ρ0 →
    OK (mComp2 (gmName k1) mYes fI1 (gmName k2) mYes fe [k1, k2] [k2] items acc ρ0) PL
  | [], acc, _, _, _, q => by
    show OK (.ok acc ρ0) PL
    rw [ok_ok]
    simpa using q
  | x :: xs, acc, hi, st, hs, q => by
    rw [List.flatMap_cons, List.length_append, List.length_map] at hs
    rw [List.flatMap_cons, ← List.append_assoc] at q
    show OK ((gmName k1 x ρ0).calm.then fun _ ρ1 => (mYes ρ1).calm.then fun b ρ2 => if b = true then (fI1 ρ2).calm.then fun items ρ3 => (mComp (gmName k2) mYes fe [k2] items acc (wipeE ρ3 [k2])).then fun acc' ρ4 => mComp2 (gmName k1) mYes fI1 (gmName k2) mYes fe [k1, k2] [k2] xs acc' (wipeE ρ4 [k1, k2])
      else mComp2 (gmName k1) mYes fI1 (gmName k2) mYes fe [k1, k2] [k2] xs acc (wipeE ρ2 [k1, k2])) PL
    rw [ok_then, ok_calm, ok_gname, ok_then, ok_calm, ok_yes, if_pos rfl, ok_then, ok_calm]
    refine (hi x List.mem_cons_self).imp fun its ρ3 ⟨e1, e2⟩ => ?_
    subst e1
    subst e2
    rw [ok_then]
    have w : wipeE (ρ0.set k1 (some (.d x))) [k2] = ρ0.set k1 (some (.d x)) := by
      show (ρ0.set k1 (some (.d x))).set k2 none = _
      rw [List.set_comm _ _ hk, hw2]
    rw [w]
    refine ok_mapA (f := f x) ?_ ?_ (by omega) ?_
    · rw [List.set_comm _ _ hk, hw2]
    · intro y hy
      refine (st x List.mem_cons_self y hy).imp fun z ρ4 ⟨e1, e2⟩ => ⟨e1, ?_⟩
      rw [e2, List.set_set, List.set_comm _ _ hk, hw2]
    · have w2 : wipeE (ρ0.set k1 (some (.d x))) [k1, k2] = ρ0 := by
        show ((ρ0.set k1 (some (.d x))).set k2 none).set k1 none = _
        rw [List.set_comm _ _ hk, hw2, List.set_set, hw1]
      rw [w2]
      refine ok_map2 hk hw1 hw2 (fun x' h' => hi x' (List.mem_cons_of_mem _ h')) (fun x' h' => st x' (List.mem_cons_of_mem _ h')) (by rw [List.length_append, List.length_map]; omega) q
theorem ok_lc2 {fI : M (List D)} {gm gm1 : D → M Unit} {ft ft1 : M Bool} {own vs1 : List Nat} {ρ : En} {P : S → En → Prop} : OK (mLc2 fI gm ft fI1 gm1 ft1 fe own vs1 ρ) P ↔ OK (fI ρ) fun items ρ1 => OK (mComp2 gm ft fI1 gm1 ft1 fe own vs1 items [] (wipeE ρ1 own)) fun ds ρ2 => P (.o none (.lst ds)) ρ2 := by
  unfold mLc2
  simp only [ok_then, ok_ok]
end
section
variable {k1 k2 : Nat} {fe : M S} {ρ0 : En} {ft : M Bool} {PL : List D → En → Prop}
/-- a comprehension over pairs, with a test -/
theorem ok_mapP {t : D × D → Bool} {f : D × D → D} {ps : List (D × D)} (hs : ps.length ≤ 16777216) (st : ∀ p ∈ ps, OK (ft ((ρ0.set k1 (some (.d p.1))).set k2 (some (.d p.2)))) fun b ρ2 => b = t p ∧ ((b = true → OK (dv fe ρ2) fun z ρ3 => z = f p ∧ wipeE ρ3 [k1, k2] = ρ0) ∧ (¬b = true → wipeE ρ2 [k1, k2] = ρ0)))
    (q : PL ((ps.filter t).map f) ρ0) : OK (mComp (gmTup 2 (gmCons (gmName k1) (gmCons (gmName k2) gmNil))) ft fe [k1, k2] (ps.map fun p => .tup [p.1, p.2]) [] ρ0) PL := by
  refine ok_comp (I := fun i acc ρ => acc = ((ps.take i).filter t).map f ∧ acc.length ≤ i ∧ ρ = ρ0) (k := 0) ⟨rfl, Nat.le_refl _, rfl⟩ ?_ ?_
  · rintro i x acc ρ hx ⟨e, hl, rfl⟩
    rw [List.getElem?_map] at hx
    obtain ⟨p, hp, rfl⟩ := Option.map_eq_some_iff.mp hx
    have hi := (List.getElem?_eq_some_iff.mp hp).1
    refine @ok_gtup2 _ _ _ _ _ _ ?_
    rw [Nat.zero_add] at e hl ⊢
    refine (st p (List.mem_of_getElem? hp)).imp fun b ρ2 ⟨eb, h1, h2⟩ => ⟨fun hb => (h1 hb).imp fun z ρ3 ⟨ez, ew⟩ => ⟨decide_eq_true (by omega), ?_, ?_, ew⟩, fun hb => ⟨?_, by omega, h2 hb⟩⟩
    · rw [e, ez, List.take_add_one, hp, List.filter_append, List.map_append]
      have ht : t p = true := by rw [← eb]; exact hb
      simp [ht]
    · rw [List.length_append]
      simp
      exact hl
    · rw [e, List.take_add_one, hp, List.filter_append, List.map_append]
      have ht : t p = false := by rw [← eb]; simpa using hb
      simp [ht]
  · rintro acc ρ ⟨e, _, rfl⟩
    rw [Nat.zero_add, List.length_map, List.take_length] at e
    rw [e]
    exact q
end
theorem e_all {bs : List Bool} {K : S → Prop} : (∃ s, gAll [.lst (bs.map D.bl)] = some s ∧ K s) ↔ K (.d (.bl (bs.all id))) := by
  have e : gAll [.lst (bs.map D.bl)] = some (.d (.bl (bs.all id))) := by
    show (blsD (bs.map D.bl)).bind _ = _
    have := blsD_map (g := id) bs
    rw [List.map_id] at this
    rw [show bs.map D.bl = bs.map fun x => D.bl (id x) from rfl, this]
    rfl
  rw [e]
  exact ex_some
theorem e_any {bs : List Bool} {K : S → Prop} : (∃ s, gAny [.lst (bs.map D.bl)] = some s ∧ K s) ↔ K (.d (.bl (bs.any id))) := by
  have e : gAny [.lst (bs.map D.bl)] = some (.d (.bl (bs.any id))) := by
    show (blsD (bs.map D.bl)).bind _ = _
    have := blsD_map (g := id) bs
    rw [List.map_id] at this
    rw [show bs.map D.bl = bs.map fun x => D.bl (id x) from rfl, this]
    rfl
  rw [e]
  exact ex_some
theorem setS_ints {ns : List Int} (h : ns.length < 64) : gSetS (.tup (ns.map D.int)) = some (.o none (.lst ((Rw.uniq ns).map D.int))) := by
  show (match intsD (ns.map D.int) with
    | some ns => if ns.length < 64 then some (S.o none (.lst ((Rw.uniq ns).map D.int))) else none
    | none => none) = _
  rw [intsD_map]
  exact if_pos h
theorem setL_ints {ns : List Int} (h : ns.length ≤ 1000) : gSetL (.tup (ns.map D.int)) = some (.d (.int (Rw.uniq ns).length)) := by
  show (match intsD (ns.map D.int) with
    | some ns => if ns.length ≤ 1000 then ok1 (.int (Rw.uniq ns).length) else none
    | none => none) = _
  rw [intsD_map]
  exact if_pos h
theorem minT_ints {ns : List Int} {m : Int} {l : List Int} (h : Rw.uniq ns = m :: l) : gMinT [.tup (ns.map D.int)] = some (.d (.int m)) := by
  show (match intsD (ns.map D.int) with
    | some ns => match Rw.uniq ns with
      | m :: _ => ok1 (.int m)
      | [] => none
    | none => none) = _
  rw [intsD_map]
  dsimp only
  rw [h]
  rfl
theorem ok_idx {fe ff : M S} {ρ : En} {P : S → En → Prop} (h : OK (dv fe ρ) fun x ρ1 => OK (dv ff ρ1) fun y ρ2 => ∃ ns k, x = .lst (ns.map D.int) ∧ y = .int k ∧ k ∈ ns ∧ P (.d (.int (Rw.plc ns k : Nat))) ρ2) : OK (mIdx fe ff ρ) P := by
  unfold mIdx
  rw [ok_then]
  refine h.imp fun x ρ1 h => ?_
  cases x with
  | lst ds =>
    dsimp only
    rw [ok_then]
    refine h.imp fun y ρ2 ⟨ns, k, e1, e2, hk, q⟩ => ?_
    cases e1
    subst e2
    have e : gIndex (.lst (ns.map D.int)) (.int k) = some (.d (.int (Rw.plc ns k : Nat))) := by
      show (match intsD (ns.map D.int) with
        | some ns => if k ∈ ns then ok1 (.int (Rw.plc ns k : Nat)) else none
        | none => none) = _
      rw [intsD_map]
      exact if_pos hk
    rw [e]
    exact ok_of q
  | _ =>
    exfalso
    obtain ⟨y, ρ2, _, ns, k, e1, _⟩ := h.at
    cases e1
end Fx

/-! defs that raise, try .. except X -/
namespace Fx
open PySem PySem.Spec PyProof.Rows L2
open C8 (Cal Mak pe_c pe_mk)
/-- what a def promises that may let an exception out -/
def spE (c : Cfg) (F : Fn) : Sp := fun vs H Q E => ∃ B ts ws args, Rep c B ts ws (args.map some) (vs.map some) H ∧ Post (fun s ρ' => ∀ v σ' H', Rep c B (some s :: ts) (some v :: ws) ρ' σ' H' → Q v H') (fun e ρ' => ∀ σ' k d H', c.err e k d H' → Rep c B ts ws ρ' σ' H' → E k d H') (F args)
theorem spE_len {c : Cfg} {F : Fn} {n : Nat} (hF : ∀ args : List S, ¬args.length = n → F args = .stuck) {vs : List V} {H : Hp} {Q : VK} {E : XK} (h : spE c F vs H Q E) : vs.length = n := by
  obtain ⟨B, ts, ws, args, r, p⟩ := h
  obtain ⟨G, o1, o2, k, h1, h2⟩ := r
  have e := h2.length
  rw [List.length_map, List.length_map] at e
  by_cases ha : args.length = n
  · omega
  · rw [hF args ha] at p
    exact p.elim
/-- the wish of a def -/
abbrev WD (E : XK) : WX := fun cls d _ H => E cls d H
section
variable {P : Program} {w : World} {mg : Str → Option Value} {base : Heap}
theorem bodyE {c : Cfg} {N ps : List Str} {body : M Fl} {t : TS} {E : XK} (h2 : DenS c (WD E) t body) {vs : List V} {H : Hp} {Q : VK} (h : spE c (runF ps.length N.length body) vs H Q E) : t { nx := fun _ H' => Q .non H', rt := Q } (L2.start N vs) H := by
  have hl : vs.length = ps.length := spE_len (fun args ha => if_neg ha) h
  obtain ⟨B, ts, ws, args, r, p⟩ := h
  unfold runF at p
  split at p
  · rename_i ha
    have r2 := r.slots (N.length - ps.length)
    have e1 : vs.map some ++ List.replicate (N.length - ps.length) none = L2.start N vs := by
      unfold L2.start
      rw [hl]
    rw [e1] at r2
    refine h2 B ts ws _ _ H _ r2 ?_
    cases hb : body (args.map some ++ List.replicate (N.length - ps.length) none) with
    | stuck => rw [hb] at p; exact p.elim
    | err e ρ => rw [hb] at p; exact p
    | ok f ρ =>
      rw [hb] at p
      cases f with
      | rt s => exact fun v σ' H' r' => p v σ' H' r'
      | nx => exact fun σ' H' r' => p .non σ' H' (Rep.repl (ds := []) (us := []) r' rfl fun G _ => .non)
      | bk => exact p.elim
      | ct => exact p.elim
  · exact p.elim
theorem fnX_den {c : Cfg} {x qual : Str} {st : Stmt} {f : Addr} {fd : FuncData} {N ps : List Str} {k : Nat} {body : M Fl} (F : Fun c.K x qual st f fd) (Sc : FnScope N ps (defScope st))
    (hbody : ∀ (cdv : Value) (A : Around) (outer : List Env) (s : Shared) (H : Hp) (E : XK), Room k (A.deeper (envOfC qual (defScope st) s.heap.objs.size f cdv)) →
      ∃ t, PSs (cxOf (L2.CX P w) P w c.K mg base N qual (defScope st) f cdv A outer s H E) (defBody st) t ∧ DenS c (WD E) t body) : FnOk P w c.K mg base (L2.CX P w) (k + 1) f fd ps (spE c (runF ps.length N.length body)) := by
  refine F.okX Sc (fun vs H Q E h => spE_len (fun args ha => if_neg ha) h) fun cdv A outer s H vs Q E hr h => ?_
  obtain ⟨t, h1, h2⟩ := hbody cdv A outer s H E hr
  exact ⟨t, h1, bodyE h2 h⟩
theorem fnXC_den {c : Cfg} {cc : Addr} {x qual : Str} {st : Stmt} {f : Addr} {fd : FuncData} {N ps : List Str} {k : Nat} {body : M Fl} (F : FunC c.K x qual st f fd cc) (Sc : FnScope N ps (defScope st))
    (hbody : ∀ (A : Around) (outer : List Env) (s : Shared) (H : Hp) (E : XK), Room k (A.deeper (envOfC qual (defScope st) s.heap.objs.size f (.ref cc))) →
      ∃ t, PSs (cxOf (L2.CX P w) P w c.K mg base N qual (defScope st) f (.ref cc) A outer s H E) (defBody st) t ∧ DenS c (WD E) t body) : FnOk P w c.K mg base (L2.CX P w) (k + 1) f fd ps (spE c (runF ps.length N.length body)) := by
  obtain ⟨oc, od, kV, doc, pm, an, ct, osl, rfl, lk, hcd⟩ := F.ex
  refine fn_of lk hcd Sc (fun vs H Q E h => spE_len (fun args ha => if_neg ha) h) fun A outer s H vs Q E hr h => ?_
  obtain ⟨t, h1, h2⟩ := hbody A outer s H E hr
  exact ⟨t, h1, bodyE h2 h⟩
end
/-- a def that may raise, by its name -/
structure CalE (P : Program) (w : World) (K : PySem.W.Frag) (mg : Str → Option Value) (base : Heap) (k : Nat) (x : Str) (sp : Sp) : Prop where
  ex : ∃ (f : Addr) (fd : FuncData) (ps : List Str), FnOk P w K mg base (L2.CX P w) k f fd ps sp ∧ mg x = some (.ref f) ∧ PySem.W.keepIn K (.ref f) = true ∧ Binds K fd ps []
def mCallE (F : Fn) (fA : M (List D)) : M S := fun ρ => (fA ρ).then fun ds ρ1 => match F (ds.map .d) with
  | .ok s _ => if bare s then .ok s ρ1 else .stuck
  | .err e _ => .err e ρ1
  | .stuck => .stuck
theorem den_callE {c : Cfg} {W : WX} {F : Fn} {tA : TA} {fA : M (List D)} (h : DenA c W tA fA) : Den c W (tCallS (spE c F) (WE W) tA) (mCallE F fA) := fun B ts vs ρ σ H Q r q => by
  unfold mCallE at q
  rw [post_then] at q
  refine h B ts vs ρ σ H _ r (q.imp1 fun ds ρ1 q us H1 hl r1 => ?_)
  refine ⟨⟨fun _ => none⟩, erE ts ++ erE ρ1, vs ++ σ, ds.map .d, by rw [List.map_map]; exact r1.enter hl, ?_⟩
  have r2 := r1.dropN hl
  cases hf : F (ds.map .d) with
  | stuck => rw [hf] at q; exact q.elim
  | err e ρ' =>
    rw [hf] at q
    have q : ErrP c W B ts vs σ e ρ1 := q
    exact fun σ' k d H' he r' => q k d H' he (Rep.leaveE r2 r')
  | ok s ρ' =>
    rw [hf] at q
    have q : Post (OkP c B ts vs σ Q) (ErrP c W B ts vs σ) (if bare s then .ok s ρ1 else .stuck) := q
    split at q
    · rename_i hs
      exact fun v σ' H' r' => q v H' (Rep.leave hs r2 r')
    · exact q.elim
def mRaise (e : Err) : M Fl := fun ρ => .err e ρ
def mTry (hd : Err → Bool) (Fb Fs : M Fl) : M Fl := fun ρ => match Fb ρ with
  | .ok f ρ' => .ok f ρ'
  | .err e ρ' => if hd e then (Fs ρ').calm else .stuck
  | .stuck => .stuck
/-- isinstance of an own class, both answers -/
structure ClsNo (c : Cfg) (n : String) : Prop where
  no : ∀ t ∈ ["int", "bool", "str", "tuple", "list", "dict", "NoneType"], PySem.W.kitOne c.K (.type t) (.ref (c.cls n)) = some false
def gIsCF (n : String) (x : D) : Option S := match x with
  | .ins m _ => if m = n then ok1 (.bl true) else none
  | x => (tyD x).bind fun t => if t ∈ ["int", "bool", "str", "tuple", "list", "dict", "NoneType"] then ok1 (.bl false) else none
def mIsCF (n : String) (fe : M S) : M S := mUn (gIsCF n) fe
theorem gIsCF_no {n : String} {x : D} {s : S} (h : gIsCF n x = some s) : (∃ ds, x = .ins n ds ∧ s = .d (.bl true)) ∨ (∃ t, tyD x = some t ∧ t ∈ ["int", "bool", "str", "tuple", "list", "dict", "NoneType"] ∧ s = .d (.bl false)) := by
  have other : ∀ y, (tyD y).bind (fun t => if t ∈ ["int", "bool", "str", "tuple", "list", "dict", "NoneType"] then ok1 (.bl false) else none) = some s → ∃ t, tyD y = some t ∧ t ∈ ["int", "bool", "str", "tuple", "list", "dict", "NoneType"] ∧ s = .d (.bl false) := by
    intro y h
    cases e : tyD y with
    | none => rw [e] at h; cases h
    | some t =>
      rw [e] at h
      have h : (if t ∈ ["int", "bool", "str", "tuple", "list", "dict", "NoneType"] then ok1 (.bl false) else none) = some s := h
      split at h
      · rename_i hm
        cases h
        exact ⟨t, rfl, hm, rfl⟩
      · cases h
  cases x with
  | ins m ds =>
    have h : (if m = n then ok1 (.bl true) else none) = some s := h
    split at h
    · rename_i e
      cases h
      subst e
      exact .inl ⟨ds, rfl, rfl⟩
    · cases h
  | _ => exact .inr (other _ h)
theorem den_isCF {c : Cfg} {W : WX} {n : String} {te : TE} {fe : M S} (K : ClsOk c n) (N : ClsNo c n) (h : Den c W te fe) : Den c W (tIsC c.K (c.cls n) te) (mIsCF n fe) := fun B ts vs ρ σ H Q r q => by
  unfold mIsCF mUn at q
  rw [post_then] at q
  refine h.dv r (q.imp1 fun x ρ1 q v H1 r1 => ?_)
  obtain ⟨G, O, hv⟩ := r1.one
  have q2 : Post (OkP c B ts vs σ Q) (ErrP c W B ts vs σ) (match gIsCF n x with
    | some s => .ok s ρ1
    | none => .stuck) := q
  clear q
  cases e : gIsCF n x with
  | none => rw [e] at q2; exact q2.elim
  | some s =>
    rw [e] at q2
    rcases gIsCF_no e with ⟨ds, rfl, rfl⟩ | ⟨t, h1, h2, rfl⟩
    · obtain ⟨a, dx, fs, rfl, ha, _, _⟩ := hv.insE
      exact ⟨.ref a, .ref _, .ref _, .ref _, true, rfl, .own _, .base (.ins (O.sub _ _ ha) K.cl K.at_ K.get K.tk K.mr), K.self, q2 _ _ (O.val (.bl _))⟩
    · exact ⟨v, .ref _, .type t, .ref _, false, rfl, .own _, hv.tyX O.sub h1, N.no t h2, q2 _ _ (O.val (.bl _))⟩
/-- an own error class, made with a text -/
structure ErrOk (c : Cfg) (n : String) : Prop where
  ex : PySem.W.excIn c.K (c.cls n) [.type "ValueError", .type "Exception", .type "BaseException", .type "object"] "ValueError.__new__" = true
  kp : PySem.W.keepIn c.K (.ref (c.cls n)) = true
  sb : PySem.W.subIn c.K (.ref (c.cls n)) (.type "BaseException") = some true
  ty : PySem.W.typeIn c.K (.ref (c.cls n)) = some (.type "type")
  er : ∀ H, c.err ⟨n, []⟩ (.ref (c.cls n)) none H
section
variable {X : Cx} {c : Cfg} {W : WX} {e : Expr} {es : List Expr} {te : TE} {tA : TA} {fe : M S} {fA : M (List D)} {pos p p2 : Pos} {k kk : Nat}
theorem q_isCF {C : Str} (n : String) (K : ClsOk c n) (N : ClsNo c n) (hgm : X.mg C = some (.ref (c.cls n))) (hm : X.mg "isinstance" = none) (he : QE X c W e te fe) (hg : Gl X "isinstance" := by rfl) (hgC : Gl X C := by rfl) (hdb : (C == ("__debug__" : Str)) = false := by decide)
    (hK : X.K = c.K := by rfl) (hs : starEach [e, .Name C p2] X.env = (false, eval e X.env) :: starEach [.Name C p2] X.env := by rfl) (hs2 : starEach [.Name C p2] X.env = [(false, eval (.Name C p2) X.env)] := by rfl) (hpl : (backTo pos (starEach [.Name C p2] X.env)).any (·.1) = false := by rfl) :
    QE X c W (.Call (.Name "isinstance" p) [e, .Name C p2] [] pos) (tIsC c.K (c.cls n) te) (mIsCF n fe) := by
  obtain ⟨h1, h2⟩ := he
  exact ⟨pe_callB (hK ▸ call_isi) hg hm (by decide +kernel) (pa_cons h1 (pa_cons (pe_glob (v := .ref (c.cls n)) hgC hgm rfl hdb) pa_nil hs2) hs) (by decide) (by decide) hs hpl, den_isCF K N h2⟩
theorem q_callE {x : Str} {F : Fn} (tk : Takes X W) (C : CalE X.prog X.w X.K X.mg X.base k x (spE c F)) (hr : Room kk X.A) (hk : k ≤ kk) (hg : Gl X x) (h : QA X c W (e :: es) tA fA)
    (hdb : (x == ("__debug__" : Str)) = false := by decide) (he : starEach (e :: es) X.env = (false, eval e X.env) :: starEach es X.env := by rfl) (hpl : (backTo pos (starEach es X.env)).any (·.1) = false := by rfl) :
    QE X c W (.Call (.Name x p) (e :: es) [] pos) (tCallS (spE c F) (WE W) tA) (mCallE F fA) := by
  obtain ⟨h1, h2⟩ := h
  obtain ⟨f, fd, ps, G, hm, kp, bd⟩ := C.ex
  exact ⟨pe_callS G (hr.mono hk) hg hm kp bd (fun σ => passAt tk σ) h1 hdb he hpl, den_callE h2⟩
/-- raise X('m') -/
theorem s_raise0 {C : Str} {m : Str} {j : Nat} {pos2 : Pos} (n : String) (hc : X.calm = true) (tk : Takes X W) (K : ErrOk c n) (hgm : X.mg C = some (.ref (c.cls n))) (hg : Gl X C := by rfl) (hK : X.K = c.K := by rfl) (hdb : (C == ("__debug__" : Str)) = false := by decide) :
    QS X c W (.Raise (some (.Call (.Name C p) [.Constant (.str m) j p2] [] pos)) none pos2) (fun _ σ H => W (.ref (c.cls n)) none σ H) (mRaise ⟨n, []⟩) := by
  obtain ⟨k1, k2, k3, k4, k5⟩ := K
  exact ⟨ps_raise hc tk (pmk_own PySem.F.excBase_ValueError (hK ▸ k1) hgm (hK ▸ k2) (raises_own (hK ▸ k3) (hK ▸ k4)) hg hdb), fun B ts vs ρ σ H D r q => q σ _ none H (k5 H) r⟩
/-- try: .. except X: .. -/
theorem s_try {x : Str} {n : String} {hd : Err → Bool} {body suite : List Stmt} {b₀ : Stmt} {np pos' : Pos} {tb : WX → TS} {ts : TS} {Fb Fs : M Fl} (tk : Takes X W0) (dn : ∀ W : WX, DenS c W (tb W) Fb)
    (hx : ∀ e k d H, c.err e k d H → hd e = true → PySem.W.exmOne c.K k (.ref (c.cls n)) = some true) (hgm : X.mg x = some (.ref (c.cls n)))
    (hb : ∀ (W : WX) (pn : List (Addr × Obj)) (xe : Value → Shared → Prop), Takes (X.tr pn xe) W → PSs (X.tr pn xe) body (tb W))
    (hsu : ∀ (a : Addr) (oe : Obj) (pn : List (Addr × Obj)), QSs (X.suite a ((a, oe) :: pn)) c W0 (b₀ :: suite) ts Fs) (hg : Gl X x) (hdb : (x == ("__debug__" : Str)) = false)
    (hs : X.stack = X.env :: X.outer) (hf : X.env.frame = some X.env.locals) (hK : X.K = c.K) :
    QS X c W0 (.Try body [.ExceptHandler (some (.Name x np)) none (b₀ :: suite) pos'] [] [] pos) (fun D σ H => tb (wOnly c.K (.ref (c.cls n)) (fun _ _ _ => ts) W0 D) D σ H) (mTry hd Fb Fs) := by
  refine ⟨?_, fun B ts' vs ρ σ H D r q => ?_⟩
  · have := ps_try_only (X := X) (x := x) (c := .ref (c.cls n)) (body := body) (suite := suite) (b₀ := b₀) (np := np) (pos := pos) (pos' := pos') (tb := tb) (ts := fun _ _ _ => ts) (Wout := W0) hs hf ⟨hg, hdb, .inl hgm⟩ tk (fun W pn xe h1 h2 => hb W pn xe h1) (fun a oe cls d pn _ _ => (hsu a oe pn).pe)
    exact hK ▸ this
  · refine dn _ B ts' vs ρ σ H D r ?_
    have q : Post (EndP c B ts' vs D) (ErrS c W0 B ts' vs) (match Fb ρ with
      | .ok f ρ' => .ok f ρ'
      | .err e ρ' => if hd e then (Fs ρ').calm else .stuck
      | .stuck => .stuck) := q
    cases hF : Fb ρ with
    | ok f ρ' => rw [hF] at q; exact q
    | stuck => rw [hF] at q; exact q.elim
    | err e ρ' =>
      rw [hF] at q
      have q : Post (EndP c B ts' vs D) (ErrS c W0 B ts' vs) (if hd e then (Fs ρ').calm else .stuck) := q
      split at q
      · rename_i he
        intro σ' k d H' hc r'
        refine ⟨true, hx e k d H' hc he, fun _ a ha => ?_, fun z => nomatch z⟩
        exact (hsu a default []).dn B ts' vs ρ' σ' H' D r' (post_calm q)
      · exact q.elim
section
variable {x f : Str} {n : String} {F : Fn} {hd : Err → Bool} {suite : List Stmt} {b₀ : Stmt} {np pos' fp cpos : Pos} {ts : TS} {Fs : M Fl}
/-- try: f(..) except X: .. -/
theorem s_tryE (C : CalE X.prog X.w X.K X.mg X.base k f (spE c F)) (hr : Room kk X.A) (hk : k ≤ kk)
    (hx : ∀ e k d H, c.err e k d H → hd e = true → PySem.W.exmOne c.K k (.ref (c.cls n)) = some true) (hgm : X.mg x = some (.ref (c.cls n)))
    (ha : ∀ (W : WX) (pn : List (Addr × Obj)) (xe : Value → Shared → Prop), QA (X.tr pn xe) c W (e :: es) tA fA)
    (hsu : ∀ (a : Addr) (oe : Obj) (pn : List (Addr × Obj)), QSs (X.suite a ((a, oe) :: pn)) c W0 (b₀ :: suite) ts Fs) (hgf : Gl X f := by rfl) (hdf : (f == ("__debug__" : Str)) = false := by decide) (hg : Gl X x := by rfl) (hdb : (x == ("__debug__" : Str)) = false := by decide)
    (he : starEach (e :: es) X.env = (false, eval e X.env) :: starEach es X.env := by rfl) (hpl : (backTo cpos (starEach es X.env)).any (·.1) = false := by rfl)
    (hsw : swapsWith (.Call (.Name f fp) (e :: es) [] cpos) none p.line X.env = pure false := by rfl)
    (hs : X.stack = X.env :: X.outer := by rfl) (hf : X.env.frame = some X.env.locals := by rfl) (hK : X.K = c.K := by rfl) :
    QS X c W0 (.Try [.Expr (.Call (.Name f fp) (e :: es) [] cpos) p] [.ExceptHandler (some (.Name x np)) none (b₀ :: suite) pos'] [] [] pos)
      (fun D σ H => (fun W => tDrop (tCallS (spE c F) (WE W) tA)) (wOnly c.K (.ref (c.cls n)) (fun _ _ _ => ts) W0 D) D σ H) (mTry hd (mDrop (mCallE F fA)) Fs) :=
  s_try takes0 (fun W => ds_drop (den_callE (ha W [] fun _ _ => False).dn)) hx hgm
    (fun W pn xe tk => pss_one (ps_expr (q_callE (X := X.tr pn xe) (W := W) (p := fp) (pos := cpos) tk C hr hk hgf (ha W pn xe) hdf he hpl).pe hsw)) hsu hg hdb hs hf hK
/-- try: return f(..) except X: .. -/
theorem s_tryR (C : CalE X.prog X.w X.K X.mg X.base k f (spE c F)) (hr : Room kk X.A) (hk : k ≤ kk)
    (hx : ∀ e k d H, c.err e k d H → hd e = true → PySem.W.exmOne c.K k (.ref (c.cls n)) = some true) (hgm : X.mg x = some (.ref (c.cls n)))
    (ha : ∀ (W : WX) (pn : List (Addr × Obj)) (xe : Value → Shared → Prop), QA (X.tr pn xe) c W (e :: es) tA fA)
    (hsu : ∀ (a : Addr) (oe : Obj) (pn : List (Addr × Obj)), QSs (X.suite a ((a, oe) :: pn)) c W0 (b₀ :: suite) ts Fs) (hgf : Gl X f := by rfl) (hdf : (f == ("__debug__" : Str)) = false := by decide) (hg : Gl X x := by rfl) (hdb : (x == ("__debug__" : Str)) = false := by decide)
    (he : starEach (e :: es) X.env = (false, eval e X.env) :: starEach es X.env := by rfl) (hpl : (backTo cpos (starEach es X.env)).any (·.1) = false := by rfl)
    (hs : X.stack = X.env :: X.outer := by rfl) (hf : X.env.frame = some X.env.locals := by rfl) (hK : X.K = c.K := by rfl) :
    QS X c W0 (.Try [.Return (some (.Call (.Name f fp) (e :: es) [] cpos)) p] [.ExceptHandler (some (.Name x np)) none (b₀ :: suite) pos'] [] [] pos)
      (fun D σ H => (fun W => tRet (tCallS (spE c F) (WE W) tA)) (wOnly c.K (.ref (c.cls n)) (fun _ _ _ => ts) W0 D) D σ H) (mTry hd (mRet (mCallE F fA)) Fs) :=
  s_try takes0 (fun W => ds_ret (den_callE (ha W [] fun _ _ => False).dn)) hx hgm
    (fun W pn xe tk => pss_one (ps_ret (q_callE (X := X.tr pn xe) (W := W) (p := fp) (pos := cpos) tk C hr hk hgf (ha W pn xe) hdf he hpl).pe)) hsu hg hdb hs hf hK
end
end
end Fx

/-! tuple(range(n)), list(range(n)), a starred element, reversed(xs) -/
namespace Fx
open PySem PySem.Spec PyProof.Rows L2
open C8 (Cal Mak pe_c pe_mk)
open StX (tStar pa_star)
section
variable {c : Cfg} {B : Base} {W : WX} {ts : En} {vs : List (Option V)} {ρ : En} {σ : L2.St} {H : Hp} {ta te : TE} {fa fe : M S} {tA : TA} {fA fr : M (List D)}
/-! ### tuple(range(n)) -/
def rgOk (n : Int) : Bool := decide (-1000000 ≤ n) && decide (n ≤ 16777216)
theorem rgOk_of {n : Int} (h : rgOk n = true) : RgOk 0 n := by
  unfold rgOk at h
  rw [Bool.and_eq_true, decide_eq_true_eq, decide_eq_true_eq] at h
  refine ⟨by omega, by omega, by omega, by omega, by omega⟩
theorem rpAll_rg {G : Hp} {n : Int} : RpAll c G (rgV 0 n) (intsFrom 0 n.toNat) := by
  have key : ∀ (k : Nat) (lo : Int), RpAll c G ((List.range k).map fun i => V.int (lo + (i : Nat))) (intsFrom lo k) := by
    intro k
    induction k with
    | zero => exact fun lo => .nil
    | succ k ih =>
      intro lo
      rw [List.range_succ_eq_map, List.map_cons, List.map_map]
      show RpAll c G (_ :: _) (.int lo :: intsFrom (lo + 1) k)
      have e0 : lo + ((0 : Nat) : Int) = lo := by simp
      rw [e0]
      refine .cons (.int _) ?_
      have e : ((fun i : Nat => V.int (lo + (i : Nat))) ∘ Nat.succ) = fun i : Nat => V.int (lo + 1 + (i : Nat)) := by
        funext i
        show V.int _ = V.int _
        congr 1
        rw [Nat.succ_eq_add_one]
        omega
      rw [e]
      exact ih (lo + 1)
  have := key n.toNat 0
  unfold rgV
  rw [Int.sub_zero]
  exact this
def mTupRg (fa : M S) : M S := fun ρ => (dv fa ρ).then fun x ρ1 => match x with
  | .int n => if rgOk n then .ok (.d (.tup (intsFrom 0 n.toNat))) ρ1 else .stuck
  | _ => .stuck
theorem den_tupRg (h : Den c W ta fa) : Den c W (tTupRg (tRg1 ta)) (mTupRg fa) := fun B ts vs ρ σ H Q r q => by
  unfold mTupRg at q
  rw [post_then] at q
  refine h.dv r (q.imp1 fun x ρ1 q v H1 r1 => ?_)
  cases x <;> first | exact q.elim | skip
  rename_i n
  obtain ⟨G, O, hv⟩ := r1.one
  cases hv
  have q : Post (OkP c B ts vs σ Q) (ErrP c W B ts vs σ) (if rgOk n then .ok (.d (.tup (intsFrom 0 n.toNat))) ρ1 else .stuck) := q
  split at q
  · rename_i hn
    exact ⟨n, rfl, rgOk_of hn, fun p hp => q _ _ (Rep.new (ds := []) (us := []) r1.drop rfl hp rfl fun G' e _ => .tup (.inl (.inl e)) rpAll_rg)⟩
  · exact q.elim
def mLstRg (fa : M S) : M S := fun ρ => (dv fa ρ).then fun x ρ1 => match x with
  | .int n => if rgOk n then .ok (.o none (.lst (intsFrom 0 n.toNat))) ρ1 else .stuck
  | _ => .stuck
theorem den_lstRg (h : Den c W ta fa) : Den c W (tLstRg (tRg1 ta)) (mLstRg fa) := fun B ts vs ρ σ H Q r q => by
  unfold mLstRg at q
  rw [post_then] at q
  refine h.dv r (q.imp1 fun x ρ1 q v H1 r1 => ?_)
  cases x <;> first | exact q.elim | skip
  rename_i n
  obtain ⟨G, O, hv⟩ := r1.one
  cases hv
  have q : Post (OkP c B ts vs σ Q) (ErrP c W B ts vs σ) (if rgOk n then .ok (.o none (.lst (intsFrom 0 n.toNat))) ρ1 else .stuck) := q
  split at q
  · rename_i hn
    exact ⟨n, rfl, rgOk_of hn, fun p hp => q _ _ (Rep.newO (ds := []) (us := []) r1.drop rfl hp fun G' H' e _ => ⟨_, e, rpAll_rg⟩)⟩
  · exact q.elim
/-! ### (.., *xs, ..) -/
def aStar (fe : M S) (fr : M (List D)) : M (List D) := fun ρ => (dv fe ρ).then fun x ρ1 => match itemsD x with
  | some ds => (fr ρ1).then fun es ρ2 => .ok (ds ++ es) ρ2
  | none => .stuck
theorem Rep.spread {x : D} {v : V} {ds : List D} (e : itemsD x = some ds) (r : Rep c B (some (.d x) :: ts) (some v :: vs) ρ σ H) : ∃ a us, v = .ref a ∧ SqI c.K (isLst x) H a us ∧ us.length = ds.length ∧ Rep c B (tmp ds ++ ts) (tmv us ++ vs) ρ σ H := by
  obtain ⟨G, O, hv⟩ := r.top
  obtain ⟨a, us, rfl, h1, k⟩ := hv.seq O.sub e
  obtain ⟨G', o1, o2, kk, g1, g2⟩ := r
  cases g1 with
  | d g0 g1 =>
    obtain ⟨a', us', e1, h1', k'⟩ := g0.seq kk.sub e
    cases e1
    refine ⟨a, us', rfl, h1', k'.length, G', o1, o2, kk, ?_, g2⟩
    have := (k'.rev).sl (B := B) (H := H) g1
    unfold tmp tmv
    exact this
theorem den_star (he : Den c W te fe) (hr : DenA c W tA fr) : DenA c W (tStar c.K te tA) (aStar fe fr) := fun B ts vs ρ σ H Q r q => by
  unfold aStar at q
  rw [post_then] at q
  refine he.dv r (q.imp1 fun x ρ1 q v H1 r1 => ?_)
  have q : Post (OkA c B ts vs σ Q) (ErrP c W B ts vs σ) (match itemsD x with
    | some ds => (fr ρ1).then fun es ρ2 => .ok (ds ++ es) ρ2
    | none => .stuck) := q
  cases e : itemsD x with
  | none => rw [e] at q; exact q.elim
  | some ds =>
    rw [e] at q
    have q : Post (OkA c B ts vs σ Q) (ErrP c W B ts vs σ) ((fr ρ1).then fun es ρ2 => .ok (ds ++ es) ρ2) := q
    rw [post_then] at q
    obtain ⟨a, us, rfl, h1, hl, r2⟩ := Rep.spread e r1
    refine ⟨a, us, rfl, ?_, ?_⟩
    · cases hx : isLst x with
      | true => rw [hx] at h1; exact .inr h1
      | false => rw [hx] at h1; exact .inl h1
    · refine hr B _ _ ρ1 σ H1 _ r2 (q.imp (fun es ρ2 q ws H2 hl2 r3 => ?_) fun e' ρ' q k d H' he' r' => q k d H' he' (r'.dropN hl))
      refine q (us ++ ws) H2 (by rw [List.length_append, List.length_append, hl, hl2]) ?_
      unfold tmp tmv at r3 ⊢
      rw [List.reverse_append, List.map_append, List.reverse_append, List.map_append, List.append_assoc, List.append_assoc]
      exact r3
/-! ### reversed(xs) -/
def iRevS (fA : M (List D)) : M (List D) := fun ρ => (fA ρ).then fun ds ρ1 => match ds with
  | [.lst ds] => .ok ds.reverse ρ1
  | _ => .stuck
theorem di_rev (h : DenA c W tA fA) : DenI c W (iRev c.K tA) (iRevS fA) := fun B ts vs ρ σ H R r q => by
  unfold iRevS at q
  rw [post_then] at q
  refine h B ts vs ρ σ H _ r (q.imp1 fun xs ρ1 q us H1 hl r1 => ?_)
  split at q
  · rename_i ds
    have q : OkI c B ts vs σ R ds.reverse ρ1 := q
    match us, hl, r1 with
    | [v], hl, r1 =>
      have r1 : Rep c B (some (.d (.lst ds)) :: ts) (some v :: vs) ρ1 σ H1 := r1
      obtain ⟨G, O, hv⟩ := r1.top
      obtain ⟨a, us, rfl, h1, k⟩ := hv.seq O.sub rfl
      refine ⟨a, us, rfl, h1, ?_⟩
      rw [k.length]
      refine q _ [.lst ds] [.ref a] H1 rfl r1 ⟨ds.length, SrcAt c true ds.length a, fun i H y H' => H' = H ∧ TurnAt c true a (ds.length - 1 - i) H y, ⟨?_, ?_, ?_⟩, by rw [List.length_reverse], fun B ts vs ρ σ H r => src_of (x := .lst ds) rfl r, ?_⟩
      · rintro i H hi ⟨us, h1, h2⟩
        exact ⟨hi, us, us[ds.length - 1 - i]'(by omega), h1, List.getElem?_eq_getElem (by omega)⟩
      · intro H _
        exact Nat.le_refl _
      · rintro i H y H' _ _ ⟨e, h⟩
        exact ⟨e, fun us h1 => h us h1⟩
      · rintro B ts vs ρ σ H k y H' hk r ⟨rfl, t⟩
        obtain ⟨d, e1, r2⟩ := turn_val (x := .lst ds) (ds := ds) rfl (k := ds.length - 1 - k) (by omega) r t
        exact ⟨d, by rw [List.getElem?_reverse hk]; exact e1, r2⟩
  · exact q.elim
end
section
variable {X : Cx} {c : Cfg} {W : WX} {a e tg : Expr} {es : List Expr} {ta te : TE} {tA : TA} {fa fe : M S} {fA fr : M (List D)} {pos p p2 pos2 : Pos}
theorem q_tupRg (hm : X.mg "tuple" = none) (hm2 : X.mg "range" = none) (h : QE X c W a ta fa) (hc : X.calm = true := by rfl) (hg : Gl X "tuple" := by rfl) (hg2 : Gl X "range" := by rfl) (na : starEach [a] X.env = (false, eval a X.env) :: starEach [] X.env := by rfl)
    (na2 : starEach [.Call (.Name "range" p2) [a] [] pos2] X.env = (false, eval (.Call (.Name "range" p2) [a] [] pos2) X.env) :: starEach [] X.env := by rfl) : QE X c W (.Call (.Name "tuple" p) [.Call (.Name "range" p2) [a] [] pos2] [] pos) (tTupRg (tRg1 ta)) (mTupRg fa) := by
  obtain ⟨h1, h2⟩ := h
  exact ⟨pe_tupRg hc hg hm (prg_1 hg2 hm2 h1 na) na2, den_tupRg h2⟩
theorem q_lstRg (hm : X.mg "list" = none) (hm2 : X.mg "range" = none) (h : QE X c W a ta fa) (hc : X.calm = true := by rfl) (hg : Gl X "list" := by rfl) (hg2 : Gl X "range" := by rfl) (na : starEach [a] X.env = (false, eval a X.env) :: starEach [] X.env := by rfl)
    (na2 : starEach [.Call (.Name "range" p2) [a] [] pos2] X.env = (false, eval (.Call (.Name "range" p2) [a] [] pos2) X.env) :: starEach [] X.env := by rfl) : QE X c W (.Call (.Name "list" p) [.Call (.Name "range" p2) [a] [] pos2] [] pos) (tLstRg (tRg1 ta)) (mLstRg fa) := by
  obtain ⟨h1, h2⟩ := h
  exact ⟨pe_listRg hc hg hm (prg_1 hg2 hm2 h1 na) na2, den_lstRg h2⟩
theorem a_star (h : QE X c W e te fe) (k : QA X c W es tA fr) (hK : X.K = c.K := by rfl) (hs : starEach (.Starred e p :: es) X.env = (true, eval e X.env) :: starEach es X.env := by rfl) : QA X c W (.Starred e p :: es) (tStar c.K te tA) (aStar fe fr) := by
  obtain ⟨h1, h2⟩ := h; obtain ⟨k1, k2⟩ := k
  exact ⟨hK ▸ pa_star h1 k1 hs, den_star h2 k2⟩
theorem i_rev (hm : X.mg "reversed" = none) (h : QA X c W [a] tA fA) (hg : Gl X "reversed" := by rfl) (hK : X.K = c.K := by rfl) (hs : starEach [a] X.env = [(false, eval a X.env)] := by rfl) : QI X c W tg (.Call (.Name "reversed" p) [a] [] pos) (iRev c.K tA) (iRevS fA) := by
  obtain ⟨h1, h2⟩ := h
  exact ⟨hK ▸ pi_reversed hg hm h1 hs, di_rev h2⟩
end
end Fx

/-! dicts by comprehension, keys ints or texts, each once; d[k] -/
namespace Fx
open PySem PySem.Spec PyProof.Rows L2
open C8 (Cal Mak pe_c pe_mk)
def isKey : D → Bool
  | .int _ => true
  | .str _ => true
  | _ => false
def keyEq : D → D → Bool
  | .int i, .int j => decide (i = j)
  | .str x, .str y => decide (x = y)
  | _, _ => false
theorem keyEq_keyD {k k' : Key} : keyEq (keyD k) (keyD k') = decide (k = k') := by
  cases k <;> cases k' <;> simp [keyEq, keyD]
/-- the place of a key -/
def keyAt (ks : List D) (k : D) : Option Nat := ks.findIdx? (keyEq k)
theorem key_of {c : Cfg} {G : Hp} {v : V} {x : D} (h : Rp c G v x) (e : isKey x = true) : ∃ k : Key, x = keyD k ∧ v = kV k := by
  cases x <;> first | cases e | skip
  · cases h
    exact ⟨.inl _, rfl, rfl⟩
  · cases h
    exact ⟨.inr _, rfl, rfl⟩
theorem valV_no : ∀ {kvs : List (Key × V)} {k : Key}, (kvs.map fun p => keyD p.1).any (keyEq (keyD k)) = false → valV kvs k = none
  | [], _, _ => rfl
  | p :: r, k, e => by
    rw [List.map_cons, List.any_cons, Bool.or_eq_false_iff, keyEq_keyD] at e
    have h : p.1 ≠ k := fun z => by simp [z] at e
    have := valV_no e.2
    unfold valV at this ⊢
    rw [List.find?_cons]
    simp [h, this]
theorem valV_at {c : Cfg} {G : Hp} : ∀ {kvs : List (Key × V)} {ds : List D} {k : Key} {i : Nat} {x : D}, RpAll c G (kvs.map (·.2)) ds → keyAt (kvs.map fun p => keyD p.1) (keyD k) = some i → ds[i]? = some x → ∃ v, valV kvs k = some v ∧ Rp c G v x
  | [], _, _, _, _, _, e, _ => by simp [keyAt] at e
  | p :: r, ds, k, i, x, ka, e, ex => by
    cases ka with
    | cons h ka =>
      rename_i d ds
      unfold keyAt at e
      rw [List.map_cons, List.findIdx?_cons] at e
      by_cases hk : keyEq (keyD k) (keyD p.1) = true
      · rw [hk] at e
        simp at e
        subst e
        rw [keyEq_keyD, decide_eq_true_eq] at hk
        simp at ex
        subst ex
        refine ⟨p.2, ?_, h⟩
        unfold valV
        rw [List.find?_cons]
        simp [hk]
      · have hk' : keyEq (keyD k) (keyD p.1) = false := by simpa using hk
        rw [hk'] at e
        simp at e
        obtain ⟨j, ej, rfl⟩ := e
        have hne : p.1 ≠ k := fun z => by
          rw [z, keyEq_keyD] at hk
          simp at hk
        obtain ⟨v, e1, e2⟩ := valV_at (k := k) (i := j) ka (by unfold keyAt; rw [List.findIdx?_map]; exact ej) (by simpa using ex)
        refine ⟨v, ?_, e2⟩
        unfold valV at e1 ⊢
        rw [List.find?_cons]
        simp only [hne, decide_false]
        exact e1
/-! ### d[k] -/
def gDget : D → D → Option S
  | .dct ks ds, k => if isKey k then (keyAt ks k).bind fun i => (ds[i]?).bind ok1 else none
  | _, _ => none
section
variable {c : Cfg} {B : Base} {W : WX} {ts : En} {vs : List (Option V)} {ρ : En} {σ : L2.St} {H : Hp} {ta tb : TE} {fa fb : M S}
theorem den_dget (ha : Den c W ta fa) (hb : Den c W tb fb) : Den c W (tDGet ta tb) (mOp gDget fa fb) := fun B ts vs ρ σ H Q r q => by
  unfold mOp at q
  rw [post_then] at q
  refine ha.dv r (q.imp1 fun x ρ1 q v H1 r1 => ?_)
  rw [post_then] at q
  refine hb.dv r1 (q.imp (fun y ρ2 q w H2 r2 => ?_) fun _ _ h => h.drop)
  have q : Post (OkP c B ts vs σ Q) (ErrP c W B ts vs σ) (match gDget x y with
    | some s => .ok s ρ2
    | none => .stuck) := q
  cases x with
  | dct ks ds =>
    cases e : gDget (.dct ks ds) y with
    | none => rw [e] at q; exact q.elim
    | some s =>
      rw [e] at q
      have e : (if isKey y then (keyAt ks y).bind fun i => (ds[i]?).bind ok1 else none) = some s := e
      split at e
      · rename_i hk
        obtain ⟨G, O, h1, h2⟩ := r2.two
        obtain ⟨k, rfl, rfl⟩ := key_of h2 hk
        cases h1 with
        | @dct a kvs _ ha ka =>
          cases ei : keyAt (kvs.map fun p => keyD p.1) (keyD k) with
          | none => rw [ei] at e; cases e
          | some i =>
            rw [ei] at e
            have e : (ds[i]?).bind ok1 = some s := e
            cases ed : ds[i]? with
            | none => rw [ed] at e; cases e
            | some x =>
              rw [ed] at e
              cases e
              obtain ⟨u, e1, e2⟩ := valV_at ka ei ed
              exact ⟨_, u, rfl, .inl ⟨kvs, k, .inl (O.sub _ _ ha), rfl, e1.symm⟩, q _ _ (O.val e2)⟩
      · cases e
  | _ => exact q.elim
/-! ### {k: v for .. in ..} -/
theorem dc_it {J : It} {n : Nat} {G : Hp → Prop} {Y : Nat → Hp → V → Hp → Prop} (w : Walk J n G Y) {g : TG} {tt : TT} {tk tv : TE} {vs : List Nat} {σ : L2.St} {H1 : Hp} {D : Addr} {Qd : Hp → Prop} (Pv : Nat → Hp → Prop) (h0 : Pv 0 (upd H1 D (.dK []))) (hG : ∀ i H, i ≤ n → Pv i H → G H)
    (hs : ∀ i x H H', i < n → Pv i H → Y i H x H' → g x (L2.wipe σ vs) H' fun σ2 H2 => L2.wipe σ2 vs = L2.wipe σ vs ∧ tt σ2 H2 fun b H3 =>
      if b = true then tk σ2 H3 fun y H4 => tv σ2 H4 fun z H5 => ∃ kvs k, y = kV k ∧ H5 D = some (.dK kvs) ∧ kvs.length < sizeLine ∧ Pv (i + 1) (upd H5 D (.dK (putK kvs k z))) else Pv (i + 1) H3) (hd : ∀ H, Pv n H → Qd H) :
    ∃ W : Nat → Nat → Hp → Prop, (∃ m, W 0 m (upd H1 D (.dK []))) ∧ ∀ i m H, W i m H →
      (J.stop i H ∧ Qd H) ∨ (J.go i H ∧ ∃ Nx : Hp → Prop, (∀ H', Nx H' → ∃ m', m' < m ∧ W (i + 1) m' H') ∧ ∀ x H', J.yld i H x H' → g x (L2.wipe σ vs) H' fun σ2 H2 => L2.wipe σ2 vs = L2.wipe σ vs ∧ tt σ2 H2 fun b H3 =>
        if b = true then tk σ2 H3 fun y H4 => tv σ2 H4 fun z H5 => ∃ kvs k, y = kV k ∧ H5 D = some (.dK kvs) ∧ kvs.length < sizeLine ∧ Nx (upd H5 D (.dK (putK kvs k z))) else Nx H3) := by
  refine ⟨fun i m H => m = n - i ∧ i ≤ n ∧ Pv i H, ⟨n, by simp, Nat.zero_le _, h0⟩, ?_⟩
  rintro i m H ⟨rfl, hi, p⟩
  have q := hG i H hi p
  by_cases hlt : i < n
  · refine .inr ⟨w.goes i H hlt q, Pv (i + 1), fun H' p' => ⟨n - (i + 1), by omega, rfl, hlt, p'⟩, fun x H' y => hs i x H H' hlt p (w.yields i H x H' hlt q y)⟩
  · have e : i = n := by omega
    subst e
    exact .inl ⟨w.stops H q, hd H p⟩
theorem Rep.insD {st : List D} {sv : List V} {p : Addr} (hl : sv.length = st.length) (r : Rep c B (tmp st ++ ts) (tmv sv ++ vs) ρ σ H) (hp : H p = none) :
    Rep c B (tmp st ++ (some (.o none (.dct [] [])) :: ts)) (tmv sv ++ (some (.ref p) :: vs)) ρ σ (upd H p (.dK [])) := by
  obtain ⟨G, o1, o2, k, h1, h2⟩ := r
  obtain ⟨a1, a2⟩ := h1.tmp hl
  have ow := own_new (o := .dK []) k hp
  exact ⟨G, p :: o1, o2, k.allocO hp, a1.tmpS (.o ⟨[], upd_same, rfl, .nil⟩ (fun _ e => nomatch e) (a2.mono (fun _ _ e => e) fun q hq => ow q (List.mem_append_left _ hq))), h2.mono (fun _ _ e => e) fun q hq => ow q (List.mem_append_right _ hq)⟩
theorem Rep.putD {st ks ds : List D} {sv : List V} {p : Addr} {y : D} {v : V} {k0 : Key} (hl : sv.length = st.length) (hk : ks.any (keyEq (keyD k0)) = false) (r : Rep c B (some (.d y) :: (tmp st ++ (some (.o none (.dct ks ds)) :: ts))) (some v :: (tmv sv ++ (some (.ref p) :: vs))) ρ σ H) :
    ∃ kvs, H p = some (.dK kvs) ∧ kvs.length = ks.length ∧ Rep c B (tmp st ++ (some (.o none (.dct (ks ++ [keyD k0]) (ds ++ [y]))) :: ts)) (tmv sv ++ (some (.ref p) :: vs)) ρ σ (upd H p (.dK (putK kvs k0 v))) := by
  obtain ⟨G, o1, o2, k, h1, h2⟩ := r
  cases h1 with
  | d hv h1 =>
    obtain ⟨a1, a2⟩ := h1.tmp hl
    cases a2 with
    | @o _ _ _ _ _ own hc hb a2 =>
      obtain ⟨kvs, e, rfl, ku⟩ := hc
      have nd := k.nd
      rw [List.cons_append, List.nodup_cons] at nd
      have ne : ∀ q ∈ own ++ o2, upd H p (.dK (putK kvs k0 v)) q = H q := fun q hq => upd_ne fun z => nd.1 (z ▸ hq)
      refine ⟨kvs, e, by rw [List.length_map], G, p :: own, o2, k.write (List.mem_append_left _ List.mem_cons_self) e rfl, a1.tmpS (.o ⟨_, upd_same, ?_, ?_⟩ hb (a2.mono (fun _ _ e => e) fun q hq => ne q (List.mem_append_left _ hq))), h2.mono (fun _ _ e => e) fun q hq => ne q (List.mem_append_right _ hq)⟩
      · rw [putK_new v (valV_no hk), List.map_append]
        rfl
      · rw [putK_new v (valV_no hk), List.map_append]
        exact ku.snoc hv
end
def mDComp (gm : D → M Unit) (ft : M Bool) (fk fv : M S) (own : List Nat) : List D → List D → List D → En → Out (List D × List D)
  | [], ks, ds, ρ => .ok (ks, ds) ρ
  | x :: xs, ks, ds, ρ => (gm x ρ).calm.then fun _ ρ1 => (ft ρ1).calm.then fun b ρ2 => if b = true then (dv fk ρ2).calm.then fun k ρ3 => (dv fv ρ3).calm.then fun y ρ4 => if isKey k && !ks.any (keyEq k) && small (ks.length + 1) then mDComp gm ft fk fv own xs (ks ++ [k]) (ds ++ [y]) (wipeE ρ4 own) else .stuck
    else mDComp gm ft fk fv own xs ks ds (wipeE ρ2 own)
def mDc (fI : M (List D)) (gm : D → M Unit) (ft : M Bool) (fk fv : M S) (own : List Nat) : M S := fun ρ => (fI ρ).then fun items ρ1 => (mDComp gm ft fk fv own items [] [] (wipeE ρ1 own)).then fun p ρ2 => .ok (.o none (.dct p.1 p.2)) ρ2
section
variable {c : Cfg} {W : WX} {wi : TI} {fI : M (List D)} {tk tv : TE} {fk fv : M S} {tt : TT} {ft : M Bool} {g : TG} {gm : D → M Unit} {js own : List Nat}
theorem den_dc (h : DenI c W wi fI) (k : DenG c W0 g gm js) (kt : DenT c W0 tt ft) (kk : Den c W0 tk fk) (kv : Den c W0 tv fv) (hj : ∀ j ∈ js, j ∈ own) : Den c W (tDc wi g tt tk tv own) (mDc fI gm ft fk fv own) := fun B ts vs ρ σ H Q r q => by
  unfold mDc at q
  rw [post_then] at q
  refine h B ts vs ρ σ H _ r (q.imp1 fun items ρ1 q J st sv H1 hl r1 w D hD => ?_)
  obtain ⟨n, Gw, Y, wk, rfl, hG, hY⟩ := w
  rw [post_then] at q
  refine dc_it wk (fun i H => ∃ ρ ks ds, Rep c B (tmp st ++ (some (.o none (.dct ks ds)) :: ts)) (tmv sv ++ (some (.ref D) :: vs)) ρ σ H ∧ (∀ v ∈ own, ρ.set v none = ρ) ∧
    Post (fun (p : List Fx.D × List Fx.D) ρ2 => OkP c B ts vs σ Q (.o none (.dct p.1 p.2)) ρ2) (ErrP c W B ts vs σ) (mDComp gm ft fk fv own (items.drop i) ks ds ρ)) ⟨wipeE ρ1 own, [], [], ?_, fun v hv => wipeE_at ρ1 own v hv, q⟩ (fun i H _ ⟨ρ, ks, ds, r, _⟩ => hG _ _ _ _ _ _ r) ?_ ?_
  · exact (Rep.insD hl r1 hD).back rfl
  · rintro i x H1 H2 hi ⟨ρ, ks, ds, r, hw, q⟩ y
    obtain ⟨d, ed, r2⟩ := hY _ _ _ _ _ _ _ _ _ hi r y
    have hd : items.drop i = d :: items.drop (i + 1) := by
      rw [List.drop_eq_getElem_cons hi]
      rw [List.getElem?_eq_getElem hi] at ed
      cases ed
      rfl
    rw [hd] at q
    have q : Post _ _ ((gm d ρ).calm.then fun _ ρ1 => (ft ρ1).calm.then fun b ρ2 => _) := q
    rw [post_then] at q
    have r3 : Rep c B (some (.d d) :: (tmp st ++ (some (.o none (.dct ks ds)) :: ts))) (some x :: (tmv sv ++ (some (.ref D) :: vs))) ρ (L2.wipe σ own) H2 := by
      have := r2.wipe own
      have e := wipeE_id hw
      rw [e] at this
      exact this
    refine k B _ _ ρ _ H2 d x _ r3 (post_calm (q.imp1 fun _ ρ2 q σ2 H3 o r4 => ?_))
    have eo := Off.wipe hj o
    refine ⟨eo, ?_⟩
    rw [post_then] at q
    refine kt B _ _ ρ2 σ2 H3 _ r4 (post_calm (q.imp1 fun b ρ3 q H4 r5 => ?_))
    cases b with
    | false => exact ⟨wipeE ρ3 own, ks, ds, r5.back eo, fun v hv => wipeE_at ρ3 own v hv, q⟩
    | true =>
      have q : Post _ _ ((dv fk ρ3).calm.then fun k ρ3 => (dv fv ρ3).calm.then fun y ρ4 => _) := q
      rw [post_then] at q
      refine kk.dv r5 (post_calm (q.imp1 fun y ρ4 q v H5 r6 => ?_))
      rw [post_then] at q
      refine kv.dv r6.drop (post_calm (q.imp1 fun z ρ5 q u H6 r7 => ?_))
      split at q
      · rename_i hz
        rw [Bool.and_eq_true, Bool.and_eq_true, Bool.not_eq_true'] at hz
        obtain ⟨⟨z1, z2⟩, z3⟩ := hz
        obtain ⟨G, O, hv⟩ := r6.top
        obtain ⟨k0, rfl, rfl⟩ := key_of hv z1
        obtain ⟨kvs, e1, e2, r8⟩ := Rep.putD hl z2 r7
        refine ⟨kvs, k0, rfl, e1, ?_, wipeE ρ5 own, _, _, r8.back eo, fun v hv => wipeE_at ρ5 own v hv, q⟩
        have := small_line z3
        omega
      · exact q.elim
  · rintro H1 ⟨ρ, ks, ds, r, _, q⟩
    rw [List.drop_length] at q
    exact q _ H1 (r.dropN hl)
end
section
variable {X : Cx} {c : Cfg} {W : WX} {tg it kx vx a b : Expr} {ifs : List Expr} {fI : M (List D)} {g : D → M Unit} {js : List Nat} {ft : M Bool} {fk fv fa fb : M S} {scope : Scope} {own : List (Str × Nat)} {pos : Pos} {wi : TI} {tgt : TG} {tt : TT} {tk tv ta tb : TE} {kk : Nat}
theorem q_dc (hN : X.N.Nodup) (hI : QI X c W tg it wi fI) (hB : BlkOk X.N X.env.scope scope own) (hG : ∀ s H C cl fp, QG (Blk X scope s H C cl fp) c W0 tg tgt g js) (hT : ∀ s H C cl fp, QTs (Blk X scope s H C cl fp) c W0 ifs tt ft)
    (hk : ∀ s H C cl fp, QE (Blk X scope s H C cl fp) c W0 kx tk fk) (hE : ∀ s H C cl fp, QE (Blk X scope s H C cl fp) c W0 vx tv fv) (hj : ∀ j ∈ js, j ∈ own.map (·.2) := by decide) (hc : X.calm = true := by rfl) (hs : ∀ x, foldedSetIterable it X.env x = pure x := by intro _; rfl) :
    QE X c W (.DictComp kx vx [{ target := tg, iter := it, ifs := ifs, is_async := 0 }] scope pos) (tDc wi tgt tt tk tv (own.map (·.2))) (mDc fI g ft fk fv (own.map (·.2))) := by
  obtain ⟨h1, h2⟩ := hI
  obtain ⟨s, H, C, cl, fp, g2, t2, k2, e2⟩ := anyPlace c _ fun s H C cl fp => And.intro (hG s H C cl fp).dn (And.intro (hT s H C cl fp).dn (And.intro (hk s H C cl fp).dn (hE s H C cl fp).dn))
  exact ⟨pe_dc hc hN h1 hB (fun s H C cl fp => (hG s H C cl fp).pe) (fun s H C cl fp => (hT s H C cl fp).pe) (fun s H C cl fp => (hk s H C cl fp).pe) (fun s H C cl fp => (hE s H C cl fp).pe) hs, den_dc h2 g2 t2 k2 e2 hj⟩
theorem q_dget (hr : Room kk X.A) (ha : QE X c W a ta fa) (hb : QE X c W b tb fb) (hs : NoSl b := by exact fun _ _ => rfl) : QE X c W (.Subscript a b pos) (tDGet ta tb) (mOp gDget fa fb) := by
  obtain ⟨h1, h2⟩ := ha; obtain ⟨k1, k2⟩ := hb
  exact ⟨pe_dget (by have := un66 hr; omega) h1 k1 hs, den_dget h2 k2⟩
/-- a = {k: v for ..}: stored before the block is left -/
theorem swD {es : List Comprehension} {py : Pos} {y : Str} {l : Nat} {env : Env} (hf : env.scope.kind = .function) (hy : env.scope.names.lookup y = some .local) (hl : (py.line == pos.line) = true)
    (ha : (scope.names.any fun (n, k) => n == y && (k == .local || k == .cell)) = false) : swapsWith (.DictComp kx vx es scope pos) (some (.Name y py)) l env = pure true := by
  have k1 : env.kindOf y = some .local := hy
  have k2 : env.blockKind = .function := by unfold Env.blockKind; rw [hf]; rfl
  unfold swapsWith
  simp only [k2, k1, ha, Expr.pos, hl]
  rfl
theorem psD {i : Nat} {y : Str} {py spos : Pos} (hc : X.calm = true) (hN : X.N.Nodup) (hy : X.N[i]? = some y) (hyl : X.env.scope.names.lookup y = some .local) (hsw : swapsWith (.DictComp kx vx [⟨tg, it, ifs, 0⟩] scope pos) (some (.Name y py)) spos.line X.env = pure true) (hi : PI X tg it wi) (ok : BlkOk X.N X.env.scope scope own)
    (hg : ∀ s H C cl fp, PG (Blk X scope s H C cl fp) tg tgt) (ht : ∀ s H C cl fp, PTs (Blk X scope s H C cl fp) ifs tt) (hk : ∀ s H C cl fp, PE (Blk X scope s H C cl fp) kx tk) (he : ∀ s H C cl fp, PE (Blk X scope s H C cl fp) vx tv) (hs : ∀ x, foldedSetIterable it X.env x = pure x) :
    PS X (.Assign [.Name y py] (.DictComp kx vx [⟨tg, it, ifs, 0⟩] scope pos) spos) (tAsg (tDc wi tgt tt tk tv (own.map (·.2))) (gName i)) := by
  refine ⟨fun pins s σ H D I h => ?_⟩
  rw [exec_Assign_Name_used _ _ _ _ hsw]
  refine wpAny_bind (wpAny_standAt (wpAny_bind ?_))
  show wpAny _ X.A (do let _ ← comprehension (.DictComp kx vx [⟨tg, it, ifs, 0⟩] scope pos) scope X.env (firstIterPos [⟨tg, it, ifs, 0⟩] pos) newDict false (eval it X.env) (some (assign (.Name y py) X.env))) _ _ s
  have h : tDc wi tgt tt tk tv (own.map (·.2)) σ H (fun x H1 => gName i x σ H1 D.nx) := h
  refine wpAny_bind (thn (dc_core (Qf := fun _ s' => SP X pins D .next s') hc hN I hi ok hg ht hk he hs h fun L C s' m H' I' q hn f => ?_) fun _ s' hq => wpAny_pure (wpAny_pure hq))
  show wpAny _ _ (assign (.Name y py) X.env (.ref L)) _ _ _
  refine wpAny_assign_Name (store_ok2 (v := V.ref L) I' hN hy (.inl hyl) rfl (fun s2 I2 ⟨a, sb, ha⟩ => ?_) (.inr hyl))
  obtain ⟨f0, f1, f2, f3, f4, f5⟩ := f
  have haC : C ≠ a := by
    rcases ha with z | z
    · rw [z]; exact f1
    · exact fun e => f4 y a z e.symm
  refine ⟨m, hn.sameBut sb haC, fun h3 sb3 => ?_⟩
  exact ⟨_, H', I2.turned (t' := s2.toks) (fun b o hb e => (sb3.2 b hb).trans e) f0 f1 f3 f4 f5, q⟩
theorem s_setDc (i : Nat) {y : Str} {py spos : Pos} (hN : X.N.Nodup) (hI : QI X c W tg it wi fI) (hB : BlkOk X.N X.env.scope scope own) (hG : ∀ s H C cl fp, QG (Blk X scope s H C cl fp) c W0 tg tgt g js) (hT : ∀ s H C cl fp, QTs (Blk X scope s H C cl fp) c W0 ifs tt ft)
    (hk : ∀ s H C cl fp, QE (Blk X scope s H C cl fp) c W0 kx tk fk) (hE : ∀ s H C cl fp, QE (Blk X scope s H C cl fp) c W0 vx tv fv) (hj : ∀ j ∈ js, j ∈ own.map (·.2) := by decide) (hc : X.calm = true := by rfl) (hi : X.N[i]? = some y := by rfl) (hy : X.env.scope.names.lookup y = some .local := by rfl)
    (hw : swapsWith (.DictComp kx vx [{ target := tg, iter := it, ifs := ifs, is_async := 0 }] scope pos) (some (.Name y py)) spos.line X.env = pure true := by rfl) (hs : ∀ x, foldedSetIterable it X.env x = pure x := by intro _; rfl) :
    QS X c W (.Assign [.Name y py] (.DictComp kx vx [{ target := tg, iter := it, ifs := ifs, is_async := 0 }] scope pos) spos) (tAsg (tDc wi tgt tt tk tv (own.map (·.2))) (gName i)) (mAsg (mDc fI g ft fk fv (own.map (·.2))) (gmName i)) := by
  obtain ⟨h1, h2⟩ := hI
  obtain ⟨s, H, C, cl, fp, g2, t2, k2, e2⟩ := anyPlace c _ fun s H C cl fp => And.intro (hG s H C cl fp).dn (And.intro (hT s H C cl fp).dn (And.intro (hk s H C cl fp).dn (hE s H C cl fp).dn))
  exact ⟨psD hc hN hi hy hw h1 hB (fun s H C cl fp => (hG s H C cl fp).pe) (fun s H C cl fp => (hT s H C cl fp).pe) (fun s H C cl fp => (hk s H C cl fp).pe) (fun s H C cl fp => (hE s H C cl fp).pe) hs, ds_asg (den_dc h2 g2 t2 k2 e2 hj) dg_name⟩
end
end Fx

/-! sorted of a tuple or a list of pairs of ints -/
namespace PySem
open PySem.Spec PyProof.Rows SrtO
section
variable {prog : Program} {w : World} {A : Around} {E : Value → Shared → Prop} {s : Shared}
/-- the items of a tuple, collected -/
theorem collect_tupF {l : Addr} {vs : List Value} {Q : List Value → Shared → Prop} (hl : s.heap.IsTuple l vs.toArray)
    (h : Q vs { s with heap := (s.heap.push (seqObj "list" #[] 0)).update s.heap.objs.size (Obj.mapSeq (· ++ vs.toArray)) }) (hsz : vs.length ≤ sizeLine) : wpAny (model prog w) A (collect (.ref l)) Q E s := by
  obtain ⟨o, ho, hc, n, hd⟩ := id hl
  unfold collect
  refine wpAny_bind (wpAny_runValue (codeAny_builtin entry_proto_collect' ?_))
  show wpAny _ _ (do again (.builtin "list.__iadd__" ⟨[← newList [], .ref l], []⟩)) _ _ s
  refine wpAny_bind (wpAny_newList (wpAny_pure ⟨Code.quiet_builtin _ (by decide +kernel), codeAny_builtin entry_list_iadd' ?_⟩))
  show wpAny _ _ (Builtin.List.listExtendWith (.ref s.heap.objs.size) (.ref l) (.ref s.heap.objs.size)) _ _ { s with heap := s.heap.push (seqObj "list" #[] 0) }
  unfold Builtin.List.listExtendWith
  have ho' : (s.heap.push (seqObj "list" #[] 0)).get? l = some o := Heap.get?_push_of_some _ ho
  refine wpAny_bind (wpAny_typeOf (T := "tuple") ⟨o, ho', hc⟩ ?_)
  have ht : (Value.type "tuple" == Value.type "tuple") = true := by rfl
  rw [if_pos (by rw [ht]; simp)]
  refine wpAny_bind (listItems_at ho' hd ?_)
  refine wpAny_bind (listItems_at (xs := #[]) (n := 0) (Heap.get?_push_size _ rfl) rfl ?_)
  rw [if_neg (by simp)]
  refine wpAny_bind (listUpdate_at (xs := #[]) (n := 0) (Heap.get?_push_size _ rfl) rfl ?_ (Nat.zero_le _) (by show (#[] ++ vs.toArray).size ≤ sizeLine + 1; simp only [Array.size_append, List.size_toArray, List.length_nil]; omega))
  refine wpAny_pure ?_
  show wpAny (model prog w) A (do
      let o ← load s.heap.objs.size
      match o.data with
      | .seq xs _ => pure xs.toList
      | _ => unsupported "internal:collect") Q E { s with heap := (s.heap.push (seqObj "list" #[] 0)).update s.heap.objs.size (Obj.mapSeq (· ++ vs.toArray)) }
  refine wpAny_bind (wpAny_load (get?_update_seq (Heap.get?_push_size _ rfl) _) ?_)
  show wpAny _ _ (pure ((#[] : Array Value) ++ vs.toArray).toList) Q E _
  rw [show ((#[] : Array Value) ++ vs.toArray).toList = vs by simp]
  exact wpAny_pure h
theorem sorted_ordT {l : Addr} {vs : List Value} {ltv : Value → Value → Bool} {Q : Value → Shared → Prop} (O : Swo ltv) (hl : s.heap.IsTuple l vs.toArray) (hz : vs.length ≤ sizeLine)
    (hS : 2 ≤ vs.length → ∀ (h₁ : Heap) (a : Addr), h₁.get? a = some (seqObj "list" vs.toArray 0) → (∀ b o, s.heap.get? b = some o → b ≠ a ∧ h₁.get? b = some o) → SortableO prog w A.in1.in1 { s with heap := h₁ } a vs ltv)
    (h : ∀ out : List Value, Srtd ltv out → Stb ltv out vs → Q (.ref (s.heap.objs.size + 1)) { s with heap := sortedAll s.heap vs out.toArray }) :
    wpAny (model prog w) A (call (.builtin "sorted") [.ref l]) Q E s := by
  refine Calls.call_function_entry kind_sorted plain_sorted entry_sorted (args_sorted1 _) ?_
  unfold Builtin.«sorted»
  refine wpAny_bind (m := checkCount "sorted" 1 1 _) (wpAny_pure ?_)
  refine wpAny_bind (collect_tupF hl ?_ hz)
  refine wpAny_bind (wpAny_newList ?_ hz)
  have hsz : ((s.heap.push (seqObj "list" #[] 0)).update s.heap.objs.size (Obj.mapSeq (· ++ vs.toArray))).objs.size = s.heap.objs.size + 1 := by
    rw [Heap.size_update, size_push']
  have hoL : (((s.heap.push (seqObj "list" #[] 0)).update s.heap.objs.size (Obj.mapSeq (· ++ vs.toArray))).push (seqObj "list" vs.toArray 0)).get? (s.heap.objs.size + 1) = some (seqObj "list" vs.toArray 0) := by
    rw [← hsz]; exact Heap.get?_push_size _ rfl
  have keep : ∀ b o, s.heap.get? b = some o → b ≠ s.heap.objs.size + 1 ∧ (((s.heap.push (seqObj "list" #[] 0)).update s.heap.objs.size (Obj.mapSeq (· ++ vs.toArray))).push (seqObj "list" vs.toArray 0)).get? b = some o := fun b o q => by
    have hlt : b < s.heap.objs.size := Heap.lt_size q
    refine ⟨Nat.ne_of_lt (Nat.lt_succ_of_lt hlt), Heap.get?_push_of_some _ ?_⟩
    rw [Heap.get?_update_ne _ _ _ _ (Nat.ne_of_lt hlt)]
    exact Heap.get?_push_of_some _ q
  show wpAny _ _ _ _ _ { s with heap := ((s.heap.push (seqObj "list" #[] 0)).update s.heap.objs.size (Obj.mapSeq (· ++ vs.toArray))).push (seqObj "list" vs.toArray 0) }
  rw [hsz]
  refine wpAny_bind (wpAny_holding (wpAny_call_entry slot_list_sort ⟨_, hoL, rfl⟩ entry_list_sort (list_sort_ord O hoL hz (fun h2 => hS h2 _ _ hoL keep) fun out hs hb => ⟨_, rfl, ?_⟩) (args_list_sort _)))
  exact wpAny_pure ⟨_, rfl, h out hs hb⟩
theorem sorted_pairsT {l : Addr} {vs : List Value} {k : Value → Int × Int} {Q : Value → Shared → Prop} (hl : s.heap.IsTuple l vs.toArray) (hz : vs.length ≤ sizeLine) (hp : ∀ v ∈ vs, Srt.IsPair s.heap v (k v).1 (k v).2)
    (h : ∀ (h' : Heap) (d : Addr) (out : List Value), Srtd (fun v u => lexB (k v) (k u)) out → Stb (fun v u => lexB (k v) (k u)) out vs → (∀ b o, s.heap.get? b = some o → h'.get? b = some o) → s.heap.objs.size ≤ d → (∃ n, h'.get? d = some (seqObj "list" out.toArray n)) → Q (.ref d) { s with heap := h' }) :
    wpAny (model prog w) A (call (.builtin "sorted") [.ref l]) Q E s := by
  refine sorted_ordT (swo_lex k) hl hz (fun h2 h₁ a ha kk => ?_) fun out hs hb => ?_
  · refine pairs_sortableO (s := { s with heap := h₁ }) (by omega) (fun v hm => (hp v hm).keeps fun b o e _ => (kk b o e).2) fun o e => ?_
    have e' : some o = some (seqObj "list" vs.toArray 0) := e.symm.trans ha
    cases e'
    intro c
    exact absurd (Value.type.inj c) (by decide)
  · exact h _ _ out hs hb (fun b o e => sortedAll_old e) (Nat.le_succ _) (sortedAll_at s.heap vs out.toArray)
end
end PySem
namespace Fx
open PySem PySem.Spec PyProof.Rows L2
section
variable {X : Cx}
/-- sorted(xs), xs a list or a tuple of pairs of ints: a new list; what a tuple holds is one -/
def rSortedG (K : PySem.W.Frag) : List V → Hp → VK → Prop := fun vs H Q => ∃ (a : Addr) (xs : List V) (k : V → Int × Int), vs = [V.ref a] ∧ (SqL K H a xs ∨ SqT K H a xs) ∧ (∀ x ∈ xs, ∃ t, x = V.ref t ∧ SqT K H t [.int (k x).1, .int (k x).2]) ∧
  ∀ ys p, SrtO.Srtd (ltP k) ys → ys.Perm xs → (∀ t us us', SqT K H t us → SqT K H t us' → us = us') → H p = none → Q (.ref p) (upd H p (.lst ys))
theorem cr_sortedG : CallR X (.builtin "sorted") (rSortedG X.K) := by
  intro pins s σ H vs us Q I r h
  obtain ⟨a, xs, k, rfl, hs, hx, q⟩ := h
  have inj : ∀ t us us', SqT X.K H t us → SqT X.K H t us' → us = us' := fun t us us' h1 h2 => I.tuple_inj h1 h2
  obtain ⟨u, rfl, ru⟩ := vals1 r
  obtain rfl : u = Value.ref a := ru
  have pairs : ∀ t, V.ref t ∈ xs → Srt.IsPair s.heap (Value.ref t) (k (V.ref t)).1 (k (V.ref t)).2 := fun t hm => by
    obtain ⟨t', e, ht⟩ := hx _ hm
    cases e
    obtain ⟨its2, r2, ⟨o, ho, hc, n, hd⟩, _⟩ := I.tuple ht
    obtain ⟨u1, u2, rfl, ri, rj⟩ := vals2 r2
    obtain ⟨t1, rfl⟩ := ri
    obtain ⟨t2, rfl⟩ := rj
    exact ⟨t, o, t1, t2, n, rfl, ho, hc, hd⟩
  rcases hs with hs | hs
  · obtain ⟨its, rv, hl, hz⟩ := I.list hs
    obtain ⟨e1, e2⟩ := refs_back rv fun x m => by
      obtain ⟨t, e, _⟩ := hx x m
      exact ⟨t, e⟩
    refine SrtO.sorted_pairsO (k := fun u => k (backV u)) hl.isList (by rw [← rv.length]; exact hz) (fun v hv => ?_) fun h' d out h1 h2 kp hd hn => ?_
    · obtain ⟨t, rfl⟩ := e2 v hv
      exact pairs t (by rw [e1]; exact List.mem_map.mpr ⟨_, hv, rfl⟩)
    · have h3 : ∀ u ∈ out, ∃ a, u = Value.ref a := fun u hu => e2 u (h2.perm.mem_iff.mp hu)
      obtain ⟨n, hn⟩ := hn
      have hb : (out.map backV).Perm xs := by
        rw [e1]
        exact h2.perm.map backV
      refine ⟨.ref d, upd H d (.lst (out.map backV)), I.laid (t' := s.toks) kp hd ⟨?_, out, n, vals_back h3, hn⟩, rfl, q _ d (SrtO.srtd_map h1) hb inj (I.hok.fresh hd)⟩
      rw [hb.length_eq]
      exact hz
  · obtain ⟨its, rv, hl, hz⟩ := I.tuple hs
    obtain ⟨e1, e2⟩ := refs_back rv fun x m => by
      obtain ⟨t, e, _⟩ := hx x m
      exact ⟨t, e⟩
    refine PySem.sorted_pairsT (k := fun u => k (backV u)) hl (by rw [← rv.length]; exact hz) (fun v hv => ?_) fun h' d out h1 h2 kp hd hn => ?_
    · obtain ⟨t, rfl⟩ := e2 v hv
      exact pairs t (by rw [e1]; exact List.mem_map.mpr ⟨_, hv, rfl⟩)
    · have h3 : ∀ u ∈ out, ∃ a, u = Value.ref a := fun u hu => e2 u (h2.perm.mem_iff.mp hu)
      obtain ⟨n, hn⟩ := hn
      have hb : (out.map backV).Perm xs := by
        rw [e1]
        exact h2.perm.map backV
      refine ⟨.ref d, upd H d (.lst (out.map backV)), I.laid (t' := s.toks) kp hd ⟨?_, out, n, vals_back h3, hn⟩, rfl, q _ d (SrtO.srtd_map h1) hb inj (I.hok.fresh hd)⟩
      rw [hb.length_eq]
      exact hz
end
/-! ### on data -/
def prD (p : Int × Int) : D := .tup [.int p.1, .int p.2]
def prOf : D → Option (Int × Int)
  | .tup [.int i, .int j] => some (i, j)
  | _ => none
def prsOf : List D → Option (List (Int × Int))
  | [] => some []
  | d :: ds => match prOf d, prsOf ds with
    | some p, some ps => some (p :: ps)
    | _, _ => none
theorem prOf_eq {d : D} {p : Int × Int} (h : prOf d = some p) : d = prD p := by
  unfold prOf at h
  split at h
  · cases h
    rfl
  · cases h
theorem prsOf_eq : ∀ {ds : List D} {ps : List (Int × Int)}, prsOf ds = some ps → ds = ps.map prD
  | [], ps, h => by
    cases h
    rfl
  | d :: ds, ps, h => by
    unfold prsOf at h
    split at h
    · rename_i p qs e1 e2
      cases h
      rw [prOf_eq e1, prsOf_eq e2]
      rfl
    · cases h
theorem prsOf_map : ∀ ps : List (Int × Int), prsOf (ps.map prD) = some ps
  | [] => rfl
  | p :: ps => by
    show (match prOf (prD p), prsOf (ps.map prD) with
      | some p, some ps => some (p :: ps)
      | _, _ => none) = _
    rw [prsOf_map ps]
    rfl
/-- p before q -/
def leP (p q : Int × Int) : Prop := p.1 < q.1 ∨ (p.1 = q.1 ∧ p.2 ≤ q.2)
instance (p q : Int × Int) : Decidable (leP p q) := by unfold leP; infer_instance
def insP (p : Int × Int) : List (Int × Int) → List (Int × Int)
  | [] => [p]
  | q :: qs => if leP p q then p :: q :: qs else q :: insP p qs
def isortP : List (Int × Int) → List (Int × Int)
  | [] => []
  | p :: ps => insP p (isortP ps)
theorem insP_perm (p : Int × Int) : ∀ qs : List (Int × Int), (insP p qs).Perm (p :: qs)
  | [] => .refl _
  | q :: qs => by
    unfold insP
    split
    · exact .refl _
    · exact ((insP_perm p qs).cons q).trans (.swap p q qs)
theorem isortP_perm : ∀ ps : List (Int × Int), (isortP ps).Perm ps
  | [] => .refl _
  | p :: ps => (insP_perm p _).trans ((isortP_perm ps).cons p)
theorem insP_pw (p : Int × Int) : ∀ {qs : List (Int × Int)}, qs.Pairwise leP → (insP p qs).Pairwise leP
  | [], _ => by simp [insP]
  | q :: qs, h => by
    unfold insP
    split
    · rename_i hpq
      refine List.pairwise_cons.mpr ⟨fun r hr => ?_, h⟩
      rcases List.mem_cons.mp hr with rfl | hr
      · exact hpq
      · have := (List.pairwise_cons.mp h).1 r hr
        unfold leP at *
        omega
    · rename_i hpq
      refine List.pairwise_cons.mpr ⟨fun r hr => ?_, insP_pw p (List.pairwise_cons.mp h).2⟩
      rcases List.mem_cons.mp ((insP_perm p qs).mem_iff.mp hr) with rfl | hr
      · unfold leP at *
        omega
      · exact (List.pairwise_cons.mp h).1 r hr
theorem isortP_pw : ∀ ps : List (Int × Int), (isortP ps).Pairwise leP
  | [] => .nil
  | p :: ps => insP_pw p (isortP_pw ps)
theorem isortP_eq {ps qs : List (Int × Int)} (h : qs.Perm ps) (k : qs.Pairwise leP) : qs = isortP ps :=
  List.Perm.eq_of_pairwise (fun a b _ _ h1 h2 => by
    obtain ⟨a1, a2⟩ := a
    obtain ⟨b1, b2⟩ := b
    unfold leP at h1 h2
    simp only at h1 h2
    have e1 : a1 = b1 := by omega
    have e2 : a2 = b2 := by omega
    rw [e1, e2]) k (isortP_pw ps) (h.trans (isortP_perm ps).symm)
def gSortG : List D → Option S
  | [.lst ds] => match intsD ds with
    | some ns => some (.o none (.lst ((isort ns).map D.int)))
    | none => (prsOf ds).map fun ps => .o none (.lst ((isortP ps).map prD))
  | [.tup ds] => (prsOf ds).map fun ps => .o none (.lst ((isortP ps).map prD))
  | _ => none
section
variable {c : Cfg} {G H : Hp}
noncomputable def kOf (K : PySem.W.Frag) (H : Hp) (x : V) : Int × Int := open Classical in if h : ∃ p : Int × Int, ∃ t, x = V.ref t ∧ SqT K H t [.int p.1, .int p.2] then h.choose else (0, 0)
theorem pair_at {x : V} {p : Int × Int} (s : ∀ a o, G a = some o → H a = some o) (h : Rp c G x (prD p)) : ∃ t, x = V.ref t ∧ SqT c.K H t [.int p.1, .int p.2] := by
  obtain ⟨t, us, rfl, ht, k⟩ := h.tupE
  cases k with
  | cons h1 k =>
    cases k with
    | cons h2 k =>
      cases k
      cases h1
      cases h2
      exact ⟨t, rfl, SqT.up s ht⟩
theorem kOf_at {x : V} (h : ∃ p : Int × Int, ∃ t, x = V.ref t ∧ SqT c.K H t [.int p.1, .int p.2]) : ∃ t, x = V.ref t ∧ SqT c.K H t [.int (kOf c.K H x).1, .int (kOf c.K H x).2] := by
  unfold kOf
  rw [dif_pos h]
  exact h.choose_spec
theorem kOf_eq {x : V} {p : Int × Int} (inj : ∀ t us us', SqT c.K H t us → SqT c.K H t us' → us = us') (h : ∃ t, x = V.ref t ∧ SqT c.K H t [.int p.1, .int p.2]) : kOf c.K H x = p := by
  obtain ⟨t, e, ht⟩ := kOf_at (c := c) ⟨p, h⟩
  obtain ⟨t', e', ht'⟩ := h
  rw [e] at e'
  cases e'
  have := inj _ _ _ ht ht'
  simp only [List.cons.injEq, V.int.injEq, and_true] at this
  exact Prod.ext this.1 this.2
theorem keys_of (inj : ∀ t us us', SqT c.K H t us → SqT c.K H t us' → us = us') (s : ∀ a o, G a = some o → H a = some o) : ∀ {xs : List V} {ps : List (Int × Int)}, RpAll c G xs (ps.map prD) → xs.map (kOf c.K H) = ps
  | [], [], _ => rfl
  | x :: xs, p :: ps, h => by
    cases h with
    | cons h k => rw [List.map_cons, kOf_eq inj (pair_at s h), keys_of inj s k]
  | [], p :: ps, h => by cases h
  | x :: xs, [], h => by cases h
theorem sorted_run {Q : VK} {B : Base} {ts : En} {vs : List (Option V)} {ρ : En} {σ : L2.St} {xs : List V} {ps : List (Int × Int)} (O : Opn c B ts vs ρ σ H G) (ka : RpAll c G xs (ps.map prD))
    (q : ∀ v H', Rep c B (some (.o none (.lst ((isortP ps).map prD))) :: ts) (some v :: vs) ρ σ H' → Q v H') : (∀ x ∈ xs, ∃ t, x = V.ref t ∧ SqT c.K H t [.int (kOf c.K H x).1, .int (kOf c.K H x).2]) ∧
    ∀ ys p, SrtO.Srtd (ltP (kOf c.K H)) ys → ys.Perm xs → (∀ t us us', SqT c.K H t us → SqT c.K H t us' → us = us') → H p = none → Q (.ref p) (upd H p (.lst ys)) := by
  have each : ∀ x ∈ xs, ∃ p ∈ ps, Rp c G x (prD p) := fun x hx => by
    obtain ⟨i, hi⟩ := List.getElem?_of_mem hx
    obtain ⟨d, e1, e2⟩ := ka.getV hi
    rw [List.getElem?_map] at e1
    obtain ⟨p, hp, rfl⟩ := Option.map_eq_some_iff.mp e1
    exact ⟨p, List.mem_of_getElem? hp, e2⟩
  refine ⟨fun x hx => ?_, fun ys p hs hp inj hn => ?_⟩
  · obtain ⟨p, _, h⟩ := each x hx
    exact kOf_at ⟨p, pair_at O.sub h⟩
  · have e := keys_of inj O.sub ka
    have ey : ys.map (kOf c.K H) = isortP ps := by
      refine isortP_eq (by rw [← e]; exact hp.map _) ?_
      rw [List.pairwise_map]
      refine List.Pairwise.imp (fun {x y} h => ?_) hs
      have h : SrtO.lexB (kOf c.K H y) (kOf c.K H x) = false := h
      have := SrtO.lexB_no.mp h
      unfold leP
      omega
    refine q _ _ (O.newO hn fun H' e' => ⟨_, e', ?_⟩)
    rw [← ey]
    have go : ∀ zs : List V, (∀ z ∈ zs, z ∈ xs) → RpAll c G zs ((zs.map (kOf c.K H)).map prD) := by
      intro zs
      induction zs with
      | nil => exact fun _ => .nil
      | cons z zs ih =>
        intro hz
        obtain ⟨p, _, h⟩ := each z (hz z List.mem_cons_self)
        refine .cons ?_ (ih fun w hw => hz w (List.mem_cons_of_mem _ hw))
        rw [kOf_eq inj (pair_at O.sub h)]
        exact h
    exact go ys fun z hz => hp.mem_iff.mp hz
theorem cd_sortG : CbDen c (fun vs H Q => rSortedI c.K vs H Q ∨ rSortedG c.K vs H Q) gSortG := by
  intro B ts vs ρ σ H Q ds us s hl r e q
  match ds, hl, r, e with
  | [.lst ds], hl, r, e =>
    obtain ⟨v, rfl, G, O, h⟩ := r.one' hl
    obtain ⟨a, xs, rfl, ha, ka⟩ := h.lstE
    have e : (match intsD ds with
      | some ns => some (S.o none (.lst ((isort ns).map D.int)))
      | none => (prsOf ds).map fun ps => S.o none (.lst ((isortP ps).map prD))) = some s := e
    cases e2 : intsD ds with
    | some ns =>
      rw [e2] at e
      cases e
      rw [RpAll.ints e2 ka] at ha
      refine .inl ⟨a, ns, rfl, SqL.of (O.sub _ _ ha), fun ns' p pm pw hp => ?_⟩
      rw [isort_eq pm pw]
      exact q _ _ (O.newO hp fun H' e => ⟨_, e, RpAll.ofInts _⟩)
    | none =>
      rw [e2] at e
      have e : (prsOf ds).map (fun ps => S.o none (.lst ((isortP ps).map prD))) = some s := e
      cases e3 : prsOf ds with
      | none => rw [e3] at e; cases e
      | some ps =>
        rw [e3] at e
        cases e
        rw [prsOf_eq e3] at ka
        obtain ⟨k1, k2⟩ := sorted_run O ka q
        exact .inr ⟨a, xs, _, rfl, .inl (SqL.of (O.sub _ _ ha)), k1, k2⟩
  | [.tup ds], hl, r, e =>
    obtain ⟨v, rfl, G, O, h⟩ := r.one' hl
    obtain ⟨a, xs, rfl, ha, ka⟩ := h.tupE
    have e : (prsOf ds).map (fun ps => S.o none (.lst ((isortP ps).map prD))) = some s := e
    cases e3 : prsOf ds with
    | none => rw [e3] at e; cases e
    | some ps =>
      rw [e3] at e
      cases e
      rw [prsOf_eq e3] at ka
      obtain ⟨k1, k2⟩ := sorted_run O ka q
      exact .inr ⟨a, xs, _, rfl, .inr (SqT.up O.sub ha), k1, k2⟩
end
section
variable {X : Cx} {c : Cfg}
theorem b_sortG (hK : X.K = c.K := by rfl) : QB X c "sorted" (fun vs H Q => rSortedI c.K vs H Q ∨ rSortedG c.K vs H Q) gSortG := by
  refine ⟨.inl ⟨"sorted", ?_, by decide +kernel⟩, cd_sortG⟩
  intro pins s σ H vs us Q I r h
  rcases h with h | h
  · exact cr_sortedI pins s σ H vs us Q I r (hK ▸ h)
  · exact cr_sortedG pins s σ H vs us Q I r (hK ▸ h)
end
end Fx

/-! sorted of a tuple or a list of tuples of ints, none empty, of any lengths -/
namespace PySem
open PySem.Spec PyProof.Rows SrtO
/-- one before another, as tuples of ints are -/
def lexI : List Int → List Int → Bool
  | [], [] => false
  | [], _ :: _ => true
  | _ :: _, [] => false
  | x :: xs, y :: ys => if x = y then lexI xs ys else decide (x < y)
theorem lexI_asym : ∀ {xs ys : List Int}, lexI xs ys = true → lexI ys xs = false
  | [], [], h => by simp [lexI] at h
  | [], _ :: _, _ => rfl
  | _ :: _, [], h => by simp [lexI] at h
  | x :: xs, y :: ys, h => by
    unfold lexI at h ⊢
    by_cases e : x = y
    · rw [if_pos e] at h
      rw [if_pos e.symm]
      exact lexI_asym h
    · rw [if_neg e, decide_eq_true_eq] at h
      rw [if_neg (Ne.symm e), decide_eq_false_iff_not]
      omega
theorem lexI_anti : ∀ {xs ys : List Int}, lexI xs ys = false → lexI ys xs = false → xs = ys
  | [], [], _, _ => rfl
  | [], _ :: _, h, _ => by simp [lexI] at h
  | _ :: _, [], _, h => by simp [lexI] at h
  | x :: xs, y :: ys, h, k => by
    unfold lexI at h k
    by_cases e : x = y
    · rw [if_pos e] at h
      rw [if_pos e.symm] at k
      rw [e, lexI_anti h k]
    · rw [if_neg e, decide_eq_false_iff_not] at h
      rw [if_neg (Ne.symm e), decide_eq_false_iff_not] at k
      omega
/-- not behind, and not behind: not behind -/
theorem lexI_tr : ∀ {xs ys zs : List Int}, lexI ys xs = false → lexI zs ys = false → lexI zs xs = false
  | [], _, [], _, _ => rfl
  | [], _, _ :: _, _, _ => rfl
  | _ :: _, [], [], h, _ => by simp [lexI] at h
  | _ :: _, _ :: _, [], _, h => by simp [lexI] at h
  | _ :: _, [], _ :: _, h, _ => by simp [lexI] at h
  | x :: xs, y :: ys, z :: zs, h, k => by
    unfold lexI at h k ⊢
    by_cases e1 : y = x
    · rw [if_pos e1] at h
      by_cases e2 : z = y
      · rw [if_pos e2] at k
        rw [if_pos (e2.trans e1)]
        exact lexI_tr h k
      · rw [if_neg e2, decide_eq_false_iff_not] at k
        rw [if_neg (by omega), decide_eq_false_iff_not]
        omega
    · rw [if_neg e1, decide_eq_false_iff_not] at h
      by_cases e2 : z = y
      · rw [if_neg (by omega), decide_eq_false_iff_not]
        omega
      · rw [if_neg e2, decide_eq_false_iff_not] at k
        rw [if_neg (by omega), decide_eq_false_iff_not]
        omega
theorem swo_lexI {α : Type} (k : α → List Int) : Swo fun v u => lexI (k v) (k u) := ⟨fun _ _ h => lexI_asym h, fun _ _ _ h1 h2 => lexI_tr h1 h2⟩
section
variable {prog : Program} {w : World} {A : Around} {E : Value → Shared → Prop} {s : Shared}
theorem kat_lex {b : Bool} {Q : Bool → Shared → Prop} : ∀ {xs ys : List Value} {ns ms : List Int} (i : Nat), IntsAre xs ns → IntsAre ys ms → Q (lexI ns ms) s → PySem.W.KatLex prog w A b (decide (ns.length < ms.length)) Q (xs.zip ys) i s
  | _, _, _, _, i, .nil, .nil, h => PySem.W.kat_nil (by simpa [lexI] using h)
  | _, _, _, _, i, .nil, .cons q u hy, h => PySem.W.kat_nil (by simpa [lexI] using h)
  | _, _, _, _, i, .cons p t hx, .nil, h => PySem.W.kat_nil (by simpa [lexI] using h)
  | _, _, p :: ns, q :: ms, i, @IntsAre.cons _ t xs _ hx, @IntsAre.cons _ u ys _ hy, h => by
    show PySem.W.KatLex prog w A b _ Q ((Value.int p t, Value.int q u) :: xs.zip ys) i s
    refine PySem.W.kat_cons (wpAny_eqBool_int ?_)
    unfold lexI at h
    by_cases e : p = q
    · subst e
      rw [beq_self_eq_true]
      rw [if_pos rfl] at h
      have d : decide ((p :: ns).length < (p :: ms).length) = decide (ns.length < ms.length) := by simp
      rw [d]
      exact PySem.W.kat_yes (kat_lex (i + 1) hx hy h)
    · rw [show (p == q) = false from beq_eq_false_iff_ne.mpr e]
      rw [if_neg e] at h
      exact PySem.W.kat_no (TS.oneLt_ints _ h)
/-- a tuple of ints, not empty -/
def NeT (h : Heap) (v : Value) (ns : List Int) : Prop := TS.TupInts h v ns ∧ ns ≠ []
theorem NeT.keeps {h h' : Heap} {v : Value} {ns : List Int} (x : NeT h v ns) (k : ∀ b o, h.get? b = some o → o.cls = .type "tuple" → h'.get? b = some o) : NeT h' v ns := ⟨x.1.keeps k, x.2⟩
theorem firstsT {h : Heap} : ∀ vs : List Value, (∀ v ∈ vs, ∃ ns, NeT h v ns) → ∃ fs, PySem.W.KatTups h vs fs ∧ fs.length = vs.length ∧ ∀ f ∈ fs, ∃ n t, f = Value.int n t
  | [], _ => ⟨[], PySem.W.KatTups.nil, rfl, fun f hf => by simp at hf⟩
  | v :: vs, x => by
    obtain ⟨fs, k, hl, hi⟩ := firstsT vs fun u hu => x u (List.mem_cons_of_mem _ hu)
    obtain ⟨ns, ⟨a, xs, rfl, ⟨o, ho, hc, n, hdt⟩, i⟩, hn⟩ := x v (List.mem_cons_self ..)
    obtain ⟨y, ys, e⟩ : ∃ y ys, xs.toList = y :: ys := by
      cases q : xs.toList with
      | nil =>
        rw [q] at i
        cases i
        exact absurd rfl hn
      | cons y ys => exact ⟨y, ys, rfl⟩
    obtain ⟨m, t, hy⟩ := i.all y (by rw [e]; exact List.mem_cons_self ..)
    refine ⟨y :: fs, PySem.W.KatTups.cons ho hc hdt ?_ k, by simp [hl], ?_⟩
    · have z := congrArg (fun l : List Value => l[0]?) e
      simpa using z
    · intro f hf
      rcases List.mem_cons.mp hf with rfl | hf
      · exact ⟨m, t, hy⟩
      · exact hi f hf
theorem tups_cmp {vs : List Value} {k : Value → List Int} (hp : ∀ v ∈ vs, NeT s.heap v (k v)) : Cmp prog w A s (tuples' true) (fun p => p.1 ∈ vs) (lt2 fun v u => lexI (k v) (k u)) := by
  intro p q hm hm'
  obtain ⟨⟨a, xs, e, ⟨o, ho, hc, n, hd⟩, i⟩, _⟩ := hp _ hm
  obtain ⟨⟨a', ys, e', ⟨o', ho', hc', n', hd'⟩, i'⟩, _⟩ := hp _ hm'
  show wpAny (model prog w) A (keyLt' (tuples' true) p.1 q.1) (fun r s' => s' = s ∧ r = lexI (k p.1) (k q.1)) (fun _ _ => False) s
  generalize k p.1 = ns at i ⊢
  generalize k q.1 = ms at i' ⊢
  rw [e, e']
  refine PySem.W.kat_lt ho hd ho' hd' ?_
  have l1 : xs.size = ns.length := by rw [← i.length, Array.length_toList]
  have l2 : ys.size = ms.length := by rw [← i'.length, Array.length_toList]
  rw [l1, l2]
  exact kat_lex 0 i i' ⟨rfl, rfl⟩
theorem tups_sortable {a : Addr} {vs : List Value} {k : Value → List Int} (h0 : 0 < vs.length) (hp : ∀ v ∈ vs, NeT s.heap v (k v)) (ha : ∀ o, s.heap.get? a = some o → o.cls ≠ .type "tuple") : SortableO prog w A s a vs fun v u => lexI (k v) (k u) := by
  intro h' keep
  have hp' : ∀ v ∈ vs, NeT h' v (k v) := fun v hm => (hp v hm).keeps fun b o e c => keep b o (fun z => by subst z; exact ha o e c) e
  obtain ⟨fs, h1, h2, h3⟩ := firstsT vs fun v hm => ⟨_, hp' v hm⟩
  refine ⟨tuples' true, fun Q E hq => ?_, tups_cmp hp'⟩
  refine PySem.W.kat_kind (T := .type "int") h1 (by omega) (fun f hm => ?_) (by rfl) ?_
  · obtain ⟨x, t, rfl⟩ := h3 f hm
    exact PySem.W.Looks.now
  · have e : (Value.type "int" != Value.type "tuple") = true := by first | decide +kernel | rfl | decide
    rw [e]
    exact hq
theorem sorted_tupsA {l : Addr} {vs : List Value} {k : Value → List Int} {Q : Value → Shared → Prop} (hl : s.heap.IsList l vs.toArray ∨ s.heap.IsTuple l vs.toArray) (hz : vs.length ≤ sizeLine) (hp : ∀ v ∈ vs, NeT s.heap v (k v))
    (h : ∀ (h' : Heap) (d : Addr) (out : List Value), Srtd (fun v u => lexI (k v) (k u)) out → Stb (fun v u => lexI (k v) (k u)) out vs → (∀ b o, s.heap.get? b = some o → h'.get? b = some o) → s.heap.objs.size ≤ d → (∃ n, h'.get? d = some (seqObj "list" out.toArray n)) → Q (.ref d) { s with heap := h' }) :
    wpAny (model prog w) A (call (.builtin "sorted") [.ref l]) Q E s := by
  have hS : 2 ≤ vs.length → ∀ (h₁ : Heap) (a : Addr), h₁.get? a = some (seqObj "list" vs.toArray 0) → (∀ b o, s.heap.get? b = some o → b ≠ a ∧ h₁.get? b = some o) → SortableO prog w A.in1.in1 { s with heap := h₁ } a vs fun v u => lexI (k v) (k u) := fun h2 h₁ a ha kk => by
    refine tups_sortable (s := { s with heap := h₁ }) (by omega) (fun v hm => (hp v hm).keeps fun b o e _ => (kk b o e).2) fun o e => ?_
    have e' : some o = some (seqObj "list" vs.toArray 0) := e.symm.trans ha
    cases e'
    intro c
    exact absurd (Value.type.inj c) (by decide)
  have fin : ∀ out : List Value, Srtd (fun v u => lexI (k v) (k u)) out → Stb (fun v u => lexI (k v) (k u)) out vs → Q (.ref (s.heap.objs.size + 1)) { s with heap := sortedAll s.heap vs out.toArray } := fun out hs hb => h _ _ out hs hb (fun b o e => sortedAll_old e) (Nat.le_succ _) (sortedAll_at s.heap vs out.toArray)
  rcases hl with hl | hl
  · exact sorted_ord (swo_lexI k) hl hz hS fin
  · exact sorted_ordT (swo_lexI k) hl hz hS fin
end
end PySem
namespace Fx
open PySem PySem.Spec PyProof.Rows L2
abbrev ltL (k : V → List Int) (x y : V) : Bool := lexI (k x) (k y)
section
variable {X : Cx}
/-- sorted(xs), xs a list or a tuple of tuples of ints, none empty: a new list; what a tuple holds is one -/
def rSortedL (K : PySem.W.Frag) : List V → Hp → VK → Prop := fun vs H Q => ∃ (a : Addr) (xs : List V) (k : V → List Int), vs = [V.ref a] ∧ (SqL K H a xs ∨ SqT K H a xs) ∧ (∀ x ∈ xs, k x ≠ [] ∧ ∃ t, x = V.ref t ∧ SqT K H t ((k x).map V.int)) ∧
  ∀ ys p, SrtO.Srtd (ltL k) ys → ys.Perm xs → (∀ t us us', SqT K H t us → SqT K H t us' → us = us') → H p = none → Q (.ref p) (upd H p (.lst ys))
theorem cr_sortedL : CallR X (.builtin "sorted") (rSortedL X.K) := by
  intro pins s σ H vs us Q I r h
  obtain ⟨a, xs, k, rfl, hs, hx, q⟩ := h
  have inj : ∀ t us us', SqT X.K H t us → SqT X.K H t us' → us = us' := fun t us us' h1 h2 => I.tuple_inj h1 h2
  obtain ⟨u, rfl, ru⟩ := vals1 r
  obtain rfl : u = Value.ref a := ru
  obtain ⟨its, rv, hl, hz⟩ : ∃ its : List Value, Vals xs its ∧ (s.heap.IsList a its.toArray ∨ s.heap.IsTuple a its.toArray) ∧ xs.length ≤ sizeLine := by
    rcases hs with hs | hs
    · obtain ⟨its, rv, hl, hz⟩ := I.list hs
      exact ⟨its, rv, .inl hl.isList, hz⟩
    · obtain ⟨its, rv, hl, hz⟩ := I.tuple hs
      exact ⟨its, rv, .inr hl, hz⟩
  obtain ⟨e1, e2⟩ := refs_back rv fun x m => by
    obtain ⟨_, t, e, _⟩ := hx x m
    exact ⟨t, e⟩
  refine PySem.sorted_tupsA (k := fun u => k (backV u)) hl (by rw [← rv.length]; exact hz) (fun v hv => ?_) fun h' d out h1 h2 kp hd hn => ?_
  · obtain ⟨t, rfl⟩ := e2 v hv
    have hm : V.ref t ∈ xs := by rw [e1]; exact List.mem_map.mpr ⟨_, hv, rfl⟩
    obtain ⟨hne, t', e, ht⟩ := hx _ hm
    cases e
    obtain ⟨its2, r2, hT, _⟩ := I.tuple ht
    exact ⟨⟨t, its2.toArray, rfl, hT, ints_of_vals r2⟩, hne⟩
  · have h3 : ∀ u ∈ out, ∃ a, u = Value.ref a := fun u hu => e2 u (h2.perm.mem_iff.mp hu)
    obtain ⟨n, hn⟩ := hn
    have hb : (out.map backV).Perm xs := by
      rw [e1]
      exact h2.perm.map backV
    refine ⟨.ref d, upd H d (.lst (out.map backV)), I.laid (t' := s.toks) kp hd ⟨?_, out, n, vals_back h3, hn⟩, rfl, q _ d (SrtO.srtd_map h1) hb inj (I.hok.fresh hd)⟩
    rw [hb.length_eq]
    exact hz
end
/-! ### on data -/
def tpD (ns : List Int) : D := .tup (ns.map D.int)
def tpOf : D → Option (List Int)
  | .tup ds => match intsD ds with
    | some [] => none
    | some (n :: ns) => some (n :: ns)
    | none => none
  | _ => none
def tpsOf : List D → Option (List (List Int))
  | [] => some []
  | d :: ds => match tpOf d, tpsOf ds with
    | some p, some ps => some (p :: ps)
    | _, _ => none
theorem intsD_back : ∀ {ds : List D} {ns : List Int}, intsD ds = some ns → ds = ns.map D.int := by
  intro ds
  induction ds with
  | nil =>
    intro ns h
    cases h
    rfl
  | cons d ds ih =>
    intro ns h
    cases d <;> first | (simp [intsD] at h; done) | skip
    rename_i i
    cases e : intsD ds with
    | none => simp [intsD, e] at h
    | some ms =>
      simp [intsD, e] at h
      subst h
      rw [ih e]
      rfl
theorem tpOf_eq {d : D} {p : List Int} (h : tpOf d = some p) : d = tpD p ∧ p ≠ [] := by
  unfold tpOf at h
  split at h
  · split at h
    · cases h
    · rename_i ds n ns e
      cases h
      exact ⟨by rw [intsD_back e]; rfl, by simp⟩
    · cases h
  · cases h
theorem tpsOf_eq : ∀ {ds : List D} {ps : List (List Int)}, tpsOf ds = some ps → ds = ps.map tpD ∧ ∀ p ∈ ps, p ≠ []
  | [], ps, h => by
    cases h
    exact ⟨rfl, fun p hp => by simp at hp⟩
  | d :: ds, ps, h => by
    unfold tpsOf at h
    split at h
    · rename_i p qs e1 e2
      cases h
      obtain ⟨a1, a2⟩ := tpOf_eq e1
      obtain ⟨b1, b2⟩ := tpsOf_eq e2
      refine ⟨by rw [a1, b1]; rfl, fun x hx => ?_⟩
      rcases List.mem_cons.mp hx with rfl | hx
      · exact a2
      · exact b2 x hx
    · cases h
theorem tpsOf_map : ∀ {ps : List (List Int)}, (∀ p ∈ ps, p ≠ []) → tpsOf (ps.map tpD) = some ps
  | [], _ => rfl
  | p :: ps, h => by
    have e : tpOf (tpD p) = some p := by
      cases p with
      | nil => exact absurd rfl (h [] List.mem_cons_self)
      | cons n ns =>
        show (match intsD ((n :: ns).map D.int) with
          | some [] => none
          | some (n :: ns) => some (n :: ns)
          | none => none) = _
        rw [intsD_map]
    show (match tpOf (tpD p), tpsOf (ps.map tpD) with
      | some p, some ps => some (p :: ps)
      | _, _ => none) = _
    rw [e, tpsOf_map fun q hq => h q (List.mem_cons_of_mem _ hq)]
/-- not behind -/
def leL (p q : List Int) : Prop := lexI q p = false
instance (p q : List Int) : Decidable (leL p q) := by unfold leL; infer_instance
def insL (p : List Int) : List (List Int) → List (List Int)
  | [] => [p]
  | q :: qs => if leL p q then p :: q :: qs else q :: insL p qs
def isortL : List (List Int) → List (List Int)
  | [] => []
  | p :: ps => insL p (isortL ps)
theorem insL_perm (p : List Int) : ∀ qs : List (List Int), (insL p qs).Perm (p :: qs)
  | [] => .refl _
  | q :: qs => by
    unfold insL
    split
    · exact .refl _
    · exact ((insL_perm p qs).cons q).trans (.swap p q qs)
theorem isortL_perm : ∀ ps : List (List Int), (isortL ps).Perm ps
  | [] => .refl _
  | p :: ps => (insL_perm p _).trans ((isortL_perm ps).cons p)
theorem insL_pw (p : List Int) : ∀ {qs : List (List Int)}, qs.Pairwise leL → (insL p qs).Pairwise leL
  | [], _ => by simp [insL]
  | q :: qs, h => by
    unfold insL
    split
    · rename_i hpq
      refine List.pairwise_cons.mpr ⟨fun r hr => ?_, h⟩
      rcases List.mem_cons.mp hr with rfl | hr
      · exact hpq
      · exact lexI_tr hpq ((List.pairwise_cons.mp h).1 r hr)
    · rename_i hpq
      refine List.pairwise_cons.mpr ⟨fun r hr => ?_, insL_pw p (List.pairwise_cons.mp h).2⟩
      rcases List.mem_cons.mp ((insL_perm p qs).mem_iff.mp hr) with rfl | hr
      · have : lexI q r = true := by
          unfold leL at hpq
          simpa using hpq
        exact lexI_asym this
      · exact (List.pairwise_cons.mp h).1 r hr
theorem isortL_pw : ∀ ps : List (List Int), (isortL ps).Pairwise leL
  | [] => .nil
  | p :: ps => insL_pw p (isortL_pw ps)
theorem isortL_eq {ps qs : List (List Int)} (h : qs.Perm ps) (k : qs.Pairwise leL) : qs = isortL ps :=
  List.Perm.eq_of_pairwise (fun a b _ _ h1 h2 => lexI_anti h2 h1) k (isortL_pw ps) (h.trans (isortL_perm ps).symm)
def gSortA : List D → Option S
  | [.lst ds] => match intsD ds with
    | some ns => some (.o none (.lst ((isort ns).map D.int)))
    | none => (tpsOf ds).map fun ps => .o none (.lst ((isortL ps).map tpD))
  | [.tup ds] => (tpsOf ds).map fun ps => .o none (.lst ((isortL ps).map tpD))
  | _ => none
section
variable {c : Cfg} {G H : Hp}
noncomputable def lOf (K : PySem.W.Frag) (H : Hp) (x : V) : List Int := open Classical in if h : ∃ p : List Int, p ≠ [] ∧ ∃ t, x = V.ref t ∧ SqT K H t (p.map V.int) then h.choose else []
theorem tup_at {x : V} {p : List Int} (s : ∀ a o, G a = some o → H a = some o) (h : Rp c G x (tpD p)) : ∃ t, x = V.ref t ∧ SqT c.K H t (p.map V.int) := by
  obtain ⟨t, us, rfl, ht, k⟩ := h.tupE
  refine ⟨t, rfl, ?_⟩
  have := RpAll.ints (intsD_map p) k
  rw [this] at ht
  exact SqT.up s ht
theorem lOf_at {x : V} (h : ∃ p : List Int, p ≠ [] ∧ ∃ t, x = V.ref t ∧ SqT c.K H t (p.map V.int)) : lOf c.K H x ≠ [] ∧ ∃ t, x = V.ref t ∧ SqT c.K H t ((lOf c.K H x).map V.int) := by
  unfold lOf
  rw [dif_pos h]
  exact h.choose_spec
theorem ints_inj : ∀ {p q : List Int}, p.map V.int = q.map V.int → p = q
  | [], [], _ => rfl
  | [], _ :: _, h => by simp at h
  | _ :: _, [], h => by simp at h
  | a :: p, b :: q, h => by
    simp only [List.map_cons, List.cons.injEq, V.int.injEq] at h
    rw [h.1, ints_inj h.2]
theorem lOf_eq {x : V} {p : List Int} (inj : ∀ t us us', SqT c.K H t us → SqT c.K H t us' → us = us') (hp : p ≠ []) (h : ∃ t, x = V.ref t ∧ SqT c.K H t (p.map V.int)) : lOf c.K H x = p := by
  obtain ⟨_, t, e, ht⟩ := lOf_at (c := c) ⟨p, hp, h⟩
  obtain ⟨t', e', ht'⟩ := h
  rw [e] at e'
  cases e'
  exact ints_inj (inj _ _ _ ht ht')
theorem lkeys_of (inj : ∀ t us us', SqT c.K H t us → SqT c.K H t us' → us = us') (s : ∀ a o, G a = some o → H a = some o) : ∀ {xs : List V} {ps : List (List Int)}, (∀ p ∈ ps, p ≠ []) → RpAll c G xs (ps.map tpD) → xs.map (lOf c.K H) = ps
  | [], [], _, _ => rfl
  | x :: xs, p :: ps, hn, h => by
    cases h with
    | cons h k => rw [List.map_cons, lOf_eq inj (hn p List.mem_cons_self) (tup_at s h), lkeys_of inj s (fun q hq => hn q (List.mem_cons_of_mem _ hq)) k]
  | [], p :: ps, _, h => by cases h
  | x :: xs, [], _, h => by cases h
theorem sortedL_run {Q : VK} {B : Base} {ts : En} {vs : List (Option V)} {ρ : En} {σ : L2.St} {xs : List V} {ps : List (List Int)} (hne : ∀ p ∈ ps, p ≠ []) (O : Opn c B ts vs ρ σ H G) (ka : RpAll c G xs (ps.map tpD))
    (q : ∀ v H', Rep c B (some (.o none (.lst ((isortL ps).map tpD))) :: ts) (some v :: vs) ρ σ H' → Q v H') : (∀ x ∈ xs, lOf c.K H x ≠ [] ∧ ∃ t, x = V.ref t ∧ SqT c.K H t ((lOf c.K H x).map V.int)) ∧
    ∀ ys p, SrtO.Srtd (ltL (lOf c.K H)) ys → ys.Perm xs → (∀ t us us', SqT c.K H t us → SqT c.K H t us' → us = us') → H p = none → Q (.ref p) (upd H p (.lst ys)) := by
  have each : ∀ x ∈ xs, ∃ p ∈ ps, Rp c G x (tpD p) := fun x hx => by
    obtain ⟨i, hi⟩ := List.getElem?_of_mem hx
    obtain ⟨d, e1, e2⟩ := ka.getV hi
    rw [List.getElem?_map] at e1
    obtain ⟨p, hp, rfl⟩ := Option.map_eq_some_iff.mp e1
    exact ⟨p, List.mem_of_getElem? hp, e2⟩
  refine ⟨fun x hx => ?_, fun ys p hs hp inj hn => ?_⟩
  · obtain ⟨p, hp, h⟩ := each x hx
    exact lOf_at ⟨p, hne p hp, tup_at O.sub h⟩
  · have e := lkeys_of inj O.sub hne ka
    have ey : ys.map (lOf c.K H) = isortL ps := by
      refine isortL_eq (by rw [← e]; exact hp.map _) ?_
      rw [List.pairwise_map]
      exact List.Pairwise.imp (fun {x y} h => h) hs
    refine q _ _ (O.newO hn fun H' e' => ⟨_, e', ?_⟩)
    rw [← ey]
    have go : ∀ zs : List V, (∀ z ∈ zs, z ∈ xs) → RpAll c G zs ((zs.map (lOf c.K H)).map tpD) := by
      intro zs
      induction zs with
      | nil => exact fun _ => .nil
      | cons z zs ih =>
        intro hz
        obtain ⟨p, hp, h⟩ := each z (hz z List.mem_cons_self)
        refine .cons ?_ (ih fun w hw => hz w (List.mem_cons_of_mem _ hw))
        rw [lOf_eq inj (hne p hp) (tup_at O.sub h)]
        exact h
    exact go ys fun z hz => hp.mem_iff.mp hz
theorem cd_sortA : CbDen c (fun vs H Q => rSortedI c.K vs H Q ∨ rSortedL c.K vs H Q) gSortA := by
  intro B ts vs ρ σ H Q ds us s hl r e q
  match ds, hl, r, e with
  | [.lst ds], hl, r, e =>
    obtain ⟨v, rfl, G, O, h⟩ := r.one' hl
    obtain ⟨a, xs, rfl, ha, ka⟩ := h.lstE
    have e : (match intsD ds with
      | some ns => some (S.o none (.lst ((isort ns).map D.int)))
      | none => (tpsOf ds).map fun ps => S.o none (.lst ((isortL ps).map tpD))) = some s := e
    cases e2 : intsD ds with
    | some ns =>
      rw [e2] at e
      cases e
      rw [RpAll.ints e2 ka] at ha
      refine .inl ⟨a, ns, rfl, SqL.of (O.sub _ _ ha), fun ns' p pm pw hp => ?_⟩
      rw [isort_eq pm pw]
      exact q _ _ (O.newO hp fun H' e => ⟨_, e, RpAll.ofInts _⟩)
    | none =>
      rw [e2] at e
      have e : (tpsOf ds).map (fun ps => S.o none (.lst ((isortL ps).map tpD))) = some s := e
      cases e3 : tpsOf ds with
      | none => rw [e3] at e; cases e
      | some ps =>
        rw [e3] at e
        cases e
        obtain ⟨e4, hne⟩ := tpsOf_eq e3
        rw [e4] at ka
        obtain ⟨k1, k2⟩ := sortedL_run hne O ka q
        exact .inr ⟨a, xs, _, rfl, .inl (SqL.of (O.sub _ _ ha)), k1, k2⟩
  | [.tup ds], hl, r, e =>
    obtain ⟨v, rfl, G, O, h⟩ := r.one' hl
    obtain ⟨a, xs, rfl, ha, ka⟩ := h.tupE
    have e : (tpsOf ds).map (fun ps => S.o none (.lst ((isortL ps).map tpD))) = some s := e
    cases e3 : tpsOf ds with
    | none => rw [e3] at e; cases e
    | some ps =>
      rw [e3] at e
      cases e
      obtain ⟨e4, hne⟩ := tpsOf_eq e3
      rw [e4] at ka
      obtain ⟨k1, k2⟩ := sortedL_run hne O ka q
      exact .inr ⟨a, xs, _, rfl, .inr (SqT.up O.sub ha), k1, k2⟩
end
section
variable {X : Cx} {c : Cfg}
theorem b_sortA (hK : X.K = c.K := by rfl) : QB X c "sorted" (fun vs H Q => rSortedI c.K vs H Q ∨ rSortedL c.K vs H Q) gSortA := by
  refine ⟨.inl ⟨"sorted", ?_, by decide +kernel⟩, cd_sortA⟩
  intro pins s σ H vs us Q I r h
  rcases h with h | h
  · exact cr_sortedI pins s σ H vs us Q I r (hK ▸ h)
  · exact cr_sortedL pins s σ H vs us Q I r (hK ▸ h)
end
end Fx

/-! expressions that change nothing: their value -/
namespace Fx
open PySem
theorem ok_callE {F : Fn} {fA : M (List D)} {ρ : En} {P : S → En → Prop} : OK (mCallE F fA ρ) P ↔ OK (mCall F fA ρ) P := by
  unfold mCallE mCall
  rw [ok_then, ok_then]
  have e : ∀ (ds : List D) (ρ1 : En), OK (match F (ds.map .d) with
      | .ok s _ => if bare s then .ok s ρ1 else .stuck
      | .err e _ => .err e ρ1
      | .stuck => .stuck) P ↔ OK (match F (ds.map .d) with
      | .ok s _ => if bare s then .ok s ρ1 else .stuck
      | _ => .stuck) P := by
    intro ds ρ1
    cases F (ds.map .d) with
    | ok s ρ' => exact Iff.rfl
    | err e ρ' => exact ok_err.trans ok_stuck.symm
    | stuck => exact Iff.rfl
  exact ⟨fun h => h.imp fun ds ρ1 h => (e ds ρ1).mp h, fun h => h.imp fun ds ρ1 h => (e ds ρ1).mpr h⟩
/-- a try whose body raises what is caught -/
theorem ok_try {hd : Err → Bool} {Fb Fs : M Fl} {ρ ρ' : En} {e : Err} {PF : Fl → En → Prop} (h1 : Fb ρ = .err e ρ') (h2 : hd e = true) (h : OK (Fs ρ') PF) : OK (mTry hd Fb Fs ρ) PF := by
  unfold mTry
  rw [h1]
  dsimp only
  rw [if_pos h2, ok_calm]
  exact h
theorem mSeq_nx {A R : M Fl} {ρ ρ' : En} (h : A ρ = .ok .nx ρ') : mSeq A R ρ = R ρ' := by
  unfold mSeq
  rw [h]
  rfl
theorem runF_congr {np nN : Nat} {b b' : M Fl} {args : List S} (h : b (args.map some ++ List.replicate (nN - np) none) = b' (args.map some ++ List.replicate (nN - np) none)) : runF np nN b args = runF np nN b' args := by
  unfold runF
  rw [h]
/-- what stands there has the value x and changes nothing -/
def Ev (f : M S) (ρ : En) (x : D) : Prop := OK (dv f ρ) fun y ρ1 => y = x ∧ ρ1 = ρ
def EvA (f : M (List D)) (ρ : En) (xs : List D) : Prop := OK (f ρ) fun ys ρ1 => ys = xs ∧ ρ1 = ρ
def EvB (f : M Bool) (ρ : En) (b : Bool) : Prop := OK (f ρ) fun c ρ1 => c = b ∧ ρ1 = ρ
section
variable {ρ : En} {x y z : D} {fa fb fe : M S} {fA : M (List D)} {xs : List D} {p q b : Bool} {ft fu : M Bool}
theorem Ev.dv (h : Ev fe ρ x) {P : D → En → Prop} (k : P x ρ) : OK (Fx.dv fe ρ) P := h.imp fun y ρ1 ⟨e1, e2⟩ => by rw [e1, e2]; exact k
theorem EvA.ok (h : EvA fA ρ xs) {P : List D → En → Prop} (k : P xs ρ) : OK (fA ρ) P := h.imp fun y ρ1 ⟨e1, e2⟩ => by rw [e1, e2]; exact k
theorem EvB.ok (h : EvB ft ρ b) {P : Bool → En → Prop} (k : P b ρ) : OK (ft ρ) P := h.imp fun y ρ1 ⟨e1, e2⟩ => by rw [e1, e2]; exact k
theorem ev_of (h : OK (fe ρ) fun s ρ1 => s = .d x ∧ ρ1 = ρ) : Ev fe ρ x := by
  unfold Ev
  rw [ok_dv]
  exact h.imp fun s ρ1 ⟨e1, e2⟩ => ⟨x, by rw [e1]; rfl, rfl, e2⟩
theorem ev_var (i : Nat) (e : ρ[i]? = some (some (.d x))) : Ev (mVar i) ρ x := ev_of (by rw [ok_varD e]; exact ⟨rfl, rfl⟩)
theorem ev_c : Ev (mC x) ρ x := ev_of (by rw [ok_c]; exact ⟨rfl, rfl⟩)
theorem ev_op {g : D → D → Option S} (ha : Ev fa ρ x) (hb : Ev fb ρ y) (e : g x y = some (.d z)) : Ev (mOp g fa fb) ρ z := ev_of (by
  rw [ok_op]
  exact ha.dv (hb.dv ⟨_, e, rfl, rfl⟩))
theorem ev_un {g : D → Option S} (ha : Ev fa ρ x) (e : g x = some (.d z)) : Ev (mUn g fa) ρ z := ev_of (by
  rw [ok_un]
  exact ha.dv ⟨_, e, rfl, rfl⟩)
theorem ev_lt {i j : Int} (ha : Ev fa ρ (.int i)) (hb : Ev fb ρ (.int j)) : Ev (mOp gLt fa fb) ρ (.bl (decide (i < j))) := ev_op ha hb rfl
theorem ev_le {i j : Int} (ha : Ev fa ρ (.int i)) (hb : Ev fb ρ (.int j)) : Ev (mOp gLe fa fb) ρ (.bl (decide (i ≤ j))) := ev_op ha hb rfl
theorem ev_gt {i j : Int} (ha : Ev fa ρ (.int i)) (hb : Ev fb ρ (.int j)) : Ev (mOp gGt fa fb) ρ (.bl (decide (j < i))) := ev_op ha hb rfl
theorem ev_ge {i j : Int} (ha : Ev fa ρ (.int i)) (hb : Ev fb ρ (.int j)) : Ev (mOp gGe fa fb) ρ (.bl (decide (j ≤ i))) := ev_op ha hb rfl
theorem ev_eq {i j : Int} (ha : Ev fa ρ (.int i)) (hb : Ev fb ρ (.int j)) : Ev (mOp gEq fa fb) ρ (.bl (decide (i = j))) := ev_op ha hb rfl
theorem ev_ne {i j : Int} (ha : Ev fa ρ (.int i)) (hb : Ev fb ρ (.int j)) : Ev (mOp gNe fa fb) ρ (.bl (!decide (i = j))) := ev_op ha hb (by
  obtain ⟨s, e, k⟩ := (e_neII (i := i) (j := j) (K := fun s => s = .d (.bl (!decide (i = j))))).mpr rfl
  rw [e, k])
theorem ev_isN (ha : Ev fa ρ x) : Ev (mOp gIsN fa (mC .non)) ρ (.bl (isN x)) := ev_op ha ev_c rfl
theorem ev_notN (ha : Ev fa ρ x) : Ev (mOp gNotN fa (mC .non)) ρ (.bl (!isN x)) := ev_op ha ev_c rfl
theorem eb_test (h : Ev fe ρ (.bl b)) : EvB (mTest fe) ρ b := by
  unfold EvB
  rw [ok_test]
  exact h.dv ⟨_, rfl, rfl, rfl⟩
theorem eb_not (h : EvB ft ρ b) : EvB (mNot ft) ρ (!b) := by
  unfold EvB
  rw [ok_not]
  exact h.ok ⟨rfl, rfl⟩
theorem eb_and (h : EvB ft ρ p) (k : p = true → EvB fu ρ q) : EvB (mAnd ft fu) ρ (p && q) := by
  unfold EvB
  rw [ok_and]
  refine h.ok ⟨fun e => (k e).ok ⟨by rw [e]; rfl, rfl⟩, fun e => ⟨?_, rfl⟩⟩
  cases p
  · rfl
  · exact absurd rfl e
theorem eb_or (h : EvB ft ρ p) (k : p = false → EvB fu ρ q) : EvB (mOr ft fu) ρ (p || q) := by
  unfold EvB
  rw [ok_or]
  refine h.ok ⟨fun e => ⟨by rw [e]; rfl, rfl⟩, fun e => (k (by simpa using e)).ok ⟨?_, rfl⟩⟩
  cases p
  · rfl
  · exact absurd rfl e
theorem eb_truth (h : Ev fe ρ x) (e : truD x = some b) : EvB (mTruth fe) ρ b := by
  unfold EvB
  exact ok_truth (h.dv ⟨b, e, rfl, rfl⟩)
theorem ev_and (h : Ev fa ρ (.bl p)) (k : Ev fb ρ (.bl q)) : Ev (mAndV fa fb) ρ (.bl (p && q)) := by
  unfold Ev
  rw [ok_dv, ok_andV]
  refine (eb_test h).ok ⟨fun e => ?_, fun e => ?_⟩
  · rw [← ok_dv]
    exact k.dv ⟨by rw [e]; rfl, rfl⟩
  · refine ⟨_, rfl, ?_, rfl⟩
    cases p
    · rfl
    · exact absurd rfl e
theorem ev_if (h : EvB ft ρ b) (k1 : b = true → Ev fa ρ x) (k2 : b = false → Ev fb ρ x) : Ev (mIf ft fa fb) ρ x := by
  unfold Ev
  rw [ok_dv, ok_if]
  refine h.ok ⟨fun e => ?_, fun e => ?_⟩
  · rw [← ok_dv]
    exact (k1 e).dv ⟨rfl, rfl⟩
  · rw [← ok_dv]
    exact (k2 (by simpa using e)).dv ⟨rfl, rfl⟩
theorem ea_nil : EvA aNil ρ [] := by
  unfold EvA
  rw [ok_nil]
  exact ⟨rfl, rfl⟩
theorem ea_cons (h : Ev fe ρ x) (k : EvA fA ρ xs) : EvA (aCons fe fA) ρ (x :: xs) := by
  unfold EvA
  rw [ok_cons]
  exact h.dv (k.ok ⟨rfl, rfl⟩)
theorem ev_tup (h : EvA fA ρ xs) (hs : small xs.length = true := by rfl) : Ev (mTup fA) ρ (.tup xs) := ev_of (by
  rw [ok_tup]
  exact h.ok ⟨hs, rfl, rfl⟩)
theorem ev_call {F : Fn} (h : EvA fA ρ xs) (k : OKF (F (xs.map .d)) fun s => s = .d x) : Ev (mCall F fA) ρ x := ev_of (by
  rw [ok_call]
  exact h.ok (by
    rw [okF] at k ⊢
    exact k.imp fun s _ e => by rw [e]; exact ⟨rfl, rfl, rfl⟩))
theorem ev_ixT {ds : List D} {i : Nat} (ha : Ev fa ρ (.tup ds)) (hb : Ev fb ρ (.int (i : Nat))) (e : ds[i]? = some x) : Ev (mOp gIx fa fb) ρ x := ev_op ha hb (by
  have hi := (List.getElem?_eq_some_iff.mp e).1
  obtain ⟨s, e1, k⟩ := (e_ixT (ds := ds) (i := (i : Int)) (by omega) (by omega) (K := fun s => s = .d x)).mpr (by rw [Int.toNat_natCast, e]; rfl)
  rw [e1, k])
theorem atI_nat {α : Type} {ds : List α} {i : Nat} {x : α} (e : ds[i]? = some x) : L2.atI ds (i : Int) = some x := by
  have hi := (List.getElem?_eq_some_iff.mp e).1
  obtain ⟨y, e1, e2⟩ := at_nat (xs := ds) (i := (i : Int)) (by omega) (by omega)
  rw [Int.toNat_natCast, e] at e2
  cases e2
  exact e1
theorem ixN_nat {n i : Nat} (h : i < n) : L2.ixN n (i : Int) = some i := by
  unfold L2.ixN
  first | (simp; omega) | (split <;> simp <;> omega)
/-- an element of a list in a name -/
theorem ev_ixO {i : Nat} {b : Option Nat} {ds : List D} {k : Nat} (e1 : ρ[i]? = some (some (.o b (.lst ds)))) (hb : Ev fe ρ (.int (k : Nat))) (e : ds[k]? = some x) : Ev (mIxO i fe) ρ x := ev_of (by
  have ep : peek ρ i = some (.lst ds) := by
    unfold peek
    rw [e1]
  unfold mIxO peekL
  rw [ep]
  dsimp only
  rw [if_pos rfl, ok_then]
  refine hb.dv ?_
  rw [ep]
  dsimp only
  rw [atI_nat e]
  dsimp only
  rw [ok_ok]
  exact ⟨rfl, rfl⟩)
theorem ok_gitem {i : Nat} {b : Option Nat} {ds : List D} {k : Nat} {PU : Unit → En → Prop} (e1 : ρ[i]? = some (some (.o b (.lst ds)))) (hb : Ev fe ρ (.int (k : Nat))) (hk : k < ds.length) (q : PU () (ρ.set i (some (.o b (.lst (ds.set k x)))))) : OK (gmItem i fe x ρ) PU := by
  unfold gmItem ownL
  rw [e1]
  dsimp only
  rw [if_pos rfl, ok_then]
  refine hb.dv ?_
  rw [e1]
  dsimp only
  rw [ixN_nat hk]
  dsimp only
  rw [ok_ok]
  exact q
theorem ok_appE {i : Nat} {b : Option Nat} {ds : List D} {PF : S → En → Prop} (e1 : ρ[i]? = some (some (.o b (.lst ds)))) (hb : Ev fe ρ x) (hk : ds.length ≤ 1000000) (q : PF (.d .non) (ρ.set i (some (.o b (.lst (ds ++ [x])))))) : OK (mMeth1 i gApp fe ρ) PF := by
  have hs : small (ds.length + 1) = true := by
    unfold small
    exact decide_eq_true (by omega)
  unfold mMeth1 ownL
  rw [e1]
  dsimp only
  rw [if_pos rfl, ok_then]
  refine hb.dv ?_
  rw [e1]
  dsimp only
  unfold gApp
  rw [if_pos hs]
  dsimp only
  rw [ok_ok]
  exact q
theorem ok_loop_nil {gm : D → M Unit} {F : M Fl} {PF : Fl → En → Prop} (h : PF .nx ρ) : OK (mLoop gm F [] ρ) PF := by
  unfold mLoop
  rw [ok_ok]
  exact h
theorem ok_loop_cons {gm : D → M Unit} {F : M Fl} {PF : Fl → En → Prop} {x : D} {xs : List D} (h : OK (gm x ρ) fun _ ρ1 => OK (F ρ1) fun f ρ2 => f = .nx ∧ OK (mLoop gm F xs ρ2) PF) : OK (mLoop gm F (x :: xs) ρ) PF := by
  unfold mLoop
  rw [ok_then]
  refine h.imp fun _ ρ1 h => ?_
  rw [ok_then]
  refine h.imp fun f ρ2 ⟨e, h⟩ => ?_
  subst e
  exact h
theorem set_same {α : Type} : ∀ {ds : List α} {k : Nat} {x : α}, ds[k]? = some x → ds.set k x = ds
  | [], _, _, e => by simp at e
  | a :: ds, 0, x, e => by
    simp at e
    rw [e]
    rfl
  | a :: ds, k + 1, x, e => by
    rw [List.set_cons_succ, set_same (ds := ds) (k := k) (by simpa using e)]
/-- if t and xs[k] is None: xs[k] = v -/
theorem ok_put {fv : M S} {i j k : Nat} {b : Option Nat} {ds : List D} {t : Bool} {PF : Fl → En → Prop} (hb : EvB ft ρ t) (e1 : ρ[i]? = some (some (.o b (.lst ds)))) (e2 : ρ[j]? = some (some (.d (.int (k : Nat))))) (e3 : ds[k]? = some x) (hv : Ev fv ρ y)
    (q : PF .nx (ρ.set i (some (.o b (.lst (ds.set k (if t && isN x then y else x))))))) : OK (mIfS (mAnd ft (mTest (mOp gIsN (mIxO i (mVar j)) (mC .non)))) (mAsg fv (gmItem i (mVar j))) mNx ρ) PF := by
  rw [ok_ifS]
  refine (eb_and hb fun _ => eb_test (ev_isN (ev_ixO e1 (ev_var j e2) e3))).ok ⟨fun e => ?_, fun e => ?_⟩
  · rw [ok_asg]
    refine hv.dv (ok_gitem e1 (ev_var j e2) (List.getElem?_eq_some_iff.mp e3).1 ?_)
    rw [if_pos e] at q
    exact q
  · rw [ok_nx]
    rw [if_neg e, set_same e3, set_same e1] at q
    exact q
theorem ok_varZ {i : Nat} {P : S → En → Prop} (e : ρ[i]? = some (some (.o none x))) (hc : canFz x = true) (q : P (.d x) (ρ.set i (some (.d x)))) : OK (mVar i ρ) P := by
  unfold mVar
  rw [e]
  dsimp only
  rw [if_pos hc, ok_ok]
  exact q
theorem Ev.raw (h : Ev fe ρ x) : OK (fe ρ) fun s ρ1 => toD s = some x ∧ ρ1 = ρ := by
  unfold Ev at h
  rw [ok_dv] at h
  exact h.imp fun s ρ1 ⟨x', e1, e2, e3⟩ => ⟨by rw [e1, e2], e3⟩
theorem ok_par2E {i j : Nat} {PF : Fl → En → Prop} (ha : Ev fa ρ x) (hb : Ev fb ρ y) (q : PF .nx ((ρ.set j (some (.d y))).set i (some (.d x)))) : OK (mPar2 i false j false (psCons fa (psCons fb psNil)) ρ) PF := by
  refine ok_par2 ?_
  rw [ok_psCons]
  refine ha.raw.imp fun s ρ1 ⟨e1, e2⟩ => ?_
  rw [ok_psCons, e2]
  refine hb.raw.imp fun s' ρ1 ⟨e3, e4⟩ => ?_
  rw [ok_psNil, e4]
  refine ⟨s, s', _, _, rfl, ?_, ?_, q⟩
  · unfold stS
    rw [e1]
    rfl
  · unfold stS
    rw [e3]
    rfl
theorem ev_lst (h : EvA fA ρ xs) (hs : small xs.length = true := by rfl) (hc : canFz (.lst xs) = true := by rfl) : Ev (mLst fA) ρ (.lst xs) := by
  unfold Ev
  rw [ok_dv, ok_lst]
  refine h.ok ⟨hs, .lst xs, ?_, rfl, rfl⟩
  show (if canFz (.lst xs) then some (D.lst xs) else none) = _
  rw [if_pos hc]
/-- [x for x in xs if t] -/
theorem ok_filt {k : Nat} {items : List D} {ρ0 : En} {t : D → Bool} {PL : List D → En → Prop} (hk : k < ρ0.length) (hw : ρ0.set k none = ρ0) (st : ∀ x ∈ items, EvB ft (ρ0.set k (some (.d x))) (t x)) (hs : items.length ≤ 16777216) (q : PL (items.filter t) ρ0) : OK (mComp (gmName k) ft (mVar k) [k] items [] ρ0) PL := by
  have hwipe : ∀ x, wipeE (ρ0.set k (some (.d x))) [k] = ρ0 := fun x => by
    show (ρ0.set k (some (.d x))).set k none = ρ0
    rw [List.set_set, hw]
  refine ok_comp (I := fun i a ρ => a = (items.take i).filter t ∧ ρ = ρ0) (k := 0) ⟨by simp, rfl⟩ ?_ ?_
  · rintro i x a ρ hx ⟨rfl, rfl⟩
    have hi : i < items.length := (List.getElem?_eq_some_iff.mp hx).1
    have hle : ((items.take i).filter t).length ≤ i := Nat.le_trans (List.length_filter_le _ _) (by rw [List.length_take]; omega)
    have e : (items.take (i + 1)).filter t = (items.take i).filter t ++ (if t x then [x] else []) := by
      rw [List.take_add_one, hx, List.filter_append]
      congr 1
      show List.filter t [x] = _
      rw [List.filter_cons, List.filter_nil]
    rw [ok_gname]
    refine (st x (List.mem_of_getElem? hx)).ok ⟨fun h => ?_, fun h => ?_⟩
    · refine (ev_var k (by rw [List.getElem?_set_self hk])).dv ⟨?_, ?_, hwipe x⟩
      · rw [Nat.zero_add]
        exact decide_eq_true (by omega)
      · rw [Nat.zero_add, e, if_pos h]
    · refine ⟨?_, hwipe x⟩
      rw [Nat.zero_add, e, if_neg h, List.append_nil]
  · rintro a ρ ⟨rfl, rfl⟩
    rw [Nat.zero_add, List.take_length]
    exact q
theorem ev_filt {k : Nat} {items : List D} {t : D → Bool} {fs : M S} (hk : k < ρ.length) (hw : ρ.set k none = ρ) (hf : Ev fs ρ x) (hx : itemsD x = some items) (st : ∀ x ∈ items, EvB ft (ρ.set k (some (.d x))) (t x)) (hs : items.length ≤ 16777216) : Ev (mLc (iSeq fs) (gmName k) ft (mVar k) [k]) ρ (.lst (items.filter t)) := by
  unfold Ev
  rw [ok_dv, ok_lc, ok_iseq]
  refine hf.dv ⟨_, hx, ?_⟩
  have e : wipeE ρ [k] = ρ := hw
  rw [e]
  refine ok_filt hk hw st hs ⟨_, ?_, rfl, rfl⟩
  rfl
/-- [f(x) for x in xs] -/
theorem ev_map {k : Nat} {items : List D} {f : D → D} {fs : M S} (hk : k < ρ.length) (hw : ρ.set k none = ρ) (hf : Ev fs ρ x) (hx : itemsD x = some items) (st : ∀ x ∈ items, Ev fe (ρ.set k (some (.d x))) (f x)) (hs : items.length ≤ 16777216) : Ev (mLc (iSeq fs) (gmName k) mYes fe [k]) ρ (.lst (items.map f)) := by
  unfold Ev
  rw [ok_dv, ok_lc, ok_iseq]
  refine hf.dv ⟨_, hx, ?_⟩
  have e : wipeE ρ [k] = ρ := hw
  rw [e]
  refine ok_mapA (f := f) hw (fun x hx => (st x hx).dv ⟨rfl, by rw [List.set_set, hw]⟩) (by simpa using hs) ⟨_, ?_, rfl, rfl⟩
  rfl
theorem ev_mul {i j : Int} (ha : Ev fa ρ (.int i)) (hb : Ev fb ρ (.int j)) (h : i64 j = true) : Ev (mOp gMul fa fb) ρ (.int (i * j)) := ev_op ha hb (by
  show (if (i64 i || i64 j) = true then ok1 (.int (i * j)) else none) = _
  rw [if_pos (by rw [h, Bool.or_true])]
  rfl)
theorem ev_add {i j : Int} (ha : Ev fa ρ (.int i)) (hb : Ev fb ρ (.int j)) : Ev (mOp gAdd fa fb) ρ (.int (i + j)) := ev_op ha hb rfl
theorem ev_cb {g : List D → Option S} (h : EvA fA ρ xs) (e : g xs = some (.d z)) : Ev (mCB g fA) ρ z := ev_of (by
  rw [ok_cb]
  exact h.ok ⟨_, e, rfl, rfl⟩)
theorem ev_idx {ns : List Int} {n : Int} (ha : Ev fa ρ (.lst (ns.map D.int))) (hb : Ev fb ρ (.int n)) (hm : n ∈ ns) : Ev (mIdx fa fb) ρ (.int (Rw.plc ns n : Nat)) := ev_of (ok_idx (ha.dv (hb.dv ⟨ns, n, rfl, rfl, hm, rfl, rfl⟩)))
/-- a call that makes a list -/
theorem ev_callZ {F : Fn} (h : EvA fA ρ xs) (hc : canFz x = true) (k : OKF (F (xs.map .d)) fun s => s = .o none x) : Ev (mCall F fA) ρ x := by
  unfold Ev
  rw [ok_dv, ok_call]
  refine h.ok ?_
  refine k.imp fun s e => ?_
  rw [e]
  refine ⟨rfl, x, ?_, rfl, rfl⟩
  show (if canFz x then some x else none) = _
  rw [if_pos hc]
theorem ev_callE {F : Fn} (h : EvA fA ρ xs) (k : OKF (F (xs.map .d)) fun s => s = .d x) : Ev (mCallE F fA) ρ x := by
  have c := (ev_call h k).raw
  rw [← ok_callE] at c
  unfold Ev
  rw [ok_dv]
  exact c.imp fun s ρ1 ⟨e1, e2⟩ => ⟨x, e1, rfl, e2⟩
theorem ev_slL {n : Nat} (ha : Ev fa ρ (.lst xs)) (hb : Ev fb ρ (.int (n : Nat))) : Ev (mSl fa oNone (oSome fb)) ρ (.lst (xs.take n)) := by
  have e : gSl (.lst xs) none (some ((n : Nat) : Int)) = some (.o none (.lst (xs.take n))) := by
    show some (S.o none (.lst (cutD xs none (some ((n : Nat) : Int))))) = _
    rw [cutD_to (by omega), Int.toNat_natCast]
  unfold Ev
  rw [ok_dv]
  refine ok_sl (ha.dv ?_)
  rw [ok_onone]
  exact ok_osome (hb.dv ⟨_, rfl, _, e, _, rfl, rfl, rfl⟩)
theorem ev_catL {ys : List D} (ha : Ev fa ρ (.lst xs)) (hb : Ev fb ρ (.lst ys)) (hs : small (xs.length + ys.length) = true) : Ev (mOp gAdd fa fb) ρ (.lst (xs ++ ys)) := by
  unfold Ev
  rw [ok_dv, ok_op]
  refine ha.dv (hb.dv ⟨.o none (.lst (xs ++ ys)), ?_, _, rfl, rfl, rfl⟩)
  show (if small (xs.length + ys.length) then some (S.o none (.lst (xs ++ ys))) else none) = _
  rw [if_pos hs]
theorem ev_eqNil (h : Ev fa ρ (.lst xs)) (hp : pl60 (.lst xs) = true) : Ev (mOp gEq fa (mLst aNil)) ρ (.bl xs.isEmpty) := ev_op h (ev_lst ea_nil) (by
  unfold gEq
  rw [hp]
  cases xs <;> rfl)
theorem ev_neNil (h : Ev fa ρ (.lst xs)) (hp : pl60 (.lst xs) = true) : Ev (mOp gNe fa (mLst aNil)) ρ (.bl (!xs.isEmpty)) := ev_op h (ev_lst ea_nil) (by
  unfold gNe
  rw [hp]
  cases xs <;> rfl)
end
end Fx

/-! a dict whose values are lists that change: d = {k: [..] for ..}, d[k].append(x), d[k].pop(), frozen when it is read -/
namespace Fx
open PySem PySem.Spec PyProof.Rows L2
open C8 (Cal Mak pe_c pe_mk)
theorem valV_ix : ∀ {kvs : List (Key × V)} {k : Key} {i : Nat} {p : Key × V}, keyAt (kvs.map fun p => keyD p.1) (keyD k) = some i → kvs[i]? = some p → valV kvs k = some p.2
  | [], _, _, _, e, _ => by simp [keyAt] at e
  | q :: r, k, i, p, e, ep => by
    unfold keyAt at e
    rw [List.map_cons, List.findIdx?_cons] at e
    by_cases hk : keyEq (keyD k) (keyD q.1) = true
    · rw [hk] at e
      simp at e
      subst e
      rw [keyEq_keyD, decide_eq_true_eq] at hk
      simp at ep
      subst ep
      unfold valV
      rw [List.find?_cons]
      simp [hk]
    · have hk' : keyEq (keyD k) (keyD q.1) = false := by simpa using hk
      rw [hk'] at e
      simp at e
      obtain ⟨j, ej, rfl⟩ := e
      have hne : q.1 ≠ k := fun z => by
        rw [z, keyEq_keyD] at hk
        simp at hk
      have := valV_ix (k := k) (i := j) (kvs := r) (p := p) (by unfold keyAt; rw [List.findIdx?_map]; exact ej) (by simpa using ep)
      unfold valV at this ⊢
      rw [List.find?_cons]
      simp only [hne, decide_false]
      exact this
section
variable {c : Cfg} {B : Base} {G G' H H' : Hp} {own own' : Owns} {ts : En} {vs : List (Option V)} {ρ : En} {σ : L2.St}
theorem LsAll.get : ∀ {bs : List Addr} {dss : List (List D)} {n : Nat} {ds : List D}, LsAll c G H bs dss → dss[n]? = some ds → ∃ b us, bs[n]? = some b ∧ H b = some (.lst us) ∧ RpAll c G us ds
  | _, _, _, _, .nil, e => by simp at e
  | _, _, 0, _, .cons h k _, e => by simp at e; subst e; exact ⟨_, _, rfl, h, k⟩
  | _, _, n + 1, _, .cons _ _ l, e => by
    obtain ⟨b, us, e1, e2⟩ := LsAll.get (n := n) l (by simpa using e)
    exact ⟨b, us, by simpa using e1, e2⟩
theorem LsAll.put {b : Addr} {us : List V} {es : List D} (hb : H' b = some (.lst us)) (k : RpAll c G us es) (hh : ∀ q, q ≠ b → H' q = H q) : ∀ {bs : List Addr} {dss : List (List D)} {n : Nat}, LsAll c G H bs dss → bs[n]? = some b → bs.Nodup → LsAll c G H' bs (dss.set n es)
  | _, _, _, .nil, e, _ => by simp at e
  | b0 :: bs, ds0 :: dss, 0, .cons _ _ l, e, nd => by
    simp at e
    subst e
    rw [List.nodup_cons] at nd
    exact .cons hb k (l.mono (fun _ _ e => e) fun p hp => hh p fun z => nd.1 (z ▸ hp))
  | b0 :: bs, ds0 :: dss, n + 1, .cons h0 k0 l, e, nd => by
    rw [List.nodup_cons] at nd
    have e : bs[n]? = some b := by simpa using e
    have ne : b0 ≠ b := fun z => nd.1 (z ▸ List.mem_of_getElem? e)
    exact .cons ((hh _ ne).trans h0) k0 (LsAll.put hb k hh l e nd.2)
theorem LsAll.length : ∀ {bs : List Addr} {dss : List (List D)}, LsAll c G H bs dss → bs.length = dss.length
  | _, _, .nil => rfl
  | _, _, .cons _ _ l => by rw [List.length_cons, List.length_cons, LsAll.length l]
theorem LsAll.snoc {b : Addr} {us : List V} {ds : List D} (hb : H b = some (.lst us)) (k : RpAll c G us ds) : ∀ {bs : List Addr} {dss : List (List D)}, LsAll c G H bs dss → LsAll c G H (bs ++ [b]) (dss ++ [ds])
  | _, _, .nil => .cons hb k .nil
  | _, _, .cons h0 k0 l => .cons h0 k0 (LsAll.snoc hb k l)
theorem map_ref_inj : ∀ {xs ys : List Addr}, xs.map V.ref = ys.map V.ref → xs = ys
  | [], [], _ => rfl
  | [], _ :: _, e => by simp at e
  | _ :: _, [], e => by simp at e
  | x :: xs, y :: ys, e => by
    rw [List.map_cons, List.map_cons, List.cons.injEq] at e
    obtain ⟨e1, e2⟩ := e
    cases e1
    rw [map_ref_inj e2]
theorem QCell.same {a : Addr} {ks ks' : List D} {dss dss' : List (List D)} {os os' : Owns} (h : QCell c G H a ks dss os) (h' : QCell c G' H a ks' dss' os') : os = os' := by
  obtain ⟨kvs, bs, rfl, h1, _, h3, _⟩ := h
  obtain ⟨kvs', bs', rfl, h1', _, h3', _⟩ := h'
  rw [h1] at h1'
  cases h1'
  rw [h3] at h3'
  rw [map_ref_inj h3']
theorem Sl.ndQ {ks : List D} {dss : List (List D)} {a : Addr} {os : Owns} : ∀ {es : En} {vs : List (Option V)} {own : Owns} {i : Nat}, Sl c B G H es vs own → own.Nodup → es[i]? = some (some (S.q ks dss)) → vs[i]? = some (some (V.ref a)) → QCell c G H a ks dss os → os.Nodup := by
  intro es
  induction es with
  | nil => intro vs own i _ _ e; simp at e
  | cons s es ih =>
    intro vs own i h nd e ev hq
    cases h with
    | skip k =>
      cases i with
      | zero => simp at e
      | succ i => exact ih k nd (by simpa using e) (by simpa using ev) hq
    | d _ k =>
      cases i with
      | zero => simp at e
      | succ i => exact ih k nd (by simpa using e) (by simpa using ev) hq
    | o _ _ k =>
      cases i with
      | zero => simp at e
      | succ i => exact ih k (List.nodup_cons.mp nd).2 (by simpa using e) (by simpa using ev) hq
    | q hq' k =>
      cases i with
      | zero =>
        simp at e ev
        obtain ⟨rfl, rfl⟩ := e
        subst ev
        have := hq'.same hq
        subst this
        exact (List.nodup_append.mp nd).1
      | succ i => exact ih k (List.nodup_append.mp nd).2.1 (by simpa using e) (by simpa using ev) hq
/-- a list within is written -/
theorem Sl.writeQ : ∀ {es : En} {vs : List (Option V)} {own : Owns} {i : Nat} {ks : List D} {dss dss' : List (List D)} {b : Addr}, own.Nodup → Sl c B G H es vs own → es[i]? = some (some (.q ks dss)) → (∀ a os, vs[i]? = some (some (.ref a)) → QCell c G H a ks dss os → os.Nodup → b ∈ os ∧ QCell c G H' a ks dss' os) → (∀ q, q ≠ b → H' q = H q) →
    Sl c B G H' (es.set i (some (.q ks dss'))) vs own := by
  intro es
  induction es with
  | nil => intro vs own i ks dss dss' b _ _ e; simp at e
  | cons s es ih =>
    intro vs own i ks dss dss' b nd h e f hh
    have rest : ∀ {i : Nat} {vs : List (Option V)} {own : Owns}, own.Nodup → Sl c B G H es vs own → es[i]? = some (some (S.q ks dss)) → (∀ a os, vs[i]? = some (some (V.ref a)) → QCell c G H a ks dss os → os.Nodup → b ∈ os ∧ QCell c G H' a ks dss' os) → b ∈ own := fun nd k e f => by
      obtain ⟨a, os, h1, h2, h3⟩ := k.getQ e
      exact h3 _ (f a os h1 h2 (k.ndQ nd e h1 h2)).1
    cases h with
    | skip k =>
      cases i with
      | zero => simp at e
      | succ i => exact .skip (ih nd k (by simpa using e) (by simpa using f) hh)
    | d hr k =>
      cases i with
      | zero => simp at e
      | succ i => exact .d hr (ih nd k (by simpa using e) (by simpa using f) hh)
    | @o a' b' x' _ _ own ho hb k =>
      rw [List.nodup_cons] at nd
      cases i with
      | zero => simp at e
      | succ i =>
        have hbm := rest (i := i) nd.2 k (by simpa using e) (by simpa using f)
        exact .o (ho.mono (fun _ _ e => e) (hh _ fun z : a' = b => nd.1 (by rw [z]; exact hbm))) hb (ih nd.2 k (by simpa using e) (by simpa using f) hh)
    | @q a' ks' dss2 _ _ qs own ho k =>
      have n0 := List.nodup_append.mp nd
      cases i with
      | zero =>
        simp at e
        obtain ⟨rfl, rfl⟩ := e
        obtain ⟨hbm, hq⟩ := f a' qs rfl ho n0.1
        exact .q hq (k.mono (fun _ _ e => e) fun p hp => hh _ fun z => n0.2.2 b hbm p hp z.symm)
      | succ i =>
        have hbm := rest (i := i) n0.2.1 k (by simpa using e) (by simpa using f)
        exact .q (ho.mono (fun _ _ e => e) fun p hp => hh _ fun z => n0.2.2 p hp b hbm z) (ih n0.2.1 k (by simpa using e) (by simpa using f) hh)
/-- a dict of lists stays from here on -/
theorem Sl.fzQ : ∀ {es : En} {vs : List (Option V)} {own : Owns} {i : Nat} {ks : List D} {dss : List (List D)} {x : D} {a : Addr} {os : Owns}, own.Nodup → Sl c B G H es vs own → es[i]? = some (some (.q ks dss)) → vs[i]? = some (some (.ref a)) → QCell c G H a ks dss os → Rp c G (.ref a) x →
    ∃ own', Sl c B G H (es.set i (some (.d x))) vs own' ∧ (∀ q ∈ own', q ∈ own ∧ q ∉ os) ∧ own'.Nodup := by
  intro es
  induction es with
  | nil => intro vs own i ks dss x a os _ _ e; simp at e
  | cons s es ih =>
    intro vs own i ks dss x a os nd h e ev hq hr
    cases h with
    | skip k =>
      cases i with
      | zero => simp at e
      | succ i =>
        obtain ⟨own', h1, h2, h3⟩ := ih nd k (by simpa using e) (by simpa using ev) hq hr
        exact ⟨own', .skip h1, h2, h3⟩
    | d hh k =>
      cases i with
      | zero => simp at e
      | succ i =>
        obtain ⟨own', h1, h2, h3⟩ := ih nd k (by simpa using e) (by simpa using ev) hq hr
        exact ⟨own', .d hh h1, h2, h3⟩
    | @o a' b' x' _ _ own hh hb k =>
      rw [List.nodup_cons] at nd
      cases i with
      | zero => simp at e
      | succ i =>
        have e' : es[i]? = some (some (.q ks dss)) := by simpa using e
        obtain ⟨a2, os2, e2, hq2, m2⟩ := k.getQ e'
        have ea : a2 = a := by
          have : _ = some (some (V.ref a)) := (by simpa using ev)
          rw [this] at e2
          cases e2
          rfl
        subst ea
        have eo := hq2.same hq
        subst eo
        obtain ⟨own', h1, h2, h3⟩ := ih nd.2 k e' (by simpa using ev) hq hr
        refine ⟨a' :: own', .o hh hb h1, fun q hq' => ?_, List.nodup_cons.mpr ⟨fun hm => nd.1 (h2 a' hm).1, h3⟩⟩
        rcases List.mem_cons.mp hq' with rfl | hq'
        · exact ⟨List.mem_cons_self, fun z => nd.1 (m2 _ z)⟩
        · exact ⟨List.mem_cons_of_mem _ (h2 q hq').1, (h2 q hq').2⟩
    | @q a' ks' dss2 _ _ qs own hh k =>
      have n0 := List.nodup_append.mp nd
      cases i with
      | zero =>
        simp at e ev
        obtain ⟨rfl, rfl⟩ := e
        subst ev
        have eo := hh.same hq
        subst eo
        exact ⟨own, .d hr k, fun q hq' => ⟨List.mem_append_right _ hq', fun z => n0.2.2 q z q hq' rfl⟩, n0.2.1⟩
      | succ i =>
        have e' : es[i]? = some (some (.q ks dss)) := by simpa using e
        obtain ⟨a2, os2, e2, hq2, m2⟩ := k.getQ e'
        have ea : a2 = a := by
          have : _ = some (some (V.ref a)) := (by simpa using ev)
          rw [this] at e2
          cases e2
          rfl
        subst ea
        have eo := hq2.same hq
        subst eo
        obtain ⟨own', h1, h2, h3⟩ := ih n0.2.1 k e' (by simpa using ev) hq hr
        refine ⟨qs ++ own', .q hh h1, fun q hq' => ?_, nodup_sub nd (fun p hp => (h2 p hp).1) h3⟩
        rcases List.mem_append.mp hq' with hq' | hq'
        · exact ⟨List.mem_append_left _ hq', fun z => n0.2.2 q hq' q (m2 _ z) rfl⟩
        · exact ⟨List.mem_append_right _ (h2 q hq').1, (h2 q hq').2⟩
theorem OkB.freezeL {os : Owns} (k : OkB c B G H own) (hp : ∀ p ∈ os, p ∈ own ∧ ∃ u, H p = some u ∧ isTbl u = false) (h1 : ∀ q ∈ own', q ∈ own ∧ q ∉ os) (h2 : own'.Nodup) : OkB c B (fun x => if x ∈ os then H x else G x) H own' := by
  refine ⟨fun a u e => ?_, fun a u e => ?_, h2, fun q hq => ?_, k.tabs⟩
  · by_cases ha : a ∈ os
    · simp only [ha, if_true] at e
      exact e
    · simp only [ha, if_false] at e
      exact k.sub a u e
  · by_cases ha : a ∈ os
    · simp only [ha, if_true] at e
      obtain ⟨_, u', e1, e2⟩ := hp a ha
      rw [e1] at e
      cases e
      exact e2
    · simp only [ha, if_false] at e
      exact k.notbl a u e
  · obtain ⟨m, n⟩ := h1 q hq
    obtain ⟨o1, o2⟩ := k.out q m
    simp only [n, if_false]
    exact ⟨o1, o2⟩
theorem LsAll.all : ∀ {bs : List Addr} {dss : List (List D)}, LsAll c G H bs dss → ∀ {G' : Hp}, (∀ a o, G a = some o → G' a = some o) → (∀ b ∈ bs, G' b = H b) → RpAll c G' (bs.map V.ref) (dss.map D.lst)
  | _, _, .nil, _, _, _ => .nil
  | _, _, .cons h k l, G', s, e => .cons (.lst ((e _ List.mem_cons_self).trans h) (k.mono s)) (LsAll.all l s fun b hb => e b (List.mem_cons_of_mem _ hb))
theorem Rep.fzQ {i : Nat} {ks : List D} {dss : List (List D)} (e : ρ[i]? = some (some (.q ks dss))) (r : Rep c B ts vs ρ σ H) : Rep c B ts vs (ρ.set i (some (.d (.dct ks (dss.map D.lst))))) σ H := by
  obtain ⟨G, o1, o2, k, h1, h2⟩ := r
  obtain ⟨a, os, ev, hq, hos⟩ := h2.getQ e
  have nd := List.nodup_append.mp k.nd
  have s : ∀ b u, G b = some u → (if b ∈ os then H b else G b) = some u := fun b u eb => by
    by_cases hb : b ∈ os
    · rw [(k.out b (List.mem_append_right _ (hos b hb))).1] at eb
      cases eb
    · rw [if_neg hb]
      exact eb
  have hr : Rp c (fun x => if x ∈ os then H x else G x) (.ref a) (.dct ks (dss.map D.lst)) := by
    obtain ⟨kvs, bs, rfl, q1, rfl, q3, q4⟩ := id hq
    refine .dct (kvs := kvs) ?_ ?_
    · simp only [List.mem_cons_self, if_true]
      exact q1
    · rw [q3]
      refine q4.all s fun b hb => ?_
      simp only [List.mem_cons_of_mem a hb, if_true]
  obtain ⟨own', g1, g2, g3⟩ := Sl.fzQ (B := B) (x := .dct ks (dss.map D.lst)) nd.2.1 (h2.mono s fun _ _ => rfl) e ev (hq.mono s fun _ _ => rfl) hr
  have cells : ∀ p ∈ os, ∃ u, H p = some u ∧ isTbl u = false := fun p hp => by
    obtain ⟨u, e1, e2⟩ := hq.at_ p hp
    refine ⟨u, e1, ?_⟩
    cases u <;> first | rfl | cases e2
  refine ⟨fun x => if x ∈ os then H x else G x, o1, own', k.freezeL (os := os) (fun p hp => ⟨List.mem_append_right _ (hos p hp), cells p hp⟩) (fun q hq' => ?_) ?_, h1.mono s fun _ _ => rfl, g1⟩
  · rcases List.mem_append.mp hq' with hq' | hq'
    · exact ⟨List.mem_append_left _ hq', fun z => nd.2.2 q hq' q (hos q z) rfl⟩
    · exact ⟨List.mem_append_right _ (g2 q hq').1, (g2 q hq').2⟩
  · rw [List.nodup_append]
    exact ⟨nd.1, g3, fun x hx y hy => nd.2.2 x hx y (g2 y hy).1⟩
end
/-- a name that holds a dict of lists, read: it stays from here on -/
def mVarQ (i : Nat) : M S := fun ρ => match ρ[i]? with
  | some (some (.q ks dss)) => .ok (.d (.dct ks (dss.map D.lst))) (ρ.set i (some (.d (.dct ks (dss.map D.lst)))))
  | _ => mVar i ρ
def isQ (ρ : En) (i : Nat) : Bool := match ρ[i]? with
  | some (some (.q _ _)) => true
  | _ => false
/-- d[k].append(x), x a name -/
def mMethQ1 (i : Nat) (fk : M S) (g : List D → D → Option (D × List D)) (j : Nat) : M S := fun ρ => if isQ ρ i then (dv fk ρ).then fun k ρ1 => match ρ1[i]?, ρ1[j]? with
    | some (some (.q ks dss)), some (some (.d y)) => if isKey k then match keyAt ks k with
        | some n => match dss[n]? with
          | some ds => match g ds y with
            | some (z, es) => .ok (.d z) (ρ1.set i (some (.q ks (dss.set n es))))
            | none => .stuck
          | none => .stuck
        | none => .stuck
      else .stuck
    | _, _ => .stuck
  else .stuck
/-- d[k].pop() -/
def mMethQ0 (i : Nat) (fk : M S) (g : List D → Option (D × List D)) : M S := fun ρ => if isQ ρ i then (dv fk ρ).then fun k ρ1 => match ρ1[i]? with
    | some (some (.q ks dss)) => if isKey k then match keyAt ks k with
        | some n => match dss[n]? with
          | some ds => match g ds with
            | some (z, es) => .ok (.d z) (ρ1.set i (some (.q ks (dss.set n es))))
            | none => .stuck
          | none => .stuck
        | none => .stuck
      else .stuck
    | _ => .stuck
  else .stuck
section
variable {c : Cfg} {W : WX} {B : Base} {ts : En} {vs : List (Option V)} {ρ : En} {σ : L2.St} {H : Hp} {tk : TE} {fk : M S}
theorem den_varQ {i : Nat} : Den c W (tVar i) (mVarQ i) := by
  intro B ts vs ρ σ H Q r h
  unfold mVarQ at h
  split at h
  · rename_i ks dss e
    have r1 := r.fzQ e
    have hlt := (List.getElem?_eq_some_iff.mp e).1
    obtain ⟨v, e1, r2⟩ := r1.var (i := i) (x := .dct ks (dss.map D.lst)) (by rw [List.getElem?_set_self hlt])
    exact ⟨v, e1, h v H r2⟩
  · exact den_var B ts vs ρ σ H Q r h
theorem isQ_at {i : Nat} (h : isQ ρ i = true) (r : Rep c B ts vs ρ σ H) : ∃ a, σ[i]? = some (some (.ref a)) := by
  unfold isQ at h
  split at h
  · rename_i ks dss e
    obtain ⟨a, ev, _⟩ := r.varQ e
    exact ⟨a, ev⟩
  · cases h
/-- the list at a key, now -/
theorem atQ {G : Hp} {os : Owns} {ks : List D} {dss : List (List D)} {a : Addr} {k0 : Key} {n : Nat} {ds : List D} (hq : QCell c G H a ks dss os) (e1 : keyAt ks (keyD k0) = some n) (e2 : dss[n]? = some ds) :
    ∃ kvs b us bs, H a = some (.dK kvs) ∧ valV kvs k0 = some (.ref b) ∧ H b = some (.lst us) ∧ RpAll c G us ds ∧ os = a :: bs ∧ bs[n]? = some b := by
  obtain ⟨kvs, bs, rfl, q1, rfl, q3, q4⟩ := hq
  obtain ⟨b, us, f1, f2, f3⟩ := q4.get e2
  have : (kvs.map (·.2))[n]? = some (V.ref b) := by
    rw [q3, List.getElem?_map, f1]
    rfl
  rw [List.getElem?_map] at this
  obtain ⟨p, ep, e3⟩ := Option.map_eq_some_iff.mp this
  refine ⟨kvs, b, us, bs, q1, ?_, f2, f3, rfl, f1⟩
  rw [valV_ix e1 ep, e3]
theorem den_methQ1 {i j : Nat} {r : V → List V → Hp → VK → Prop} {g : List D → D → Option (D × List D)} (hm : MthDen c r g) (h : Den c W tk fk) : Den c W (tBM c.K "list" r (tDGet (tVar i) tk) (tCons (tVar j) tNil)) (mMethQ1 i fk g j) := fun B ts vs ρ σ H Q rp q => by
  unfold mMethQ1 at q
  split at q
  · rename_i ho
    obtain ⟨a, ev⟩ := isQ_at ho rp
    rw [post_then] at q
    refine ⟨.ref a, ev, h.dv rp (q.imp1 fun k ρ1 q1 v H1 r1 => ?_)⟩
    split at q1
    · rename_i ks dss y e1 e2
      split at q1
      · rename_i hk
        split at q1
        · rename_i n en
          split at q1
          · rename_i ds ed
            split at q1
            · rename_i z es eg
              obtain ⟨G, o1, o2, kk, h1, h2⟩ := id r1
              cases h1 with
              | d hv h1 =>
                obtain ⟨k0, rfl, rfl⟩ := key_of hv hk
                obtain ⟨a', os, ev', hq, hos⟩ := h2.getQ e1
                rw [ev] at ev'
                cases ev'
                obtain ⟨kvs, b, us, bs, f1, f2, f3, f4, f5, f6⟩ := atQ hq en ed
                obtain ⟨u, eu, hu⟩ := h2.getD e2
                have hbm : b ∈ os := by
                  rw [f5]
                  exact List.mem_cons_of_mem _ (List.mem_of_getElem? f6)
                have nd := List.nodup_append.mp kk.nd
                refine ⟨a, .ref b, rfl, .inl ⟨kvs, k0, .inl f1, rfl, f2.symm⟩, .inl ⟨rfl, us, SqL.of f3⟩, u, eu, hm G H1 Q b us ds y z u es kk.sub f3 f4 hu eg fun w us2 hw hk2 => q1 w _ ?_⟩
                refine ⟨G, o1, o2, kk.write (List.mem_append_right _ (hos b hbm)) f3 rfl, .d hw (h1.mono (fun _ _ e => e) fun q hq' => upd_ne fun z => nd.2.2 q hq' b (hos b hbm) z), ?_⟩
                refine h2.writeQ (b := b) nd.2.1 e1 (fun a2 os2 ev2 hq2 nd2 => ?_) fun q hq' => upd_ne hq'
                rw [ev] at ev2
                cases ev2
                have eo := hq2.same hq
                subst eo
                refine ⟨hbm, ?_⟩
                obtain ⟨kvs', bs', e0, g1, g2, g3, g4⟩ := hq2
                rw [f5, List.cons.injEq] at e0
                obtain ⟨_, rfl⟩ := e0
                rw [f5, List.nodup_cons] at nd2
                refine ⟨kvs', bs, f5, ?_, g2, g3, ?_⟩
                · rw [upd_ne fun z : a = b => nd2.1 (by rw [z]; exact List.mem_of_getElem? f6)]
                  exact g1
                · exact g4.put upd_same hk2 (fun q hq' => upd_ne hq') f6 nd2.2
            · exact q1.elim
          · exact q1.elim
        · exact q1.elim
      · exact q1.elim
    · exact q1.elim
  · exact q.elim
theorem den_methQ0 {i : Nat} {r : V → List V → Hp → VK → Prop} {g : List D → Option (D × List D)} (hm : Mth0Den c r g) (h : Den c W tk fk) : Den c W (tBM0 c.K "list" r (tDGet (tVar i) tk)) (mMethQ0 i fk g) := fun B ts vs ρ σ H Q rp q => by
  unfold mMethQ0 at q
  split at q
  · rename_i ho
    obtain ⟨a, ev⟩ := isQ_at ho rp
    rw [post_then] at q
    refine ⟨.ref a, ev, h.dv rp (q.imp1 fun k ρ1 q1 v H1 r1 => ?_)⟩
    split at q1
    · rename_i ks dss e1
      split at q1
      · rename_i hk
        split at q1
        · rename_i n en
          split at q1
          · rename_i ds ed
            split at q1
            · rename_i z es eg
              obtain ⟨G, o1, o2, kk, h1, h2⟩ := id r1
              cases h1 with
              | d hv h1 =>
                obtain ⟨k0, rfl, rfl⟩ := key_of hv hk
                obtain ⟨a', os, ev', hq, hos⟩ := h2.getQ e1
                rw [ev] at ev'
                cases ev'
                obtain ⟨kvs, b, us, bs, f1, f2, f3, f4, f5, f6⟩ := atQ hq en ed
                have hbm : b ∈ os := by
                  rw [f5]
                  exact List.mem_cons_of_mem _ (List.mem_of_getElem? f6)
                have nd := List.nodup_append.mp kk.nd
                refine ⟨a, .ref b, rfl, .inl ⟨kvs, k0, .inl f1, rfl, f2.symm⟩, .inl ⟨rfl, us, SqL.of f3⟩, hm G H1 Q b us ds z es f3 f4 eg fun w us2 hw hk2 => q1 w _ ?_⟩
                refine ⟨G, o1, o2, kk.write (List.mem_append_right _ (hos b hbm)) f3 rfl, .d hw (h1.mono (fun _ _ e => e) fun q hq' => upd_ne fun z => nd.2.2 q hq' b (hos b hbm) z), ?_⟩
                refine h2.writeQ (b := b) nd.2.1 e1 (fun a2 os2 ev2 hq2 nd2 => ?_) fun q hq' => upd_ne hq'
                rw [ev] at ev2
                cases ev2
                have eo := hq2.same hq
                subst eo
                refine ⟨hbm, ?_⟩
                obtain ⟨kvs', bs', e0, g1, g2, g3, g4⟩ := hq2
                rw [f5, List.cons.injEq] at e0
                obtain ⟨_, rfl⟩ := e0
                rw [f5, List.nodup_cons] at nd2
                refine ⟨kvs', bs, f5, ?_, g2, g3, ?_⟩
                · rw [upd_ne fun z : a = b => nd2.1 (by rw [z]; exact List.mem_of_getElem? f6)]
                  exact g1
                · exact g4.put upd_same hk2 (fun q hq' => upd_ne hq') f6 nd2.2
            · exact q1.elim
          · exact q1.elim
        · exact q1.elim
      · exact q1.elim
    · exact q1.elim
  · exact q.elim
theorem Rep.insQ {st : List D} {sv : List V} {p : Addr} (hl : sv.length = st.length) (r : Rep c B (tmp st ++ ts) (tmv sv ++ vs) ρ σ H) (hp : H p = none) :
    Rep c B (tmp st ++ (some (.q [] []) :: ts)) (tmv sv ++ (some (.ref p) :: vs)) ρ σ (upd H p (.dK [])) := by
  obtain ⟨G, o1, o2, k, h1, h2⟩ := r
  obtain ⟨a1, a2⟩ := h1.tmp hl
  have ow := own_new (o := .dK []) k hp
  exact ⟨G, [p] ++ o1, o2, k.allocO hp, a1.tmpS (.q ⟨[], [], rfl, upd_same, rfl, rfl, .nil⟩ (a2.mono (fun _ _ e => e) fun q hq => ow q (List.mem_append_left _ hq))), h2.mono (fun _ _ e => e) fun q hq => ow q (List.mem_append_right _ hq)⟩
theorem Rep.putQ {st ks ds : List D} {dss : List (List D)} {sv : List V} {p : Addr} {v : V} {k0 : Key} (hl : sv.length = st.length) (hk : ks.any (keyEq (keyD k0)) = false) (r : Rep c B (some (.o none (.lst ds)) :: (tmp st ++ (some (.q ks dss) :: ts))) (some v :: (tmv sv ++ (some (.ref p) :: vs))) ρ σ H) :
    ∃ kvs, H p = some (.dK kvs) ∧ kvs.length = ks.length ∧ Rep c B (tmp st ++ (some (.q (ks ++ [keyD k0]) (dss ++ [ds])) :: ts)) (tmv sv ++ (some (.ref p) :: vs)) ρ σ (upd H p (.dK (putK kvs k0 v))) := by
  obtain ⟨G, o1, o2, k, h1, h2⟩ := r
  cases h1 with
  | @o b _ _ _ _ own1 hc hb h1 =>
    obtain ⟨us, eb, kb⟩ := hc
    obtain ⟨a1, a2⟩ := h1.tmp hl
    cases a2 with
    | @q _ _ _ _ _ os own2 hq a2 =>
      obtain ⟨kvs, bs, rfl, e, rfl, e3, l⟩ := hq
      have nd := k.nd
      rw [List.cons_append, List.nodup_cons] at nd
      obtain ⟨nb, nd⟩ := nd
      rw [List.append_assoc, List.cons_append, List.nodup_cons] at nd
      obtain ⟨np, nd⟩ := nd
      rw [← List.append_assoc] at np nd
      have nbp : b ≠ p := fun z => nb (by rw [z]; simp)
      have ne : ∀ q, q ≠ p → upd H p (.dK (putK kvs k0 (V.ref b))) q = H q := fun q hq => upd_ne hq
      refine ⟨kvs, e, by rw [List.length_map], G, (p :: (bs ++ [b])) ++ own2, o2, ?_, a1.tmpS (.q ⟨putK kvs k0 (.ref b), bs ++ [b], rfl, upd_same, ?_, ?_, ?_⟩ (a2.mono (fun _ _ e => e) fun q hq => ne q fun z => np (z ▸ (by simp [hq])))), h2.mono (fun _ _ e => e) fun q hq => ne q fun z => np (z ▸ (by simp [hq]))⟩
      · refine (k.write (p := p) (by simp) e rfl).subO (fun q hq => ?_) ?_
        · simp only [List.mem_append, List.mem_cons, List.not_mem_nil, or_false] at hq ⊢
          rcases hq with ((rfl | hq | rfl) | hq) | hq
          · simp
          · simp [hq]
          · simp
          · simp [hq]
          · simp [hq]
        · have hperm : ((p :: (bs ++ [b])) ++ own2 ++ o2).Perm (b :: (p :: bs ++ own2) ++ o2) := by
            simp only [List.cons_append, List.append_assoc, List.nil_append]
            refine (List.Perm.cons p List.perm_middle).trans (List.Perm.swap _ _ _)
          rw [hperm.nodup_iff]
          exact k.nd
      · rw [putK_new _ (valV_no hk), List.map_append]
        rfl
      · rw [putK_new _ (valV_no hk), List.map_append, e3, List.map_append]
        rfl
      · refine LsAll.snoc ((ne _ nbp).trans eb) kb (l.mono (fun _ _ e => e) fun q hq => ne q fun z => np (z ▸ (by simp [hq])))
end
def mDCompQ (gm : D → M Unit) (ft : M Bool) (fk fv : M S) (own : List Nat) : List D → List D → List (List D) → En → Out (List D × List (List D))
  | [], ks, dss, ρ => .ok (ks, dss) ρ
  | x :: xs, ks, dss, ρ => (gm x ρ).calm.then fun _ ρ1 => (ft ρ1).calm.then fun b ρ2 => if b = true then (dv fk ρ2).calm.then fun k ρ3 => (fv ρ3).calm.then fun s ρ4 => match s with
      | .o none (.lst ds) => if isKey k && !ks.any (keyEq k) && small (ks.length + 1) then mDCompQ gm ft fk fv own xs (ks ++ [k]) (dss ++ [ds]) (wipeE ρ4 own) else .stuck
      | _ => .stuck
    else mDCompQ gm ft fk fv own xs ks dss (wipeE ρ2 own)
def mSetDcQ (i : Nat) (fI : M (List D)) (gm : D → M Unit) (ft : M Bool) (fk fv : M S) (own : List Nat) : M Fl := fun ρ => (fI ρ).then fun items ρ1 => (mDCompQ gm ft fk fv own items [] [] (wipeE ρ1 own)).then fun p ρ2 => .ok .nx (ρ2.set i (some (.q p.1 p.2)))
section
variable {c : Cfg} {W : WX} {wi : TI} {fI : M (List D)} {tk tv : TE} {fk fv : M S} {tt : TT} {ft : M Bool} {g : TG} {gm : D → M Unit} {js own : List Nat}
theorem ds_dcQ {i : Nat} (h : DenI c W wi fI) (k : DenG c W0 g gm js) (kt : DenT c W0 tt ft) (kk : Den c W0 tk fk) (kv : Den c W0 tv fv) (hj : ∀ j ∈ js, j ∈ own) : DenS c W (tAsg (tDc wi g tt tk tv own) (gName i)) (mSetDcQ i fI gm ft fk fv own) := fun B ts vs ρ σ H D r q => by
  unfold mSetDcQ at q
  rw [post_then] at q
  refine h B ts vs ρ σ H _ r (q.imp (fun items ρ1 q J st sv H1 hl r1 w Da hD => ?_) fun _ _ h => h.toP)
  obtain ⟨n, Gw, Y, wk, rfl, hG, hY⟩ := w
  rw [post_then] at q
  refine dc_it wk (fun i' H => ∃ ρ ks dss, Rep c B (tmp st ++ (some (.q ks dss) :: ts)) (tmv sv ++ (some (.ref Da) :: vs)) ρ σ H ∧ (∀ v ∈ own, ρ.set v none = ρ) ∧
    Post (fun (p : List Fx.D × List (List Fx.D)) ρ2 => Post (EndP c B ts vs D) (ErrS c W B ts vs) (Out.ok Fl.nx (List.set ρ2 i (some (S.q p.1 p.2))))) (ErrS c W B ts vs) (mDCompQ gm ft fk fv own (items.drop i') ks dss ρ)) ⟨wipeE ρ1 own, [], [], ?_, fun v hv => wipeE_at ρ1 own v hv, q⟩ (fun i' H _ ⟨ρ, ks, dss, r, _⟩ => hG _ _ _ _ _ _ r) ?_ ?_
  · exact (Rep.insQ hl r1 hD).back rfl
  · rintro i' x H1 H2 hi ⟨ρ, ks, dss, r, hw, q⟩ y
    obtain ⟨d, ed, r2⟩ := hY _ _ _ _ _ _ _ _ _ hi r y
    have hd : items.drop i' = d :: items.drop (i' + 1) := by
      rw [List.drop_eq_getElem_cons hi]
      rw [List.getElem?_eq_getElem hi] at ed
      cases ed
      rfl
    rw [hd] at q
    have q : Post _ _ ((gm d ρ).calm.then fun _ ρ1 => (ft ρ1).calm.then fun b ρ2 => _) := q
    rw [post_then] at q
    have r3 : Rep c B (some (.d d) :: (tmp st ++ (some (.q ks dss) :: ts))) (some x :: (tmv sv ++ (some (.ref Da) :: vs))) ρ (L2.wipe σ own) H2 := by
      have := r2.wipe own
      have e := wipeE_id hw
      rw [e] at this
      exact this
    refine k B _ _ ρ _ H2 d x _ r3 (post_calm (q.imp1 fun _ ρ2 q σ2 H3 o r4 => ?_))
    have eo := Off.wipe hj o
    refine ⟨eo, ?_⟩
    rw [post_then] at q
    refine kt B _ _ ρ2 σ2 H3 _ r4 (post_calm (q.imp1 fun b ρ3 q H4 r5 => ?_))
    cases b with
    | false => exact ⟨wipeE ρ3 own, ks, dss, r5.back eo, fun v hv => wipeE_at ρ3 own v hv, q⟩
    | true =>
      have q : Post _ _ ((dv fk ρ3).calm.then fun k ρ3 => (fv ρ3).calm.then fun y ρ4 => _) := q
      rw [post_then] at q
      refine kk.dv r5 (post_calm (q.imp1 fun y ρ4 q v H5 r6 => ?_))
      rw [post_then] at q
      refine kv B _ _ ρ4 _ H5 _ r6.drop (post_calm (q.imp1 fun s ρ5 q u H6 r7 => ?_))
      split at q
      · rename_i ds
        split at q
        · rename_i hz
          rw [Bool.and_eq_true, Bool.and_eq_true, Bool.not_eq_true'] at hz
          obtain ⟨⟨z1, z2⟩, z3⟩ := hz
          obtain ⟨G, O, hv⟩ := r6.top
          obtain ⟨k0, rfl, rfl⟩ := key_of hv z1
          obtain ⟨kvs, e1, e2, r8⟩ := Rep.putQ hl z2 r7
          refine ⟨kvs, k0, rfl, e1, ?_, wipeE ρ5 own, _, _, r8.back eo, fun v hv => wipeE_at ρ5 own v hv, q⟩
          have := small_line z3
          omega
        · exact q.elim
      · exact q.elim
  · rintro H1 ⟨ρ, ks, dss, r, _, q⟩
    rw [List.drop_length] at q
    exact q _ H1 (r.dropN hl).set
end
section
variable {X : Cx} {c : Cfg} {W : WX} {tg it kx vx a b : Expr} {ifs : List Expr} {fI : M (List D)} {g : D → M Unit} {js : List Nat} {ft : M Bool} {fk fv fa fb : M S} {scope : Scope} {own : List (Str × Nat)} {pos : Pos} {wi : TI} {tgt : TG} {tt : TT} {tk tv ta tb : TE} {kk : Nat}
theorem s_setDcQ (i : Nat) {y : Str} {py spos : Pos} (hN : X.N.Nodup) (hI : QI X c W tg it wi fI) (hB : BlkOk X.N X.env.scope scope own) (hG : ∀ s H C cl fp, QG (Blk X scope s H C cl fp) c W0 tg tgt g js) (hT : ∀ s H C cl fp, QTs (Blk X scope s H C cl fp) c W0 ifs tt ft)
    (hk : ∀ s H C cl fp, QE (Blk X scope s H C cl fp) c W0 kx tk fk) (hE : ∀ s H C cl fp, QE (Blk X scope s H C cl fp) c W0 vx tv fv) (hj : ∀ j ∈ js, j ∈ own.map (·.2) := by decide) (hc : X.calm = true := by rfl) (hi : X.N[i]? = some y := by rfl) (hy : X.env.scope.names.lookup y = some .local := by rfl)
    (hw : swapsWith (.DictComp kx vx [{ target := tg, iter := it, ifs := ifs, is_async := 0 }] scope pos) (some (.Name y py)) spos.line X.env = pure true := by rfl) (hs : ∀ x, foldedSetIterable it X.env x = pure x := by intro _; rfl) :
    QS X c W (.Assign [.Name y py] (.DictComp kx vx [{ target := tg, iter := it, ifs := ifs, is_async := 0 }] scope pos) spos) (tAsg (tDc wi tgt tt tk tv (own.map (·.2))) (gName i)) (mSetDcQ i fI g ft fk fv (own.map (·.2))) := by
  obtain ⟨h1, h2⟩ := hI
  obtain ⟨s, H, C, cl, fp, g2, t2, k2, e2⟩ := anyPlace c _ fun s H C cl fp => And.intro (hG s H C cl fp).dn (And.intro (hT s H C cl fp).dn (And.intro (hk s H C cl fp).dn (hE s H C cl fp).dn))
  exact ⟨psD hc hN hi hy hw h1 hB (fun s H C cl fp => (hG s H C cl fp).pe) (fun s H C cl fp => (hT s H C cl fp).pe) (fun s H C cl fp => (hk s H C cl fp).pe) (fun s H C cl fp => (hE s H C cl fp).pe) hs, ds_dcQ h2 g2 t2 k2 e2 hj⟩
end
section
variable {X : Cx} {c : Cfg} {W : WX} {x y : Str} {p p2 pos apos cpos : Pos} {e : Expr} {tk : TE} {fk : M S} {kk : Nat}
theorem qvQ (i : Nat) (hN : X.N[i]? = some x := by rfl) (hv : Vis X.env.scope x := by first | exact Or.inl rfl | exact Or.inr (Or.inl rfl) | exact Or.inr (Or.inr rfl)) (hd : (x == ("__debug__" : Str)) = false := by decide)
    (hcd : (x == ("__classdict__" : Str)) = false := by decide) : QE X c W (.Name x p) (tVar i) (mVarQ i) := ⟨pe_var hN hv hd hcd, den_varQ⟩
theorem q_appendQ (i j : Nat) (hr : Room kk X.A) (hk : QE X c W e tk fk) (hN : X.N[i]? = some x := by rfl) (hv : Vis X.env.scope x := by first | exact Or.inl rfl | exact Or.inr (Or.inl rfl) | exact Or.inr (Or.inr rfl)) (hd : (x == ("__debug__" : Str)) = false := by decide)
    (hcd : (x == ("__classdict__" : Str)) = false := by decide) (hNj : X.N[j]? = some y := by rfl) (hvj : Vis X.env.scope y := by first | exact Or.inl rfl | exact Or.inr (Or.inl rfl) | exact Or.inr (Or.inr rfl)) (hdj : (y == ("__debug__" : Str)) = false := by decide)
    (hcdj : (y == ("__classdict__" : Str)) = false := by decide) (hsl : NoSl e := by exact fun _ _ => rfl) (hbase : attributeBase (.Subscript (.Name x p) e pos) "append" X.env (eval (.Subscript (.Name x p) e pos) X.env) = eval (.Subscript (.Name x p) e pos) X.env := by rfl)
    (hfew : ((backTo cpos (starEach [.Name y p2] X.env)).all (fun y => !y.1) && (backToKw cpos (keywordEach [] X.env)).all (fun y => y.1.isSome) && decide ([Expr.Name y p2].length + ([] : List Keyword).length + (if ([] : List Keyword).isEmpty then 0 else 1) < 30)) = true := by rfl) (hline : (apos.endLine == cpos.line) = true := by rfl)
    (hs : starEach [.Name y p2] X.env = (false, eval (.Name y p2) X.env) :: starEach [] X.env := by rfl) (hplain : (backTo cpos (starEach [] X.env)).any (·.1) = false := by rfl) (hK : X.K = c.K := by rfl) :
    QE X c W (.Call (.Attribute (.Subscript (.Name x p) e pos) "append" apos) [.Name y p2] [] cpos) (tBM c.K "list" rAppend (tDGet (tVar i) tk) (tCons (tVar j) tNil)) (mMethQ1 i fk gApp j) := by
  obtain ⟨h1, h2⟩ := hk
  exact ⟨hK ▸ pe_bm PySem.F.plainAttrs_list PySem.F.slot_list_append PySem.F.type_list_append mt_append (pe_dget (by have := un66 hr; omega) (pe_var hN hv hd hcd) h1 hsl) (pa_cons (pe_var hNj hvj hdj hcdj) pa_nil hs) hbase hfew hline hs hplain, den_methQ1 md_app h2⟩
theorem q_popQ (i : Nat) (hr : Room kk X.A) (hk : QE X c W e tk fk) (hN : X.N[i]? = some x := by rfl) (hv : Vis X.env.scope x := by first | exact Or.inl rfl | exact Or.inr (Or.inl rfl) | exact Or.inr (Or.inr rfl)) (hd : (x == ("__debug__" : Str)) = false := by decide)
    (hcd : (x == ("__classdict__" : Str)) = false := by decide) (hsl : NoSl e := by exact fun _ _ => rfl) (hbase : attributeBase (.Subscript (.Name x p) e pos) "pop" X.env (eval (.Subscript (.Name x p) e pos) X.env) = eval (.Subscript (.Name x p) e pos) X.env := by rfl) (hline : (apos.endLine == cpos.line) = true := by rfl) (hK : X.K = c.K := by rfl) :
    QE X c W (.Call (.Attribute (.Subscript (.Name x p) e pos) "pop" apos) [] [] cpos) (tBM0 c.K "list" rPop (tDGet (tVar i) tk)) (mMethQ0 i fk gPop) := by
  obtain ⟨h1, h2⟩ := hk
  exact ⟨hK ▸ pe_bm0 PySem.F.plainAttrs_list PySem.F.slot_list_pop PySem.F.type_list_pop mt_pop (pe_dget (by have := un66 hr; omega) (pe_var hN hv hd hcd) h1 hsl) hbase hline, den_methQ0 md_pop h2⟩
end
end Fx

/-! sum, max, min of a list of ints -/
namespace Fx
open PySem PySem.Spec PyProof.Rows L2
open C8 (Cal Mak pe_c pe_mk)
def gSumL : List D → Option S
  | [.lst ds] => (intsD ds).bind fun ns => ok1 (.int ns.sum)
  | _ => none
theorem cd_sumL {c : Cfg} : CbDen c (rSum c.K) gSumL := by
  intro B ts vs ρ σ H Q ds us s hl r e q
  match ds, hl, r, e with
  | [.lst ds], hl, r, e =>
    obtain ⟨v, rfl, G, O, h⟩ := r.one' hl
    obtain ⟨a, xs, rfl, ha, ka⟩ := h.lstE
    have e : (intsD ds).bind (fun ns => ok1 (.int ns.sum)) = some s := e
    cases en : intsD ds with
    | none => rw [en] at e; cases e
    | some ns =>
      rw [en] at e
      cases e
      rw [RpAll.ints en ka] at ha
      exact ⟨a, ns, rfl, SqL.of (O.sub _ _ ha), q _ _ (O.val (.int _))⟩
section
variable {X : Cx} {c : Cfg}
theorem b_sumL (hc : X.calm = true := by rfl) (hK : X.K = c.K := by rfl) : QB X c "sum" (rSum c.K) gSumL := ⟨.inl ⟨_, hK ▸ cr_sum hc, by decide +kernel⟩, cd_sumL⟩
end
end Fx

/-! graphs on data: drawn -/
namespace Fx
open PySem
namespace Lib
def b_law_pick : M Fl := (mRet (mOp gIx (mVar 1) (mCallO f_law_taken 0 0 (aOwn 0 (aCons (mCB gLen (aCons (mVar 1) aNil)) aNil)))))
def f_law_pick : Fn := runF 2 2 b_law_pick
def b_law_arcs : M Fl := (mSeq (mAsgO 3 (mLst aNil))
    (mSeq (mFor (iRange1 (aCons (mVar 1) aNil)) (gmName 4) (mFor (iRange1 (aCons (mVar 1) aNil)) (gmName 5) (mIfS (mAnd (mTest (mOp gNe (mVar 4) (mVar 5))) (mTest (mOp gEq (mCallO f_law_taken 0 0 (aOwn 0 (aCons (mVar 2) aNil))) (mC (.int 0))))) (mDrop (mMeth1 3 gApp (mTup (aCons (mVar 4) (aCons (mVar 5) aNil))))) mNx)))
    (mRet (mCB gTuple (aCons (mVar 3) aNil)))))
def f_law_arcs : Fn := runF 3 6 b_law_arcs
/-- an arc -/
def arcD (p : Nat × Nat) : D := .tup [.int p.1, .int p.2]
def ltA (p q : Nat × Nat) : Prop := p.1 < q.1 ∨ (p.1 = q.1 ∧ p.2 < q.2)
/-- arcs of n nodes, ascending -/
structure OkArcs (n : Nat) (as : List (Nat × Nat)) : Prop where
  rng : ∀ p ∈ as, p.1 < n ∧ p.2 < n ∧ p.1 ≠ p.2
  asc : as.Pairwise ltA
theorem OkArcs.len {n : Nat} : ∀ {as : List (Nat × Nat)}, OkArcs n as → as.length ≤ n * n := by
  intro as o
  have key : ∀ (l : List (Nat × Nat)) (k : Nat), (∀ p ∈ l, k ≤ p.1 * n + p.2 ∧ p.1 * n + p.2 < n * n) → (l.map fun p => p.1 * n + p.2).Pairwise (· < ·) → l.length + k ≤ n * n ∨ l = [] := by
    intro l
    induction l with
    | nil => exact fun _ _ _ => .inr rfl
    | cons p l ih =>
      intro k h hp
      obtain ⟨h1, h2⟩ := h p List.mem_cons_self
      rw [List.map_cons, List.pairwise_cons] at hp
      have := ih (p.1 * n + p.2 + 1) (fun q hq => ⟨hp.1 _ (List.mem_map.mpr ⟨q, hq, rfl⟩), (h q (List.mem_cons_of_mem _ hq)).2⟩) hp.2
      left
      rcases this with this | rfl
      · rw [List.length_cons]
        omega
      · simp only [List.length_cons, List.length_nil]
        omega
  have hb : ∀ p ∈ as, 0 ≤ p.1 * n + p.2 ∧ p.1 * n + p.2 < n * n := fun p hp => by
    obtain ⟨a, b, _⟩ := o.rng p hp
    have : (p.1 + 1) * n ≤ n * n := Nat.mul_le_mul (by omega) (Nat.le_refl _)
    rw [Nat.add_mul, Nat.one_mul] at this
    exact ⟨Nat.zero_le _, by omega⟩
  have hp : (as.map fun p => p.1 * n + p.2).Pairwise (· < ·) := by
    rw [List.pairwise_map]
    refine List.Pairwise.imp_of_mem (fun {p q} hp hq h => ?_) o.asc
    obtain ⟨_, b, _⟩ := o.rng p hp
    rcases h with h | ⟨h1, h2⟩
    · have : (p.1 + 1) * n ≤ q.1 * n := Nat.mul_le_mul (by omega) (Nat.le_refl _)
      rw [Nat.add_mul, Nat.one_mul] at this
      omega
    · rw [h1]
      omega
  rcases key as 0 hb hp with h | rfl
  · omega
  · exact Nat.zero_le _
theorem pick {ns : List Int} {a b c : Int} {ds : List D} (h : RowOk a b c) (h0 : 0 < ds.length) (h1 : ds.length ≤ 1000) :
    OK (f_law_pick [.o (some 0) (rowD ns a b c), .d (.lst ds)]) fun s ρ => ∃ x a b c, x ∈ ds ∧ s = .d x ∧ RowOk a b c ∧ ∃ ρ', ρ = some (.o (some 0) (rowD ns a b c)) :: ρ' := by
  unfold f_law_pick
  refine ok_runF rfl ?_
  show OK (b_law_pick [some (.o (some 0) (rowD ns a b c)), some (.d (.lst ds))]) _
  unfold b_law_pick
  rw [ok_ret, ok_op]
  refine (ev_var 1 rfl).dv ?_
  rw [ok_dv]
  refine ok_taken (m := ds.length) rfl h ?_ (by omega) (by omega) fun v a b c v0 v1 h => ?_
  · exact (ev_cb (ea_cons (ev_var 1 rfl) ea_nil) rfl).dv ⟨rfl, rfl⟩
  refine ⟨_, rfl, ?_⟩
  obtain ⟨x, e1, e2⟩ := at_nat (xs := ds) v0 v1
  refine ⟨.d x, ?_, .inl ⟨_, rfl, x, a, b, c, List.mem_of_getElem? e2, rfl, h, _, rfl⟩⟩
  show (L2.atI ds v).bind ok1 = _
  rw [e1]
  rfl
theorem law_arcs {ns : List Int} {a b c m : Int} {n : Nat} (h : RowOk a b c) (hn : n ≤ 60) (m0 : 0 < m) (m1 : m < 1073741824) :
    OK (f_law_arcs [.o (some 0) (rowD ns a b c), .d (.int n), .d (.int m)]) fun s ρ => ∃ as a b c, s = .d (.tup (as.map arcD)) ∧ OkArcs n as ∧ RowOk a b c ∧ ∃ ρ', ρ = some (.o (some 0) (rowD ns a b c)) :: ρ' := by
  unfold f_law_arcs
  refine ok_runF rfl ?_
  show OK (b_law_arcs [some (.o (some 0) (rowD ns a b c)), some (.d (.int n)), some (.d (.int m)), none, none, none]) _
  unfold b_law_arcs
  refine ok_seqI (fun ρ => ρ = [rowS (some 0) ns a b c, some (.d (.int n)), some (.d (.int m)), some (.o none (.lst [])), none, none]) ?_ ?_
  · rw [ok_asgO, ok_lst]
    exact ea_nil.ok ⟨rfl, .inl ⟨_, rfl, rfl, rfl⟩⟩
  rintro _ rfl
  refine ok_seqI (fun ρ => ∃ as a b c x4 x5, OkArcs n as ∧ RowOk a b c ∧ ρ = [rowS (some 0) ns a b c, some (.d (.int n)), some (.d (.int m)), some (.o none (.lst (as.map arcD))), x4, x5]) ?_ ?_
  · rw [ok_for]
    refine @ok_range1e _ _ _ ?_
    refine (ea_cons (ev_var 1 rfl) ea_nil).ok ⟨n, rfl, by omega, by omega, ?_⟩
    refine @ok_loop _ _ (fun i ρ => ∃ as a b c x4 x5, (OkArcs n as ∧ ∀ p ∈ as, p.1 < i) ∧ RowOk a b c ∧ ρ = [rowS (some 0) ns a b c, some (.d (.int n)), some (.d (.int m)), some (.o none (.lst (as.map arcD))), x4, x5]) _ _ 0 _ ⟨[], a, b, c, _, _, ⟨⟨fun p hp => by simp at hp, .nil⟩, fun p hp => by simp at hp⟩, h, rfl⟩ ?_ ?_
    · clear h a b c
      rintro i x ρ hx ⟨as, a, b, c, x4, x5, ⟨o, oi⟩, h, rfl⟩
      obtain ⟨rfl, hi⟩ := intsFrom_at hx
      rw [Int.toNat_natCast] at hi
      rw [Nat.zero_add] at oi ⊢
      simp only [ok_gname, List.set_cons_succ, List.set_cons_zero]
      rw [ok_for]
      refine @ok_range1e _ _ _ ?_
      refine (ea_cons (ev_var 1 rfl) ea_nil).ok ⟨n, rfl, by omega, by omega, ?_⟩
      refine @ok_loop _ _ (fun j ρ => ∃ as a b c x5, (OkArcs n as ∧ ∀ p ∈ as, p.1 < i ∨ (p.1 = i ∧ p.2 < j)) ∧ RowOk a b c ∧ ρ = [rowS (some 0) ns a b c, some (.d (.int n)), some (.d (.int m)), some (.o none (.lst (as.map arcD))), some (.d (.int (i : Nat))), x5]) _ _ 0 _ ⟨as, a, b, c, _, ⟨o, fun p hp => .inl (oi p hp)⟩, h, rfl⟩ ?_ ?_
      · clear o oi h as a b c x5
        rintro j x ρ hx ⟨as, a, b, c, x5, ⟨o, oi⟩, h, rfl⟩
        obtain ⟨rfl, hj⟩ := intsFrom_at hx
        rw [Int.toNat_natCast] at hj
        rw [Nat.zero_add] at oi ⊢
        simp only [ok_gname, List.set_cons_succ, List.set_cons_zero]
        have stay : ∀ p ∈ as, p.1 < i ∨ (p.1 = i ∧ p.2 < j + 1) := fun p hp => by have := oi p hp; omega
        rw [ok_ifS, ok_and]
        refine (eb_test (ev_ne (ev_var 4 rfl) (ev_var 5 rfl))).ok ⟨fun e => ?_, fun e => ⟨fun n => (by cases n), fun _ => ?_⟩⟩
        · have hij : i ≠ j := fun z => by simp [z] at e
          rw [ok_test, ok_dv, ok_op, ok_dv]
          refine ok_taken (m := m) rfl h ((ev_var 2 rfl).dv ⟨rfl, rfl⟩) m0 m1 fun v a b c v0 v1 h => ?_
          refine ⟨_, rfl, ?_⟩
          refine ev_c.dv ⟨_, rfl, _, rfl, _, rfl, fun _ => ?_, fun _ => ?_⟩
          · rw [ok_drop]
            have hl := o.len
            have hz : n * n ≤ 60 * 60 := Nat.mul_le_mul hn hn
            refine ok_appE (x := arcD (i, j)) rfl (ev_tup (ea_cons (ev_var 4 rfl) (ea_cons (ev_var 5 rfl) ea_nil))) (by rw [List.length_map]; omega) ?_
            refine ⟨fun _ => ⟨as ++ [(i, j)], a, b, c, some (.d (.int (j : Nat))), ⟨⟨fun p hp => ?_, ?_⟩, fun p hp => ?_⟩, h, ?_⟩, fun n => (by cases n), fun s n => (by cases n)⟩
            · rcases List.mem_append.mp hp with hp | hp
              · exact o.rng p hp
              · rw [List.mem_singleton.mp hp]
                exact ⟨hi, hj, hij⟩
            · rw [List.pairwise_append]
              refine ⟨o.asc, List.pairwise_singleton _ _, fun p hp q hq => ?_⟩
              rw [List.mem_singleton.mp hq]
              have := oi p hp
              show p.1 < i ∨ (p.1 = i ∧ p.2 < j)
              exact this
            · rcases List.mem_append.mp hp with hp | hp
              · exact stay p hp
              · rw [List.mem_singleton.mp hp]
                exact .inr ⟨rfl, Nat.lt_succ_self _⟩
            · rw [List.map_append]
              rfl
          · rw [ok_nx]
            exact ⟨fun _ => ⟨as, a, b, c, some (.d (.int (j : Nat))), ⟨o, stay⟩, h, rfl⟩, fun n => (by cases n), fun s n => (by cases n)⟩
        · rw [ok_nx]
          exact ⟨fun _ => ⟨as, a, b, c, some (.d (.int (j : Nat))), ⟨o, stay⟩, h, rfl⟩, fun n => (by cases n), fun s n => (by cases n)⟩
      · rintro ρ ⟨as, a, b, c, x5, ⟨o, oi⟩, h, rfl⟩
        exact ⟨fun _ => ⟨as, a, b, c, some (.d (.int (i : Nat))), x5, ⟨o, fun p hp => by have := oi p hp; omega⟩, h, rfl⟩, fun n => (by cases n), fun s n => (by cases n)⟩
    · rintro ρ ⟨as, a, b, c, x4, x5, ⟨o, _⟩, h, rfl⟩
      exact ⟨rfl, as, a, b, c, x4, x5, o, h, rfl⟩
  clear h a b c
  rintro _ ⟨as, a, b, c, x4, x5, o, h, rfl⟩
  rw [ok_ret, ok_cb, ok_cons, ok_dv]
  refine ok_varZ rfl rfl ⟨_, rfl, ?_⟩
  rw [ok_nil]
  exact ⟨_, rfl, .inl ⟨_, rfl, as, a, b, c, rfl, o, h, _, rfl⟩⟩
end Lib
end Fx

/-! graphs on data: made, checked -/
namespace Fx
open PySem
local macro_rules | `(tactic| walk_at "wp") => `(tactic| simp only [okF_runF, okF_runL, ok_seq, ok_ret, ok_retN, ok_andV, ok_orV, ok_notV, ok_cb, ok_cons, ok_nil, ok_test, ok_dv, ok_op, ok_un, ok_c, ok_if, ok_ifS, ok_and, ok_or, ok_not, ok_asg, ok_gname, ok_drop, ok_call, ok_chain, ok_nx, ok_bk, ok_ct, ok_st, ok_yes, ok_tup, ok_ok, ok_stuck, ex_toD, ex_toL, ex_bl, ex_some, ex_bl1, fl_nx, fl_rt, fl_bk, fl_ct, rt_or, nx_or, mVar, ok1, gIsi, mIsi2, gIsi2, isTy2, isTy, Option.bind, bare, e_add, e_sub, e_int, e_lenS, e_lenT, e_lenL, e_lt, e_le, e_gt, e_ge, e_leC, e_ltC, e_isN, e_notN, e_pow,
  List.map_cons, List.map_nil, List.length_cons, List.length_nil, List.replicate_succ, List.replicate_zero, List.cons_append, List.nil_append, List.append_nil, List.getElem?_cons_zero, List.getElem?_cons_succ, List.set_cons_zero, List.set_cons_succ, Nat.reduceAdd, Nat.reduceSub, true_and, and_true, Bool.not_true, Bool.not_false, true_implies, forall_const, not_true_eq_false, false_implies, Bool.false_eq_true, not_false_eq_true, implies_true, eq_self, ne_eq, reduceCtorEq, Fl.rt.injEq, S.d.injEq, D.int.injEq, false_and, exists_false, or_false, false_or, exists_eq_left'])
local macro_rules | `(tactic| walk_at "wt") => `(tactic| simp (config := { contextual := false }) only [ok_row0, ok_row1, ok_row2, ok_row3, ok_put1, ok_put2, ok_put3, e_mod, e_div, e_mul, e_ixS, decide_true, decide_false, *, okF_runF, okF_runL, ok_seq, ok_ret, ok_retN, ok_andV, ok_orV, ok_notV, ok_cb, ok_cons, ok_nil, ok_test, ok_dv, ok_op, ok_un, ok_c, ok_if, ok_ifS, ok_and, ok_or, ok_not, ok_asg, ok_gname, ok_drop, ok_call, ok_chain, ok_nx, ok_bk, ok_ct, ok_st, ok_yes, ok_tup, ok_ok, ok_stuck, ex_toD, ex_toL, ex_bl, ex_some, ex_bl1, fl_nx, fl_rt, fl_bk, fl_ct, rt_or, nx_or, mVar, ok1, gIsi, mIsi2, gIsi2, isTy2, isTy, Option.bind, bare, e_add, e_sub, e_int, e_lenS, e_lenT, e_lenL, e_lt, e_le, e_gt, e_ge, e_leC, e_ltC, e_isN, e_notN, e_pow,
  List.map_cons, List.map_nil, List.length_cons, List.length_nil, List.replicate_succ, List.replicate_zero, List.cons_append, List.nil_append, List.append_nil, List.getElem?_cons_zero, List.getElem?_cons_succ, List.set_cons_zero, List.set_cons_succ, Nat.reduceAdd, Nat.reduceSub, true_and, and_true, Bool.not_true, Bool.not_false, true_implies, forall_const, not_true_eq_false, false_implies, Bool.false_eq_true, not_false_eq_true, implies_true, eq_self, ne_eq, reduceCtorEq, Fl.rt.injEq, S.d.injEq, D.int.injEq, false_and, exists_false, or_false, false_or, exists_eq_left'])
local macro_rules | `(tactic| walk_at "wy") => `(tactic| try walk_at "wp")
local macro_rules | `(tactic| walk_at "we") => `(tactic| first | done | rfl | exact ⟨rfl, rfl⟩ | exact ⟨rfl, rfl, rfl⟩)

namespace Lib
def b_law_graph : M Fl := (mSeq (mAsg (mOp gAdd (mC (.int 2)) (mCallO f_law_taken 0 0 (aOwn 0 (aCons (mOp gMinus (mVar 1) (mC (.int 1))) aNil)))) (gmName 2))
    (mSeq (mPar2 3 false 4 false (psCons (mCallO f_law_arcs 0 0 (aOwn 0 (aCons (mVar 2) (aCons (mCallO f_law_pick 0 0 (aOwn 0 (aCons (mLst (aCons (mC (.int 1)) (aCons (mC (.int 2)) (aCons (mC (.int 2)) (aCons (mC (.int 3)) aNil))))) aNil))) aNil)))) (psCons (mCallO f_law_pick 0 0 (aOwn 0 (aCons (mLst (aCons (mC (.int 2)) (aCons (mC (.int 4)) (aCons (mC (.int 100)) aNil)))) aNil))) psNil)))
    (mRet (mTup (aCons (mVar 2) (aCons (mVar 3) (aCons (mCB gTuple (aCons (mLc (iSeq (mVar 3)) (gmName 5) mYes (mOp gAdd (mC (.int 1)) (mCallO f_law_taken 0 0 (aOwn 0 (aCons (mVar 4) aNil)))) [5]) aNil)) aNil)))))))
def f_law_graph : Fn := runF 2 6 b_law_graph
def b_is_arc : M Fl := (mRet (mAndV (mCall f_are_numbers (aCons (mVar 1) (aCons (mC (.int 0)) (aCons (mOp gMinus (mVar 0) (mC (.int 1))) aNil)))) (mAndV (mOp gEq (mCB gLen (aCons (mVar 1) aNil)) (mC (.int 2))) (mOp gNe (mOp gIx (mVar 1) (mC (.int 0))) (mOp gIx (mVar 1) (mC (.int 1)))))))
def f_is_arc : Fn := runF 2 2 b_is_arc
def b_Graph_init : M Fl := (mSeq (mIfS (mOr (mNot (mTest (mCall f_is_number (aCons (mVar 1) (aCons (mC (.int 1)) (aCons (mC (.int 8)) aNil)))))) (mNot (mTest (mCall f_is_tuple (aCons (mVar 2) (aCons (mC (.int 0)) (aCons (mC (.int 64)) aNil))))))) mSt mNx)
    (mSeq (mFor (iEnu (aCons (mVar 2) aNil)) (gmTup 2 (gmCons (gmName 3) (gmCons (gmName 4) gmNil))) (mIfS (mOr (mNot (mTest (mCall f_is_arc (aCons (mVar 1) (aCons (mVar 4) aNil))))) (mTest (mOp gIn (mVar 4) (mSl (mVar 2) oNone (oSome (mVar 3)))))) mSt mNx))
    (mSeq (mSetF "Graph" 0 0 (mTupRg (mVar 1)))
    (mSetF "Graph" 1 0 (mCB gTuple (aCons (mCB gSortA (aCons (mVar 2) aNil)) aNil))))))
def f_Graph_init : Fn := runF 3 5 b_Graph_init
def graphD (n : Nat) (as : List (Nat × Nat)) : D := .ins "Graph" [.tup (intsFrom 0 n), .tup (as.map arcD)]
theorem toD_back {s : S} {x : D} (h : toD s = some x) (hc : canFz x = false) : s = .d x := by
  cases s with
  | d y =>
    have h : some y = some x := h
    cases h
    rfl
  | o b y =>
    cases b with
    | none =>
      have h : (if canFz y then some y else none) = some x := h
      split at h
      · rename_i k
        cases h
        rw [hc] at k
        cases k
      · cases h
    | some k => cases h
  | q _ _ => cases h
theorem is_arc {n : Nat} {p : Nat × Nat} (h1 : p.1 < n) (h2 : p.2 < n) (h3 : p.1 ≠ p.2) : OKF (f_is_arc [.d (.int n), .d (arcD p)]) fun s => s = .d (.bl true) := by
  unfold f_is_arc
  rw [okF]
  refine ok_runF rfl ?_
  show OK (b_is_arc [some (.d (.int n)), some (.d (arcD p))]) _
  unfold b_is_arc
  rw [ok_ret]
  have e1 : Ev (mCall f_are_numbers (aCons (mVar 1) (aCons (mC (.int 0)) (aCons (mOp gMinus (mVar 0) (mC (.int 1))) aNil)))) [some (.d (.int n)), some (.d (arcD p))] (.bl true) := by
    refine ev_call (ea_cons (ev_var 1 rfl) (ea_cons ev_c (ea_cons (ev_op (ev_var 0 rfl) ev_c rfl) ea_nil))) ?_
    refine nums1 (ls := [(p.1 : Int), (p.2 : Int)]) (lo := 0) (hi := (n : Int) - 1) (by show 2 ≤ 16777216; omega) (fun l hl => ?_) rfl
    simp only [List.mem_cons, List.not_mem_nil, or_false] at hl
    rcases hl with rfl | rfl <;> omega
  have e2 : Ev (mOp gEq (mCB gLen (aCons (mVar 1) aNil)) (mC (.int 2))) [some (.d (.int n)), some (.d (arcD p))] (.bl true) := ev_eq (ev_cb (z := .int 2) (ea_cons (ev_var 1 rfl) ea_nil) rfl) ev_c
  have e3 : Ev (mOp gNe (mOp gIx (mVar 1) (mC (.int 0))) (mOp gIx (mVar 1) (mC (.int 1)))) [some (.d (.int n)), some (.d (arcD p))] (.bl true) := by
    have := ev_ne (i := (p.1 : Int)) (j := (p.2 : Int)) (ρ := [some (.d (.int n)), some (.d (arcD p))]) (ev_ixT (ds := [.int p.1, .int p.2]) (i := 0) (ev_var 1 rfl) ev_c rfl) (ev_ixT (ds := [.int p.1, .int p.2]) (i := 1) (ev_var 1 rfl) ev_c rfl)
    have e : (!decide ((p.1 : Int) = (p.2 : Int))) = true := by
      rw [Bool.not_eq_true', decide_eq_false_iff_not]
      omega
    rw [e] at this
    exact this
  refine (ev_and e1 (ev_and e2 e3)).raw.imp fun s ρ1 ⟨a, _⟩ => .inl ⟨s, rfl, ?_⟩
  exact toD_back a rfl
theorem eqD_arc {p q : Nat × Nat} : eqD (arcD p) (arcD q) = decide (p = q) := by
  obtain ⟨a, b⟩ := p
  obtain ⟨x, y⟩ := q
  have e : eqD (arcD (a, b)) (arcD (x, y)) = (((a : Int) == (x : Int)) && (((b : Int) == (y : Int)) && true)) := by
    show PyData.eqv (toP (.tup [.int a, .int b])) (toP (.tup [.int x, .int y])) = _
    simp [toP, toPs, PyData.eqv, PyData.eqvAll]
  rw [e, Bool.and_true, Bool.eq_iff_iff]
  simp only [Bool.and_eq_true, beq_iff_eq, decide_eq_true_eq, Prod.mk.injEq]
  omega
theorem fit_arc {n : Nat} {p : Nat × Nat} : fit (n + 1) (arcD p) = true := fit_tup (by show 2 ≤ 1000000; omega) fun y hy => by
  simp only [List.mem_cons, List.not_mem_nil, or_false] at hy
  rcases hy with rfl | rfl <;> exact fit_int
theorem pl_arc {p : Nat × Nat} : pl60 (arcD p) = true := fit_60 (n := 1) fit_arc (by decide)
theorem in_arcs {p : Nat × Nat} {as : List (Nat × Nat)} (hl : as.length ≤ 1000000) : gIn (arcD p) (.tup (as.map arcD)) = some (.d (.bl (decide (p ∈ as)))) := by
  have hp : plA 60 (as.map arcD) = true := by
    have h : pl 61 (.tup (as.map arcD)) = true := fit_pl (n := 2) (fit_tup (n := 1) (by rw [List.length_map]; exact hl) fun x hx => by
      obtain ⟨q, _, rfl⟩ := List.mem_map.mp hx
      exact fit_arc) (by decide)
    exact h
  have e : inD (arcD p) (as.map arcD) = decide (p ∈ as) := by
    unfold inD
    rw [List.any_map, Bool.eq_iff_iff, List.any_eq_true, decide_eq_true_eq]
    constructor
    · rintro ⟨q, hq, h⟩
      have h : eqD (arcD q) (arcD p) = true := h
      rw [eqD_arc, decide_eq_true_eq] at h
      rw [← h]
      exact hq
    · intro h
      refine ⟨p, h, ?_⟩
      show eqD (arcD p) (arcD p) = true
      rw [eqD_arc]
      simp
  show (if (pl60 (arcD p) && plA 60 (as.map arcD)) = true then ok1 (.bl (inD (arcD p) (as.map arcD))) else none) = _
  rw [pl_arc, hp, e]
  rfl
theorem sort_arcs {n : Nat} {as : List (Nat × Nat)} (o : OkArcs n as) : gSortA [.tup (as.map arcD)] = some (.o none (.lst (as.map arcD))) := by
  have e1 : as.map arcD = (as.map fun p => [(p.1 : Int), (p.2 : Int)]).map tpD := by
    rw [List.map_map]
    rfl
  have e2 : isortL (as.map fun p => [(p.1 : Int), (p.2 : Int)]) = as.map fun p => [(p.1 : Int), (p.2 : Int)] := by
    refine (isortL_eq (.refl _) ?_).symm
    rw [List.pairwise_map]
    refine List.Pairwise.imp (fun {p q} h => ?_) o.asc
    unfold leL lexI
    unfold ltA at h
    by_cases e : (q.1 : Int) = (p.1 : Int)
    · rw [if_pos e]
      unfold lexI
      rw [if_neg (by omega), decide_eq_false_iff_not]
      omega
    · rw [if_neg e, decide_eq_false_iff_not]
      omega
  show (tpsOf (as.map arcD)).map (fun ps => S.o none (.lst ((isortL ps).map tpD))) = _
  rw [e1, tpsOf_map (fun p hp => by
    obtain ⟨q, _, rfl⟩ := List.mem_map.mp hp
    simp), Option.map_some, e2]
theorem madeG {n : Nat} {as : List (Nat × Nat)} (o : OkArcs n as) (h1 : 1 ≤ n) (h2 : n ≤ 8) :
    OK (f_Graph_init [.o (some 0) (.ins "Graph" []), .d (.int n), .d (.tup (as.map arcD))]) fun s ρ => s = .d .non ∧ ρ[0]? = some (some (.o (some 0) (graphD n as))) := by
  have hl := o.len
  have hz : n * n ≤ 8 * 8 := Nat.mul_le_mul h2 h2
  unfold f_Graph_init
  refine ok_runF rfl ?_
  show OK (b_Graph_init [some (.o (some 0) (.ins "Graph" [])), some (.d (.int n)), some (.d (.tup (as.map arcD))), none, none]) _
  unfold b_Graph_init
  refine ok_seqI (fun ρ => ρ = [some (.o (some 0) (.ins "Graph" [])), some (.d (.int n)), some (.d (.tup (as.map arcD))), none, none]) ?_ ?_
  · have e1 : Ev (mCall f_is_number (aCons (mVar 1) (aCons (mC (.int 1)) (aCons (mC (.int 8)) aNil)))) [some (.o (some 0) (.ins "Graph" [])), some (.d (.int n)), some (.d (.tup (as.map arcD))), none, none] (.bl true) := by
      refine ev_call (ea_cons (ev_var 1 rfl) (ea_cons ev_c (ea_cons ev_c ea_nil))) ?_
      refine (num (o := some (n : Int)) (lo := 1) (hi := 8)).mpr ?_
      show S.d (.bl (decide (1 ≤ (n : Int)) && decide ((n : Int) ≤ 8))) = _
      rw [decide_eq_true (by omega), decide_eq_true (by omega)]
      rfl
    have e2 : Ev (mCall f_is_tuple (aCons (mVar 2) (aCons (mC (.int 0)) (aCons (mC (.int 64)) aNil)))) [some (.o (some 0) (.ins "Graph" [])), some (.d (.int n)), some (.d (.tup (as.map arcD))), none, none] (.bl true) := by
      refine ev_call (ea_cons (ev_var 2 rfl) (ea_cons ev_c (ea_cons ev_c ea_nil))) ?_
      refine tup.mpr ?_
      rw [List.length_map, decide_eq_true (by omega), decide_eq_true (by omega)]
      rfl
    rw [ok_ifS]
    refine (eb_or (eb_not (eb_test e1)) fun _ => eb_not (eb_test e2)).ok ⟨fun n => (by cases n), fun _ => ?_⟩
    rw [ok_nx]
    exact ⟨rfl, rfl⟩
  rintro _ rfl
  refine ok_seqI (fun ρ => ∃ x3 x4, ρ = [some (.o (some 0) (.ins "Graph" [])), some (.d (.int n)), some (.d (.tup (as.map arcD))), x3, x4]) ?_ ?_
  · rw [ok_for]
    refine ok_ienu ?_
    refine (ea_cons (ev_var 2 rfl) ea_nil).ok ⟨_, _, rfl, rfl, ?_⟩
    refine ok_loop (k := 0) (I := fun i ρ => ∃ x3 x4, ρ = [some (.o (some 0) (.ins "Graph" [])), some (.d (.int n)), some (.d (.tup (as.map arcD))), x3, x4]) ⟨_, _, rfl⟩ ?_ ?_
    · rintro i x ρ hx ⟨x3, x4, rfl⟩
      obtain ⟨d, hd, rfl⟩ := enumD_at hx
      rw [List.getElem?_map] at hd
      obtain ⟨p, hp, rfl⟩ := Option.map_eq_some_iff.mp hd
      refine ok_gtup2 ?_
      obtain ⟨p1, p2, p3⟩ := o.rng p (List.mem_of_getElem? hp)
      have hi := (List.getElem?_eq_some_iff.mp hp).1
      have hno : decide (p ∈ as.take i) = false := by
        rw [decide_eq_false_iff_not]
        intro hm
        obtain ⟨j, hj⟩ := List.getElem?_of_mem hm
        have hj1 : j < i := by
          have := (List.getElem?_eq_some_iff.mp hj).1
          rw [List.length_take] at this
          omega
        rw [List.getElem?_take_of_lt hj1] at hj
        obtain ⟨q1, q2⟩ := List.getElem?_eq_some_iff.mp hj
        obtain ⟨q3, q4⟩ := List.getElem?_eq_some_iff.mp hp
        have := List.pairwise_iff_getElem.mp o.asc j i q1 q3 hj1
        rw [q2, q4] at this
        unfold ltA at this
        omega
      show OK (mIfS _ mSt mNx [some (.o (some 0) (.ins "Graph" [])), some (.d (.int n)), some (.d (.tup (as.map arcD))), some (.d (.int (i : Nat))), some (.d (arcD p))]) _
      rw [ok_ifS]
      have e1 : EvB (mNot (mTest (mCall f_is_arc (aCons (mVar 1) (aCons (mVar 4) aNil))))) [some (.o (some 0) (.ins "Graph" [])), some (.d (.int n)), some (.d (.tup (as.map arcD))), some (.d (.int (i : Nat))), some (.d (arcD p))] (!true) := eb_not (eb_test (ev_call (ea_cons (ev_var 1 rfl) (ea_cons (ev_var 4 rfl) ea_nil)) (is_arc p1 p2 p3)))
      have e2 : EvB (mTest (mOp gIn (mVar 4) (mSl (mVar 2) oNone (oSome (mVar 3))))) [some (.o (some 0) (.ins "Graph" [])), some (.d (.int n)), some (.d (.tup (as.map arcD))), some (.d (.int (i : Nat))), some (.d (arcD p))] false := by
        refine eb_test (ev_op (x := arcD p) (y := .tup ((as.take i).map arcD)) (ev_var 4 rfl) ?_ (by rw [in_arcs (by rw [List.length_take]; omega), hno]))
        refine ev_of (ok_slTo ((ev_var 2 rfl).dv ((ev_var 3 rfl).dv ⟨_, _, rfl, rfl, by omega, ?_, rfl⟩)))
        rw [Int.toNat_natCast, List.map_take]
      refine (eb_or e1 fun _ => e2).ok ⟨fun n => (by cases n), fun _ => ?_⟩
      rw [ok_nx]
      exact ⟨fun _ => ⟨_, _, rfl⟩, fun n => (by cases n), fun s n => (by cases n)⟩
    · rintro ρ ⟨x3, x4, rfl⟩
      exact ⟨rfl, _, _, rfl⟩
  rintro _ ⟨x3, x4, rfl⟩
  rw [ok_seq]
  have er : Ev (mTupRg (mVar 1)) [some (.o (some 0) (.ins "Graph" [])), some (.d (.int n)), some (.d (.tup (as.map arcD))), x3, x4] (.tup (intsFrom 0 n)) := ev_of (by
    unfold mTupRg
    rw [ok_then]
    refine (ev_var 1 rfl).dv ?_
    have hr : rgOk (n : Int) = true := by
      unfold rgOk
      rw [decide_eq_true (by omega), decide_eq_true (by omega)]
      rfl
    show OK (if rgOk (n : Int) then Out.ok (S.d (D.tup (intsFrom 0 (n : Int).toNat))) _ else Out.stuck) _
    rw [if_pos hr, ok_ok, Int.toNat_natCast]
    exact ⟨rfl, rfl⟩)
  refine ok_setF (er.dv ⟨_, _, rfl, rfl, fun _ => ?_, fun n => absurd rfl n⟩)
  have es : ∀ x0 : Option S, Ev (mCB gTuple (aCons (mCB gSortA (aCons (mVar 2) aNil)) aNil)) [x0, some (.d (.int n)), some (.d (.tup (as.map arcD))), x3, x4] (.tup (as.map arcD)) := fun x0 => by
    have e3 : Ev (mCB gSortA (aCons (mVar 2) aNil)) [x0, some (.d (.int n)), some (.d (.tup (as.map arcD))), x3, x4] (.lst (as.map arcD)) := by
      unfold Ev
      rw [ok_dv, ok_cb]
      exact (ea_cons (ev_var 2 rfl) ea_nil).ok ⟨_, sort_arcs o, _, rfl, rfl, rfl⟩
    exact ev_cb (ea_cons e3 ea_nil) rfl
  refine ok_setF ((es _).dv ⟨_, _, rfl, rfl, ?_⟩)
  exact .inr ⟨rfl, rfl, rfl⟩
end Lib
end Fx

/-! graphs on data: drawn whole -/
namespace Fx
open PySem
local macro_rules | `(tactic| walk_at "wp") => `(tactic| simp only [okF_runF, okF_runL, ok_seq, ok_ret, ok_retN, ok_andV, ok_orV, ok_notV, ok_cb, ok_cons, ok_nil, ok_test, ok_dv, ok_op, ok_un, ok_c, ok_if, ok_ifS, ok_and, ok_or, ok_not, ok_asg, ok_gname, ok_drop, ok_call, ok_chain, ok_nx, ok_bk, ok_ct, ok_st, ok_yes, ok_tup, ok_ok, ok_stuck, ex_toD, ex_toL, ex_bl, ex_some, ex_bl1, fl_nx, fl_rt, fl_bk, fl_ct, rt_or, nx_or, mVar, ok1, gIsi, mIsi2, gIsi2, isTy2, isTy, Option.bind, bare, e_add, e_sub, e_int, e_lenS, e_lenT, e_lenL, e_lt, e_le, e_gt, e_ge, e_leC, e_ltC, e_isN, e_notN, e_pow,
  List.map_cons, List.map_nil, List.length_cons, List.length_nil, List.replicate_succ, List.replicate_zero, List.cons_append, List.nil_append, List.append_nil, List.getElem?_cons_zero, List.getElem?_cons_succ, List.set_cons_zero, List.set_cons_succ, Nat.reduceAdd, Nat.reduceSub, true_and, and_true, Bool.not_true, Bool.not_false, true_implies, forall_const, not_true_eq_false, false_implies, Bool.false_eq_true, not_false_eq_true, implies_true, eq_self, ne_eq, reduceCtorEq, Fl.rt.injEq, S.d.injEq, D.int.injEq, false_and, exists_false, or_false, false_or, exists_eq_left'])
local macro_rules | `(tactic| walk_at "wt") => `(tactic| simp (config := { contextual := false }) only [ok_row0, ok_row1, ok_row2, ok_row3, ok_put1, ok_put2, ok_put3, e_mod, e_div, e_mul, e_ixS, decide_true, decide_false, *, okF_runF, okF_runL, ok_seq, ok_ret, ok_retN, ok_andV, ok_orV, ok_notV, ok_cb, ok_cons, ok_nil, ok_test, ok_dv, ok_op, ok_un, ok_c, ok_if, ok_ifS, ok_and, ok_or, ok_not, ok_asg, ok_gname, ok_drop, ok_call, ok_chain, ok_nx, ok_bk, ok_ct, ok_st, ok_yes, ok_tup, ok_ok, ok_stuck, ex_toD, ex_toL, ex_bl, ex_some, ex_bl1, fl_nx, fl_rt, fl_bk, fl_ct, rt_or, nx_or, mVar, ok1, gIsi, mIsi2, gIsi2, isTy2, isTy, Option.bind, bare, e_add, e_sub, e_int, e_lenS, e_lenT, e_lenL, e_lt, e_le, e_gt, e_ge, e_leC, e_ltC, e_isN, e_notN, e_pow,
  List.map_cons, List.map_nil, List.length_cons, List.length_nil, List.replicate_succ, List.replicate_zero, List.cons_append, List.nil_append, List.append_nil, List.getElem?_cons_zero, List.getElem?_cons_succ, List.set_cons_zero, List.set_cons_succ, Nat.reduceAdd, Nat.reduceSub, true_and, and_true, Bool.not_true, Bool.not_false, true_implies, forall_const, not_true_eq_false, false_implies, Bool.false_eq_true, not_false_eq_true, implies_true, eq_self, ne_eq, reduceCtorEq, Fl.rt.injEq, S.d.injEq, D.int.injEq, false_and, exists_false, or_false, false_or, exists_eq_left'])
local macro_rules | `(tactic| walk_at "wy") => `(tactic| try walk_at "wp")
local macro_rules | `(tactic| walk_at "we") => `(tactic| first | done | rfl | exact ⟨rfl, rfl⟩ | exact ⟨rfl, rfl, rfl⟩)

namespace Lib
theorem pick_at {ns : List Int} {o : Option Nat} {a b c : Int} {r : Nat} {ρ : En} {fl : M S} {ds : List D} {P : S → En → Prop} (e : ρ[r]? = some (rowS o ns a b c)) (h : RowOk a b c) (hl : Ev fl ρ (.lst ds)) (h0 : 0 < ds.length) (h1 : ds.length ≤ 1000)
    (q : ∀ x a b c, x ∈ ds → RowOk a b c → P (.d x) (ρ.set r (rowS o ns a b c))) : OK (mCallO f_law_pick r 0 (aOwn r (aCons fl aNil)) ρ) P := by
  refine ok_callO (ok_own.mpr ⟨own_row e, ?_⟩)
  refine (ea_cons hl ea_nil).ok ⟨o, rowD ns a b c, e, Nat.zero_le _, (pick h h0 h1).imp fun s ρ' hp => ?_⟩
  obtain ⟨x, a', b', c', hx, rfl, h', ρ2, rfl⟩ := hp
  exact ⟨rowD ns a' b' c', rfl, rfl, q x a' b' c' hx h'⟩
theorem law_graph {ns : List Int} {a b c most : Int} (h : RowOk a b c) (h1 : 2 ≤ most) (h2 : most ≤ 60) :
    OK (f_law_graph [.o (some 0) (rowD ns a b c), .d (.int most)]) fun s ρ => ∃ (n : Nat) (as : List (Nat × Nat)) (ws : List Int) (a b c : Int), s = .d (.tup [.int n, .tup (as.map arcD), .tup (ws.map D.int)]) ∧ 2 ≤ n ∧ (n : Int) ≤ most ∧ OkArcs n as ∧ ws.length = as.length ∧ (∀ w ∈ ws, 1 ≤ w ∧ w ≤ 100) ∧ RowOk a b c ∧ ∃ ρ', ρ = some (.o (some 0) (rowD ns a b c)) :: ρ' := by
  unfold f_law_graph
  refine ok_runF rfl ?_
  show OK (b_law_graph [rowS (some 0) ns a b c, some (.d (.int most)), none, none, none, none]) _
  unfold b_law_graph
  refine ok_seqI (fun ρ => ∃ (n : Nat) (a b c : Int), 2 ≤ n ∧ (n : Int) ≤ most ∧ RowOk a b c ∧ ρ = [rowS (some 0) ns a b c, some (.d (.int most)), some (.d (.int n)), none, none, none]) ?_ ?_
  · rw [ok_asg, ok_dv, ok_op]
    refine ev_c.dv ?_
    rw [ok_dv]
    refine ok_taken (m := most - 1) rfl h ((ev_op (ev_var 1 rfl) ev_c rfl).dv ⟨rfl, rfl⟩) (by omega) (by omega) fun v a b c v0 v1 h => ?_
    refine ⟨_, rfl, _, rfl, _, rfl, ?_⟩
    rw [ok_gname]
    refine ⟨rfl, (2 + v).toNat, a, b, c, by omega, by omega, h, ?_⟩
    rw [Int.toNat_of_nonneg (by omega)]
    rfl
  clear h a b c
  rintro _ ⟨n, a, b, c, n1, n2, h, rfl⟩
  refine ok_seqI (fun ρ => ∃ (as : List (Nat × Nat)) (t a b c : Int), OkArcs n as ∧ 2 ≤ t ∧ t ≤ 100 ∧ RowOk a b c ∧ ρ = [rowS (some 0) ns a b c, some (.d (.int most)), some (.d (.int n)), some (.d (.tup (as.map arcD))), some (.d (.int t)), none]) ?_ ?_
  · refine ok_par2 ?_
    rw [ok_psCons]
    refine ok_callO (ok_own.mpr ⟨own_row (a := a) (b := b) (c := c) (ns := ns) (o := some 0) rfl, ?_⟩)
    rw [ok_cons]
    refine (ev_var 2 rfl).dv ?_
    rw [ok_cons, ok_dv]
    refine pick_at rfl h (ev_lst (ea_cons ev_c (ea_cons ev_c (ea_cons ev_c (ea_cons ev_c ea_nil))))) (by show 0 < 4; omega) (by show 4 ≤ 1000; omega) fun x a b c hx h => ?_
    refine ⟨x, rfl, ?_⟩
    rw [ok_nil]
    obtain ⟨m, rfl, m0, m1⟩ : ∃ m : Int, x = .int m ∧ 0 < m ∧ m < 1073741824 := by
      simp only [List.mem_cons, List.not_mem_nil, or_false] at hx
      rcases hx with rfl | rfl | rfl | rfl <;> exact ⟨_, rfl, by decide, by decide⟩
    refine ⟨some 0, rowD ns a b c, rfl, Nat.zero_le _, (law_arcs (n := n) (m := m) h (by omega) m0 m1).imp fun s ρ' hp => ?_⟩
    obtain ⟨as, a2, b2, c2, rfl, o, h, ρ2, rfl⟩ := hp
    refine ⟨rowD ns a2 b2 c2, rfl, rfl, ?_⟩
    rw [ok_psCons]
    refine pick_at (a := a2) (b := b2) (c := c2) rfl h (ev_lst (ea_cons ev_c (ea_cons ev_c (ea_cons ev_c ea_nil)))) (by show 0 < 3; omega) (by show 3 ≤ 1000; omega) fun x a b c hx h => ?_
    obtain ⟨t, rfl, t0, t1⟩ : ∃ t : Int, x = .int t ∧ 2 ≤ t ∧ t ≤ 100 := by
      simp only [List.mem_cons, List.not_mem_nil, or_false] at hx
      rcases hx with rfl | rfl | rfl <;> exact ⟨_, rfl, by decide, by decide⟩
    rw [ok_psNil]
    exact ⟨_, _, _, _, rfl, rfl, rfl, rfl, as, t, a, b, c, o, t0, t1, h, rfl⟩
  clear h a b c
  rintro _ ⟨as, t, a, b, c, o, t0, t1, h, rfl⟩
  have hl := o.len
  have hz : n * n ≤ 60 * 60 := Nat.mul_le_mul (by omega) (by omega)
  rw [ok_ret, ok_tup, ok_cons]
  refine (ev_var 2 rfl).dv ?_
  rw [ok_cons]
  refine (ev_var 3 rfl).dv ?_
  rw [ok_cons, ok_dv, ok_cb, ok_cons, ok_dv, ok_lc, ok_iseq]
  refine (ev_var 3 rfl).dv ⟨_, rfl, ?_⟩
  show OK (mComp (gmName 5) mYes _ [5] (as.map arcD) [] [rowS (some 0) ns a b c, some (.d (.int most)), some (.d (.int n)), some (.d (.tup (as.map arcD))), some (.d (.int t)), none]) _
  refine ok_compR (r := 0) (o := some 0) (ns := ns) (a := a) (b := b) (c := c) (Good := fun _ y => ∃ w : Int, y = .int w ∧ 1 ≤ w ∧ w ≤ 100) rfl h rfl (by decide) ?_ (by rw [List.length_map]; omega) ?_
  · rintro i x a b c ρ' hx h rfl er
    rw [ok_dv, ok_op]
    refine ev_c.dv ?_
    rw [ok_dv]
    refine ok_taken (m := t) rfl h ((ev_var 4 rfl).dv ⟨rfl, rfl⟩) (by omega) (by omega) fun v a b c v0 v1 h => ?_
    exact ⟨_, rfl, _, rfl, _, rfl, ⟨1 + v, rfl, by omega, by omega⟩, a, b, c, h, rfl⟩
  · intro ys a b c hy hg h
    have hw : ∃ ws : List Int, ys = ws.map D.int ∧ ∀ w ∈ ws, 1 ≤ w ∧ w ≤ 100 := by
      clear hy
      induction ys with
      | nil => exact ⟨[], rfl, fun w hw => by simp at hw⟩
      | cons y ys ih =>
        obtain ⟨w, rfl, w1, w2⟩ := hg 0 y rfl
        obtain ⟨ws, rfl, hh⟩ := ih fun i z hz => hg (i + 1) z (by simpa using hz)
        refine ⟨w :: ws, rfl, fun x hx => ?_⟩
        rcases List.mem_cons.mp hx with rfl | hx
        · exact ⟨w1, w2⟩
        · exact hh x hx
    obtain ⟨ws, rfl, hw⟩ := hw
    refine ⟨_, rfl, ?_⟩
    rw [ok_nil]
    refine ⟨_, rfl, _, rfl, ?_⟩
    rw [ok_nil]
    refine ⟨rfl, .inl ⟨_, rfl, n, as, ws, a, b, c, rfl, n1, n2, o, ?_, hw, h, _, rfl⟩⟩
    rw [List.length_map, List.length_map] at hy
    exact hy
end Lib
end Fx

/-! defs of the program and of laws, on data -/
namespace Fx.Lib
open PySem PySem.Spec PyProof.Rows L2
def b_paths_to : M Fl := (mSeq (mAsgO 3 (mLst aNil))
    (mSeq (mAsgO 4 (mLst (aCons (mTup (aCons (mVar 1) aNil)) aNil)))
    (mSeq (mWhile (mTruthO 4) (mSeq (mAsg (mMeth0 4 gPop) (gmName 5))
    (mIfS (mTest (mOp gIn (mOp gIx (mVar 5) (mUn gNeg (mC (.int 1)))) (mVar 2))) (mDrop (mMeth1 3 gApp (mVar 5))) (mDrop (mMeth1 4 gExt (mLc (iRevS (aCons (mOp gDget (mVar 0) (mOp gIx (mVar 5) (mUn gNeg (mC (.int 1))))) aNil)) (gmName 6) (mTest (mOp gNotIn (mVar 6) (mVar 5))) (mTup (aStar (mVar 5) (aCons (mVar 6) aNil))) [6]))))) 1000)
    (mRetO 3))))
def f_paths_to : Fn := runF 3 7 b_paths_to
def b_check_few : M Fl := (mIfS (mTest (mOp gGt (mCB gLen (aCons (mVar 0) aNil)) (mC (.int 500)))) mSt mNx)
def f_check_few : Fn := runF 1 1 b_check_few
def b_check_graph : M Fl := (mIfS (mNot (mTest (mIsC "Graph" (mVar 0)))) mSt mNx)
def f_check_graph : Fn := runF 1 1 b_check_graph
def b_check_node : M Fl := (mIfS (mNot (mTest (mCall f_is_number (aCons (mVar 1) (aCons (mC (.int 0)) (aCons (mOp gMinus (mCB gLen (aCons (mFldE "Graph" 0 (mVar 0)) aNil)) (mC (.int 1))) aNil)))))) mSt mNx)
def f_check_node : Fn := runF 2 2 b_check_node
def b_all_paths : M Fl := (mSeq (mAsg (mDc (iSeq (mFldE "Graph" 0 (mVar 0))) (gmName 6) mYes (mVar 6) (mLc (iSeq (mFldE "Graph" 1 (mVar 0))) (gmTup 2 (gmCons (gmName 4) (gmCons (gmName 5) gmNil))) (mTest (mOp gEq (mVar 4) (mVar 6))) (mVar 5) [4, 5]) [6]) (gmName 3))
    (mRet (mCall f_paths_to (aCons (mVar 3) (aCons (mVar 1) (aCons (mTup (aCons (mVar 2) aNil)) aNil))))))
def f_all_paths : Fn := runF 3 7 b_all_paths
def b_simple_paths : M Fl := (mSeq (mDrop (mCall f_check_graph (aCons (mVar 0) aNil)))
    (mSeq (mDrop (mCall f_check_node (aCons (mVar 0) (aCons (mVar 1) aNil))))
    (mSeq (mDrop (mCall f_check_node (aCons (mVar 0) (aCons (mVar 2) aNil))))
    (mSeq (mAsg (mCall f_all_paths (aCons (mVar 0) (aCons (mVar 1) (aCons (mVar 2) aNil)))) (gmName 3))
    (mSeq (mDrop (mCall f_check_few (aCons (mVar 3) aNil)))
    (mRet (mVar 3)))))))
def f_simple_paths : Fn := runF 3 4 b_simple_paths
def b_law_paths : M Fl := (mSeq (mPar2 3 true 4 false (psCons (mLst aNil) (psCons (mLst (aCons (mTup (aCons (mVar 1) aNil)) aNil)) psNil)))
    (mSeq (mFor (iRange1 (aCons (mC (.int 9)) aNil)) (gmName 5) (mSeq (mAsg (mLst aNil) (gmName 6))
    (mSeq (mFor (iSeq (mVar 4)) (gmName 7) (mIfS (mTest (mOp gEq (mOp gIx (mVar 7) (mUn gNeg (mC (.int 1)))) (mVar 2))) (mDrop (mMeth1 3 gApp (mVar 7))) (mAsg (mOp gAdd (mVar 6) (mLc (iSeq (mVar 0)) (gmTup 2 (gmCons (gmName 8) (gmCons (gmName 9) gmNil))) (mAnd (mTest (mOp gEq (mVar 8) (mOp gIx (mVar 7) (mUn gNeg (mC (.int 1)))))) (mTest (mOp gNotIn (mVar 9) (mVar 7)))) (mOp gAdd (mVar 7) (mTup (aCons (mVar 9) aNil))) [8, 9])) (gmName 6))))
    (mAsg (mVar 6) (gmName 4)))))
    (mRet (mCB gSortA (aCons (mVar 3) aNil)))))
def f_law_paths : Fn := runF 3 10 b_law_paths
def b_check_weights : M Fl := (mSeq (mIfS (mNot (mTest (mCall f_is_tuple (aCons (mVar 1) (aCons (mCB gLen (aCons (mFldE "Graph" 1 (mVar 0)) aNil)) (aCons (mCB gLen (aCons (mFldE "Graph" 1 (mVar 0)) aNil)) aNil)))))) mSt mNx)
    (mFor (iEnu (aCons (mVar 1) aNil)) (gmTup 2 (gmCons (gmName 2) (gmCons (gmName 3) gmNil))) (mIfS (mNot (mTest (mCall f_is_number (aCons (mVar 3) (aCons (mC (.int 1)) (aCons (mC (.int 100)) aNil)))))) mSt mNx)))
def f_check_weights : Fn := runF 2 4 b_check_weights
def b_check_weighted : M Fl := (mSeq (mDrop (mCall f_check_graph (aCons (mVar 0) aNil)))
    (mSeq (mDrop (mCall f_check_weights (aCons (mVar 0) (aCons (mVar 1) aNil))))
    (mFor (iSeq (mVar 2)) (gmName 3) (mDrop (mCall f_check_node (aCons (mVar 0) (aCons (mVar 3) aNil)))))))
def f_check_weighted : Fn := runF 3 4 b_check_weighted
def b_distances_to : M Fl := (mSeq (mAsgO 3 (mOp gMul (mLst (aCons (mC .non) aNil)) (mCB gLen (aCons (mFldE "Graph" 0 (mVar 0)) aNil))))
    (mSeq (mAsg (mC (.int 0)) (gmItem 3 (mVar 2)))
    (mSeq (mAsg (mC (.bl true)) (gmName 4))
    (mSeq (mWhile (mTruth (mVar 4)) (mSeq (mAsg (mC (.bl false)) (gmName 4))
    (mFor (iZip' (aCons (mFldE "Graph" 1 (mVar 0)) (aCons (mVar 1) aNil))) (gmTup 2 (gmCons (gmTup 2 (gmCons (gmName 5) (gmCons (gmName 6) gmNil))) (gmCons (gmName 7) gmNil))) (mIfS (mAnd (mTest (mOp gNotN (mIxO 3 (mVar 6)) (mC .non))) (mOr (mTest (mOp gIsN (mIxO 3 (mVar 5)) (mC .non))) (mTest (mOp gLt (mOp gAdd (mIxO 3 (mVar 6)) (mVar 7)) (mIxO 3 (mVar 5)))))) (mSeq (mAsg (mOp gAdd (mIxO 3 (mVar 6)) (mVar 7)) (gmItem 3 (mVar 5)))
    (mAsg (mC (.bl true)) (gmName 4))) mNx))) 10000)
    (mRetO 3)))))
def f_distances_to : Fn := runF 3 8 b_distances_to
def b_nearest_heads : M Fl := (mSeq (mAsg (mCall f_distances_to (aCons (mVar 0) (aCons (mVar 1) (aCons (mVar 2) aNil)))) (gmName 3))
    (mSeq (mSetDcQ 4 (iSeq (mFldE "Graph" 0 (mVar 0))) (gmName 5) mYes (mVar 5) (mLst aNil) [5])
    (mSeq (mFor (iZip' (aCons (mFldE "Graph" 1 (mVar 0)) (aCons (mVar 1) aNil))) (gmTup 2 (gmCons (gmTup 2 (gmCons (gmName 6) (gmCons (gmName 7) gmNil))) (gmCons (gmName 8) gmNil))) (mIfS (mAnd (mTest (mOp gNotN (mOp gIx (mVar 3) (mVar 7)) (mC .non))) (mTest (mOp gEq (mOp gAdd (mOp gIx (mVar 3) (mVar 7)) (mVar 8)) (mOp gIx (mVar 3) (mVar 6))))) (mDrop (mMethQ1 4 (mVar 6) gApp 7)) mNx))
    (mRet (mVarQ 4)))))
def f_nearest_heads : Fn := runF 3 9 b_nearest_heads
def b_distance : M Fl := (mSeq (mDrop (mCall f_check_weighted (aCons (mVar 0) (aCons (mVar 1) (aCons (mTup (aCons (mVar 2) (aCons (mVar 3) aNil))) aNil)))))
    (mRet (mOp gIx (mCall f_distances_to (aCons (mVar 0) (aCons (mVar 1) (aCons (mVar 3) aNil)))) (mVar 2))))
def f_distance : Fn := runF 4 4 b_distance
def b_nearest_paths : M Fl := (mSeq (mDrop (mCall f_check_weighted (aCons (mVar 0) (aCons (mVar 1) (aCons (mTup (aCons (mVar 2) (aCons (mVar 3) aNil))) aNil)))))
    (mSeq (mAsg (mCall f_paths_to (aCons (mCall f_nearest_heads (aCons (mVar 0) (aCons (mVar 1) (aCons (mVar 3) aNil)))) (aCons (mVar 2) (aCons (mTup (aCons (mVar 3) aNil)) aNil)))) (gmName 4))
    (mSeq (mDrop (mCall f_check_few (aCons (mVar 4) aNil)))
    (mRet (mVar 4)))))
def f_nearest_paths : Fn := runF 4 5 b_nearest_paths
def b_next_hops : M Fl := (mSeq (mDrop (mCall f_check_weighted (aCons (mVar 0) (aCons (mVar 1) (aCons (mTup (aCons (mVar 2) (aCons (mVar 3) aNil))) aNil)))))
    (mRet (mCB gTuple (aCons (mOp gDget (mCall f_nearest_heads (aCons (mVar 0) (aCons (mVar 1) (aCons (mVar 3) aNil)))) (mVar 2)) aNil))))
def f_next_hops : Fn := runF 4 4 b_next_hops
def b_law_sum : M Fl := (mRet (mCB gSumL (aCons (mLc (iRange1 (aCons (mOp gMinus (mCB gLen (aCons (mVar 2) aNil)) (mC (.int 1))) aNil)) (gmName 3) mYes (mOp gIx (mVar 1) (mIdx (mVar 0) (mSl (mVar 2) (oSome (mVar 3)) (oSome (mOp gAdd (mVar 3) (mC (.int 2))))))) [3]) aNil)))
def f_law_sum : Fn := runF 3 4 b_law_sum
def b_law_best : M Fl := (mSeq (mAsg (mLc (iSeq (mCall f_law_paths (aCons (mVar 0) (aCons (mVar 2) (aCons (mVar 3) aNil))))) (gmName 5) mYes (mTup (aCons (mCall f_law_sum (aCons (mVar 0) (aCons (mVar 1) (aCons (mVar 5) aNil)))) (aCons (mVar 5) aNil))) [5]) (gmName 4))
    (mSeq (mIfS (mTest (mOp gEq (mVar 4) (mLst aNil))) (mRet (mTup (aCons (mC .non) (aCons (mLst aNil) aNil)))) mNx)
    (mSeq (mAsg (mOp gIx (mCB gMinT (aCons (mVar 4) aNil)) (mC (.int 0))) (gmName 6))
    (mRet (mTup (aCons (mVar 6) (aCons (mLc (iSeq (mVar 4)) (gmTup 2 (gmCons (gmName 7) (gmCons (gmName 5) gmNil))) (mTest (mOp gEq (mVar 7) (mVar 6))) (mVar 5) [7, 5]) aNil)))))))
def f_law_best : Fn := runF 4 8 b_law_best
def b_check_goal : M Fl := (mSeq (mDrop (mCall f_check_weighted (aCons (mVar 0) (aCons (mVar 1) (aCons (mTup (aCons (mVar 2) (aCons (mVar 3) aNil))) aNil)))))
    (mIfS (mTest (mOp gEq (mVar 3) (mVar 2))) mSt mNx))
def f_check_goal : Fn := runF 4 4 b_check_goal
def b_check_ends : M Fl := (mSeq (mDrop (mCall f_check_weighted (aCons (mVar 0) (aCons (mVar 1) (aCons (mTup (aCons (mVar 2) (aCons (mVar 3) aNil))) aNil)))))
    (mSeq (mIfS (mTest (mOp gNotIn (mTup (aCons (mVar 2) (aCons (mVar 3) aNil))) (mFldE "Graph" 1 (mVar 0)))) mSt mNx)
    (mDrop (mCall f_check_goal (aCons (mVar 0) (aCons (mVar 1) (aCons (mVar 2) (aCons (mVar 4) aNil))))))))
def f_check_ends : Fn := runF 5 5 b_check_ends
def b_avoids_node : M Fl := (mSeq (mAsg (mCall f_nearest_paths (aCons (mVar 0) (aCons (mVar 1) (aCons (mVar 2) (aCons (mVar 3) aNil))))) (gmName 5))
    (mRet (mAndV (mOp gGt (mCB gLen (aCons (mVar 5) aNil)) (mC (.int 0))) (mCB gAll (aCons (mLc (iSeq (mVar 5)) (gmName 6) mYes (mOp gNotIn (mVar 4) (mVar 6)) [6]) aNil)))))
def f_avoids_node : Fn := runF 5 7 b_avoids_node
def b_is_spare : M Fl := (mSeq (mDrop (mCall f_check_ends (aCons (mVar 0) (aCons (mVar 1) (aCons (mVar 2) (aCons (mVar 3) (aCons (mVar 4) aNil)))))))
    (mRet (mCall f_avoids_node (aCons (mVar 0) (aCons (mVar 1) (aCons (mVar 3) (aCons (mVar 4) (aCons (mVar 2) aNil))))))))
def f_is_spare : Fn := runF 5 5 b_is_spare
def b_spares : M Fl := (mSeq (mDrop (mCall f_check_goal (aCons (mVar 0) (aCons (mVar 1) (aCons (mVar 2) (aCons (mVar 3) aNil))))))
    (mSeq (mAsg (mCall f_next_hops (aCons (mVar 0) (aCons (mVar 1) (aCons (mVar 2) (aCons (mVar 3) aNil))))) (gmName 4))
    (mSeq (mAsg (mLc (iSeq (mFldE "Graph" 1 (mVar 0))) (gmTup 2 (gmCons (gmName 6) (gmCons (gmName 7) gmNil))) (mAnd (mTest (mOp gEq (mVar 6) (mVar 2))) (mTest (mOp gNotIn (mVar 7) (mVar 4)))) (mVar 7) [6, 7]) (gmName 5))
    (mRet (mCB gTuple (aCons (mLc (iSeq (mVar 5)) (gmName 8) (mTest (mCall f_is_spare (aCons (mVar 0) (aCons (mVar 1) (aCons (mVar 2) (aCons (mVar 8) (aCons (mVar 3) aNil))))))) (mVar 8) [8]) aNil))))))
def f_spares : Fn := runF 4 9 b_spares
def b_is_node_spare : M Fl := (mSeq (mDrop (mCall f_check_ends (aCons (mVar 0) (aCons (mVar 1) (aCons (mVar 2) (aCons (mVar 3) (aCons (mVar 5) aNil)))))))
    (mSeq (mDrop (mCall f_check_node (aCons (mVar 0) (aCons (mVar 4) aNil))))
    (mSeq (mIfS (mTest (mOp gIn (mVar 4) (mTup (aCons (mVar 2) (aCons (mVar 3) (aCons (mVar 5) aNil)))))) mSt mNx)
    (mRet (mAndV (mCall f_is_spare (aCons (mVar 0) (aCons (mVar 1) (aCons (mVar 2) (aCons (mVar 3) (aCons (mVar 5) aNil)))))) (mCall f_avoids_node (aCons (mVar 0) (aCons (mVar 1) (aCons (mVar 3) (aCons (mVar 5) (aCons (mVar 4) aNil)))))))))))
def f_is_node_spare : Fn := runF 6 6 b_is_node_spare
end Fx.Lib

/-! dict comprehensions on data -/
namespace Fx
open PySem
local macro_rules | `(tactic| walk_at "wp") => `(tactic| simp only [okF_runF, okF_runL, ok_seq, ok_ret, ok_retN, ok_andV, ok_orV, ok_notV, ok_cb, ok_cons, ok_nil, ok_test, ok_dv, ok_op, ok_un, ok_c, ok_if, ok_ifS, ok_and, ok_or, ok_not, ok_asg, ok_gname, ok_drop, ok_call, ok_chain, ok_nx, ok_bk, ok_ct, ok_st, ok_yes, ok_tup, ok_ok, ok_stuck, ex_toD, ex_toL, ex_bl, ex_some, ex_bl1, fl_nx, fl_rt, fl_bk, fl_ct, rt_or, nx_or, mVar, ok1, gIsi, mIsi2, gIsi2, isTy2, isTy, Option.bind, bare, e_add, e_sub, e_int, e_lenS, e_lenT, e_lenL, e_lt, e_le, e_gt, e_ge, e_leC, e_ltC, e_isN, e_notN, e_pow,
  List.map_cons, List.map_nil, List.length_cons, List.length_nil, List.replicate_succ, List.replicate_zero, List.cons_append, List.nil_append, List.append_nil, List.getElem?_cons_zero, List.getElem?_cons_succ, List.set_cons_zero, List.set_cons_succ, Nat.reduceAdd, Nat.reduceSub, true_and, and_true, Bool.not_true, Bool.not_false, true_implies, forall_const, not_true_eq_false, false_implies, Bool.false_eq_true, not_false_eq_true, implies_true, eq_self, ne_eq, reduceCtorEq, Fl.rt.injEq, S.d.injEq, D.int.injEq, false_and, exists_false, or_false, false_or, exists_eq_left'])
local macro_rules | `(tactic| walk_at "wt") => `(tactic| simp (config := { contextual := false }) only [ok_row0, ok_row1, ok_row2, ok_row3, ok_put1, ok_put2, ok_put3, e_mod, e_div, e_mul, e_ixS, decide_true, decide_false, *, okF_runF, okF_runL, ok_seq, ok_ret, ok_retN, ok_andV, ok_orV, ok_notV, ok_cb, ok_cons, ok_nil, ok_test, ok_dv, ok_op, ok_un, ok_c, ok_if, ok_ifS, ok_and, ok_or, ok_not, ok_asg, ok_gname, ok_drop, ok_call, ok_chain, ok_nx, ok_bk, ok_ct, ok_st, ok_yes, ok_tup, ok_ok, ok_stuck, ex_toD, ex_toL, ex_bl, ex_some, ex_bl1, fl_nx, fl_rt, fl_bk, fl_ct, rt_or, nx_or, mVar, ok1, gIsi, mIsi2, gIsi2, isTy2, isTy, Option.bind, bare, e_add, e_sub, e_int, e_lenS, e_lenT, e_lenL, e_lt, e_le, e_gt, e_ge, e_leC, e_ltC, e_isN, e_notN, e_pow,
  List.map_cons, List.map_nil, List.length_cons, List.length_nil, List.replicate_succ, List.replicate_zero, List.cons_append, List.nil_append, List.append_nil, List.getElem?_cons_zero, List.getElem?_cons_succ, List.set_cons_zero, List.set_cons_succ, Nat.reduceAdd, Nat.reduceSub, true_and, and_true, Bool.not_true, Bool.not_false, true_implies, forall_const, not_true_eq_false, false_implies, Bool.false_eq_true, not_false_eq_true, implies_true, eq_self, ne_eq, reduceCtorEq, Fl.rt.injEq, S.d.injEq, D.int.injEq, false_and, exists_false, or_false, false_or, exists_eq_left'])
local macro_rules | `(tactic| walk_at "wy") => `(tactic| try walk_at "wp")
local macro_rules | `(tactic| walk_at "we") => `(tactic| first | done | rfl | exact ⟨rfl, rfl⟩ | exact ⟨rfl, rfl, rfl⟩)

section
variable {k : Nat} {fk fv : M S} {ρ0 : En} {vf : D → D} {PD : List D × List D → En → Prop}
/-- {x: f(x) for x in xs}, the xs keys, each once -/
theorem ok_dcomp : ∀ {items ks ds : List D}, (∀ x ∈ items, isKey x = true) → (∀ x ∈ items, ks.any (keyEq x) = false) → items.Pairwise (fun x y => keyEq y x = false) → ks.length + items.length ≤ 16777216 →
    (∀ x ∈ items, Ev fk (ρ0.set k (some (.d x))) x) → (∀ x ∈ items, OK (dv fv (ρ0.set k (some (.d x)))) fun y ρ3 => y = vf x ∧ ρ3.set k none = ρ0) → PD (ks ++ items, ds ++ items.map vf) ρ0 → OK (mDComp (gmName k) mYes fk fv [k] items ks ds ρ0) PD
  | [], ks, ds, _, _, _, _, _, _, q => by
    unfold mDComp
    rw [ok_ok]
    rw [List.append_nil, List.map_nil, List.append_nil] at q
    exact q
  | x :: xs, ks, ds, h1, h2, h3, h4, h5, h6, q => by
    unfold mDComp
    rw [ok_then, ok_calm, ok_gname, ok_then, ok_calm, ok_yes, if_pos rfl, ok_then, ok_calm]
    refine (h5 x List.mem_cons_self).dv ?_
    rw [ok_then, ok_calm]
    refine (h6 x List.mem_cons_self).imp fun y ρ3 ⟨e1, e2⟩ => ?_
    rw [List.pairwise_cons] at h3
    rw [List.length_cons] at h4
    have hz : (isKey x && !ks.any (keyEq x) && small (ks.length + 1)) = true := by
      rw [h1 x List.mem_cons_self, h2 x List.mem_cons_self]
      exact decide_eq_true (by omega)
    rw [if_pos hz]
    have ew : wipeE ρ3 [k] = ρ0 := e2
    rw [ew, e1]
    refine ok_dcomp (fun z hz => h1 z (List.mem_cons_of_mem _ hz)) (fun z hz => ?_) h3.2 (by rw [List.length_append]; simp only [List.length_cons, List.length_nil]; omega) (fun z hz => h5 z (List.mem_cons_of_mem _ hz)) (fun z hz => h6 z (List.mem_cons_of_mem _ hz)) ?_
    · rw [List.any_append, h2 z (List.mem_cons_of_mem _ hz)]
      simp [h3.1 z hz]
    · rw [List.append_assoc, List.append_assoc]
      exact q
end
section
variable {ρ : En} {k : Nat} {fs fk fv : M S} {vf : D → D} {items : List D} {x : D}
theorem ev_dc (hw : ρ.set k none = ρ) (hf : Ev fs ρ x) (hx : itemsD x = some items) (h1 : ∀ x ∈ items, isKey x = true) (h3 : items.Pairwise (fun x y => keyEq y x = false)) (h4 : items.length ≤ 16777216)
    (h5 : ∀ x ∈ items, Ev fk (ρ.set k (some (.d x))) x) (h6 : ∀ x ∈ items, OK (dv fv (ρ.set k (some (.d x)))) fun y ρ3 => y = vf x ∧ ρ3.set k none = ρ) : Ev (mDc (iSeq fs) (gmName k) mYes fk fv [k]) ρ (.dct items (items.map vf)) := by
  unfold Ev
  rw [ok_dv]
  unfold mDc
  rw [ok_then, ok_iseq]
  refine hf.dv ⟨_, hx, ?_⟩
  have ew : wipeE ρ [k] = ρ := hw
  rw [ew, ok_then]
  refine ok_dcomp h1 (fun z _ => rfl) h3 (by simpa using h4) h5 h6 ?_
  rw [ok_ok]
  exact ⟨_, rfl, rfl, rfl⟩
/-- d[i] -/
theorem ev_dget {fa fb : M S} {ks ds : List D} {y : D} {i : Nat} (ha : Ev fa ρ (.dct ks ds)) (hb : Ev fb ρ y) (hk : isKey y = true) (e1 : keyAt ks y = some i) (e2 : ds[i]? = some x) : Ev (mOp gDget fa fb) ρ x := ev_op ha hb (by
  show (if isKey y then (keyAt ks y).bind fun i => (ds[i]?).bind ok1 else none) = _
  rw [if_pos hk, e1]
  show (ds[i]?).bind ok1 = _
  rw [e2]
  rfl)
theorem keyAt_ints : ∀ {n i lo : Nat}, i < n → keyAt (intsFrom (lo : Int) n) (.int ((lo + i : Nat) : Int)) = some i
  | 0, _, _, h => absurd h (Nat.not_lt_zero _)
  | n + 1, 0, lo, _ => by
    unfold keyAt intsFrom
    rw [List.findIdx?_cons]
    simp [keyEq]
  | n + 1, i + 1, lo, h => by
    have ih := keyAt_ints (n := n) (i := i) (lo := lo + 1) (by omega)
    unfold keyAt at ih ⊢
    unfold intsFrom
    rw [List.findIdx?_cons]
    have e : keyEq (.int ((lo + (i + 1) : Nat) : Int)) (.int (lo : Int)) = false := by
      show decide (((lo + (i + 1) : Nat) : Int) = (lo : Int)) = false
      rw [decide_eq_false_iff_not]
      omega
    rw [e]
    have e3 : ((lo : Int) + 1) = ((lo + 1 : Nat) : Int) := by omega
    have e4 : lo + (i + 1) = lo + 1 + i := by omega
    rw [e3, e4]
    simp only [Bool.false_eq_true, if_false, ih, Option.map_some]
end
end Fx

/-! a while, a stack -/
namespace Fx
open PySem
/-- a while that is sure to end: m counts down -/
theorem ok_while {ft : M Bool} {F : M Fl} {PF : Fl → En → Prop} {I : Nat → En → Prop} (st : ∀ m ρ, I m ρ → OK (ft ρ) fun b ρ1 => (b = true → OK (F ρ1) fun f ρ2 => f = .nx ∧ ∃ m', m' < m ∧ I m' ρ2) ∧ (¬b = true → PF .nx ρ1)) :
    ∀ {fuel m : Nat} {ρ : En}, m < fuel → I m ρ → OK (mWhile ft F fuel ρ) PF
  | 0, _, _, h, _ => absurd h (Nat.not_lt_zero _)
  | fuel + 1, m, ρ, h, hi => by
    unfold mWhile
    rw [ok_then]
    refine (st m ρ hi).imp fun b ρ1 ⟨k1, k2⟩ => ?_
    by_cases hb : b = true
    · rw [if_pos hb, ok_then]
      refine (k1 hb).imp fun f ρ2 ⟨e, m', hm, hi'⟩ => ?_
      subst e
      exact ok_while st (by omega) hi'
    · rw [if_neg hb, ok_ok]
      exact k2 hb
section
variable {ρ : En} {i : Nat} {b : Option Nat} {ds : List D}
theorem eb_truO (e : ρ[i]? = some (some (.o b (.lst ds)))) : EvB (mTruthO i) ρ (!ds.isEmpty) := by
  unfold EvB mTruthO
  rw [e]
  dsimp only
  rw [ok_ok]
  exact ⟨rfl, rfl⟩
end
end Fx

/-! k01: the program's defs on data -/
namespace Fx.Lib
open PySem
local macro_rules | `(tactic| walk_at "wp") => `(tactic| simp only [okF_runF, okF_runL, ok_seq, ok_ret, ok_retN, ok_andV, ok_orV, ok_notV, ok_cb, ok_cons, ok_nil, ok_test, ok_dv, ok_op, ok_un, ok_c, ok_if, ok_ifS, ok_and, ok_or, ok_not, ok_asg, ok_gname, ok_drop, ok_call, ok_chain, ok_nx, ok_bk, ok_ct, ok_st, ok_yes, ok_tup, ok_ok, ok_stuck, ex_toD, ex_toL, ex_bl, ex_some, ex_bl1, fl_nx, fl_rt, fl_bk, fl_ct, rt_or, nx_or, mVar, ok1, gIsi, mIsi2, gIsi2, isTy2, isTy, Option.bind, bare, e_add, e_sub, e_int, e_lenS, e_lenT, e_lenL, e_lt, e_le, e_gt, e_ge, e_leC, e_ltC, e_isN, e_notN, e_pow,
  List.map_cons, List.map_nil, List.length_cons, List.length_nil, List.replicate_succ, List.replicate_zero, List.cons_append, List.nil_append, List.append_nil, List.getElem?_cons_zero, List.getElem?_cons_succ, List.set_cons_zero, List.set_cons_succ, Nat.reduceAdd, Nat.reduceSub, true_and, and_true, Bool.not_true, Bool.not_false, true_implies, forall_const, not_true_eq_false, false_implies, Bool.false_eq_true, not_false_eq_true, implies_true, eq_self, ne_eq, reduceCtorEq, Fl.rt.injEq, S.d.injEq, D.int.injEq, false_and, exists_false, or_false, false_or, exists_eq_left'])
local macro_rules | `(tactic| walk_at "wt") => `(tactic| simp (config := { contextual := false }) only [ok_row0, ok_row1, ok_row2, ok_row3, ok_put1, ok_put2, ok_put3, e_mod, e_div, e_mul, e_ixS, decide_true, decide_false, *, okF_runF, okF_runL, ok_seq, ok_ret, ok_retN, ok_andV, ok_orV, ok_notV, ok_cb, ok_cons, ok_nil, ok_test, ok_dv, ok_op, ok_un, ok_c, ok_if, ok_ifS, ok_and, ok_or, ok_not, ok_asg, ok_gname, ok_drop, ok_call, ok_chain, ok_nx, ok_bk, ok_ct, ok_st, ok_yes, ok_tup, ok_ok, ok_stuck, ex_toD, ex_toL, ex_bl, ex_some, ex_bl1, fl_nx, fl_rt, fl_bk, fl_ct, rt_or, nx_or, mVar, ok1, gIsi, mIsi2, gIsi2, isTy2, isTy, Option.bind, bare, e_add, e_sub, e_int, e_lenS, e_lenT, e_lenL, e_lt, e_le, e_gt, e_ge, e_leC, e_ltC, e_isN, e_notN, e_pow,
  List.map_cons, List.map_nil, List.length_cons, List.length_nil, List.replicate_succ, List.replicate_zero, List.cons_append, List.nil_append, List.append_nil, List.getElem?_cons_zero, List.getElem?_cons_succ, List.set_cons_zero, List.set_cons_succ, Nat.reduceAdd, Nat.reduceSub, true_and, and_true, Bool.not_true, Bool.not_false, true_implies, forall_const, not_true_eq_false, false_implies, Bool.false_eq_true, not_false_eq_true, implies_true, eq_self, ne_eq, reduceCtorEq, Fl.rt.injEq, S.d.injEq, D.int.injEq, false_and, exists_false, or_false, false_or, exists_eq_left'])
local macro_rules | `(tactic| walk_at "wy") => `(tactic| try walk_at "wp")
local macro_rules | `(tactic| walk_at "we") => `(tactic| first | done | rfl | exact ⟨rfl, rfl⟩ | exact ⟨rfl, rfl, rfl⟩)

theorem ev_fld {ρ : En} {fe : M S} {n : String} {i : Nat} {ds : List D} {y : D} (h : Ev fe ρ (.ins n ds)) (e : ds[i]? = some y) : Ev (mFldE n i fe) ρ y := ev_of (ok_fld (h.dv ⟨ds, y, rfl, e, rfl, rfl⟩))
theorem check_graph {n : Nat} {as : List (Nat × Nat)} : OKF (f_check_graph [.d (graphD n as)]) fun s => s = .d .non := by
  unfold f_check_graph b_check_graph graphD
  walk_at "wp"
  unfold mIsC
  walk_at "wp"
  refine ⟨_, rfl, ?_⟩
  walk_at "wp"
  first | done | rfl | exact ⟨_, rfl, fun n => (by cases n), fun _ => rfl⟩ | exact ⟨fun n => (by cases n), fun _ => rfl⟩ | exact fun n => (by cases n)
theorem check_node {n i : Nat} {as : List (Nat × Nat)} (hi : i < n) : OKF (f_check_node [.d (graphD n as), .d (.int i)]) fun s => s = .d .non := by
  rw [okF]
  unfold f_check_node
  refine ok_runF rfl ?_
  show OK (b_check_node [some (.d (graphD n as)), some (.d (.int i))]) _
  unfold b_check_node
  rw [ok_ifS]
  have e : Ev (mCall f_is_number (aCons (mVar 1) (aCons (mC (.int 0)) (aCons (mOp gMinus (mCB gLen (aCons (mFldE "Graph" 0 (mVar 0)) aNil)) (mC (.int 1))) aNil)))) [some (.d (graphD n as)), some (.d (.int i))] (.bl true) := by
    refine ev_call (ea_cons (ev_var 1 rfl) (ea_cons ev_c (ea_cons (ev_op (ev_cb (z := .int (n : Int)) (ea_cons (ev_fld (ev_var 0 rfl) rfl) ea_nil) ?_) ev_c rfl) ea_nil))) ?_
    · show some (S.d (.int ((intsFrom 0 n).length : Nat))) = _
      rw [intsFrom_length]
    · skip
      refine (num (o := some (i : Int)) (lo := 0) (hi := (n : Int) - 1)).mpr ?_
      show S.d (.bl (decide (0 ≤ (i : Int)) && decide ((i : Int) ≤ (n : Int) - 1))) = _
      rw [decide_eq_true (by omega), decide_eq_true (by omega)]
      rfl
  refine (eb_not (eb_test e)).ok ⟨fun n => (by cases n), fun _ => ?_⟩
  rw [ok_nx]
  exact .inr ⟨rfl, rfl⟩
/-- the heads of node i, ascending -/
def hd (as : List (Nat × Nat)) (i : Nat) : List Nat := (as.filter fun p => decide (p.1 = i)).map fun p => p.2
def natsD (l : List Nat) : D := .lst (l.map fun i : Nat => D.int i)
def headsD (n : Nat) (as : List (Nat × Nat)) : D := .dct (intsFrom 0 n) ((intsFrom 0 n).map fun x => match x with | .int i => natsD (hd as i.toNat) | _ => .non)
theorem heads {n g i : Nat} {as : List (Nat × Nat)} (hn : n ≤ 1000) (hl : as.length ≤ 1000000) : Ev (mDc (iSeq (mFldE "Graph" 0 (mVar 0))) (gmName 6) mYes (mVar 6) (mLc (iSeq (mFldE "Graph" 1 (mVar 0))) (gmTup 2 (gmCons (gmName 4) (gmCons (gmName 5) gmNil))) (mTest (mOp gEq (mVar 4) (mVar 6))) (mVar 5) [4, 5]) [6])
    [some (.d (graphD n as)), some (.d (.int i)), some (.d (.int g)), none, none, none, none] (headsD n as) := by
  have at_ : ∀ x ∈ intsFrom 0 n, ∃ j : Nat, x = .int j ∧ j < n := fun x hx => by
    obtain ⟨j, hj⟩ := List.getElem?_of_mem hx
    obtain ⟨rfl, h⟩ := intsFrom_at hj
    exact ⟨j, rfl, h⟩
  refine ev_dc rfl (ev_fld (ev_var 0 rfl) rfl) rfl (fun x hx => ?_) ?_ (by rw [intsFrom_length]; omega) (fun x hx => ev_var 6 rfl) (fun x hx => ?_)
  · obtain ⟨j, rfl, _⟩ := at_ x hx
    rfl
  · rw [List.pairwise_iff_getElem]
    intro a b ha hb hab
    rw [intsFrom_length] at ha hb
    have e1 := intsFrom_get n 0 a ha
    have e2 := intsFrom_get n 0 b hb
    rw [List.getElem?_eq_getElem (by rw [intsFrom_length]; exact ha)] at e1
    rw [List.getElem?_eq_getElem (by rw [intsFrom_length]; exact hb)] at e2
    rw [Option.some.inj e1, Option.some.inj e2]
    show decide ((0 : Int) + (b : Int) = 0 + (a : Int)) = false
    rw [decide_eq_false_iff_not]
    omega
  · obtain ⟨j, rfl, hj⟩ := at_ x hx
    show OK (dv (mLc _ _ _ _ _) [some (.d (graphD n as)), some (.d (.int i)), some (.d (.int g)), none, none, none, some (.d (.int (j : Nat)))]) _
    rw [ok_dv, ok_lc, ok_iseq]
    refine (ev_fld (n := "Graph") (i := 1) (ev_var 0 rfl) rfl).dv ⟨_, rfl, ?_⟩
    have e0 : as.map arcD = (as.map fun p => ((D.int (p.1 : Nat), D.int (p.2 : Nat)) : D × D)).map fun p => D.tup [p.1, p.2] := by
      rw [List.map_map]
      rfl
    rw [e0]
    show OK (mComp _ _ _ [4, 5] _ [] [some (.d (graphD n as)), some (.d (.int i)), some (.d (.int g)), none, none, none, some (.d (.int (j : Nat)))]) _
    refine ok_mapP (t := fun p => match p.1 with | .int a => decide (a = (j : Int)) | _ => false) (f := fun p => p.2) (by rw [List.length_map]; omega) ?_ ?_
    · intro p hp
      obtain ⟨q, _, rfl⟩ := List.mem_map.mp hp
      refine (eb_test (ev_eq (ev_var 4 rfl) (ev_var 6 rfl))).ok ⟨rfl, fun _ => ?_, fun _ => rfl⟩
      exact (ev_var 5 rfl).dv ⟨rfl, rfl⟩
    · refine ⟨_, rfl, ?_, rfl⟩
      show D.lst _ = natsD (hd as ((j : Nat) : Int).toNat)
      rw [Int.toNat_natCast]
      unfold natsD hd
      rw [List.filter_map, List.map_map, List.map_map]
      congr 1
      have ef : (as.filter ((fun p : D × D => match p.1 with | .int a => decide (a = (j : Int)) | _ => false) ∘ fun p => ((D.int (p.1 : Nat), D.int (p.2 : Nat)) : D × D))) = as.filter fun p => decide (p.1 = j) := by
        refine List.filter_congr fun p _ => ?_
        show decide (((p.1 : Nat) : Int) = (j : Int)) = decide (p.1 = j)
        rw [decide_eq_decide]
        omega
      rw [ef]
      rfl
end Fx.Lib

/-! k01: paths_to on data -/
namespace Fx.Lib
open PySem
local macro_rules | `(tactic| walk_at "wp") => `(tactic| simp only [okF_runF, okF_runL, ok_seq, ok_ret, ok_retN, ok_andV, ok_orV, ok_notV, ok_cb, ok_cons, ok_nil, ok_test, ok_dv, ok_op, ok_un, ok_c, ok_if, ok_ifS, ok_and, ok_or, ok_not, ok_asg, ok_gname, ok_drop, ok_call, ok_chain, ok_nx, ok_bk, ok_ct, ok_st, ok_yes, ok_tup, ok_ok, ok_stuck, ex_toD, ex_toL, ex_bl, ex_some, ex_bl1, fl_nx, fl_rt, fl_bk, fl_ct, rt_or, nx_or, mVar, ok1, gIsi, mIsi2, gIsi2, isTy2, isTy, Option.bind, bare, e_add, e_sub, e_int, e_lenS, e_lenT, e_lenL, e_lt, e_le, e_gt, e_ge, e_leC, e_ltC, e_isN, e_notN, e_pow,
  List.map_cons, List.map_nil, List.length_cons, List.length_nil, List.replicate_succ, List.replicate_zero, List.cons_append, List.nil_append, List.append_nil, List.getElem?_cons_zero, List.getElem?_cons_succ, List.set_cons_zero, List.set_cons_succ, Nat.reduceAdd, Nat.reduceSub, true_and, and_true, Bool.not_true, Bool.not_false, true_implies, forall_const, not_true_eq_false, false_implies, Bool.false_eq_true, not_false_eq_true, implies_true, eq_self, ne_eq, reduceCtorEq, Fl.rt.injEq, S.d.injEq, D.int.injEq, false_and, exists_false, or_false, false_or, exists_eq_left'])
local macro_rules | `(tactic| walk_at "wt") => `(tactic| simp (config := { contextual := false }) only [ok_row0, ok_row1, ok_row2, ok_row3, ok_put1, ok_put2, ok_put3, e_mod, e_div, e_mul, e_ixS, decide_true, decide_false, *, okF_runF, okF_runL, ok_seq, ok_ret, ok_retN, ok_andV, ok_orV, ok_notV, ok_cb, ok_cons, ok_nil, ok_test, ok_dv, ok_op, ok_un, ok_c, ok_if, ok_ifS, ok_and, ok_or, ok_not, ok_asg, ok_gname, ok_drop, ok_call, ok_chain, ok_nx, ok_bk, ok_ct, ok_st, ok_yes, ok_tup, ok_ok, ok_stuck, ex_toD, ex_toL, ex_bl, ex_some, ex_bl1, fl_nx, fl_rt, fl_bk, fl_ct, rt_or, nx_or, mVar, ok1, gIsi, mIsi2, gIsi2, isTy2, isTy, Option.bind, bare, e_add, e_sub, e_int, e_lenS, e_lenT, e_lenL, e_lt, e_le, e_gt, e_ge, e_leC, e_ltC, e_isN, e_notN, e_pow,
  List.map_cons, List.map_nil, List.length_cons, List.length_nil, List.replicate_succ, List.replicate_zero, List.cons_append, List.nil_append, List.append_nil, List.getElem?_cons_zero, List.getElem?_cons_succ, List.set_cons_zero, List.set_cons_succ, Nat.reduceAdd, Nat.reduceSub, true_and, and_true, Bool.not_true, Bool.not_false, true_implies, forall_const, not_true_eq_false, false_implies, Bool.false_eq_true, not_false_eq_true, implies_true, eq_self, ne_eq, reduceCtorEq, Fl.rt.injEq, S.d.injEq, D.int.injEq, false_and, exists_false, or_false, false_or, exists_eq_left'])
local macro_rules | `(tactic| walk_at "wy") => `(tactic| try walk_at "wp")
local macro_rules | `(tactic| walk_at "we") => `(tactic| first | done | rfl | exact ⟨rfl, rfl⟩ | exact ⟨rfl, rfl, rfl⟩)

def pathD (p : List Nat) : D := .tup (p.map fun i : Nat => D.int i)
def lst (p : List Nat) : Nat := p.getLast?.getD 0
/-- the paths a step longer -/
def exts (as : List (Nat × Nat)) (p : List Nat) : List (List Nat) := ((hd as (lst p)).filter fun h => !decide (h ∈ p)).map fun h => p ++ [h]
def wt : Nat → Nat
  | 0 => 1
  | k + 1 => 1 + (k + 1) * wt k
def load (n : Nat) (st : List (List Nat)) : Nat := (st.map fun p => wt (n - p.length)).sum
/-- depth first, the stack's top first -/
def dfs (as : List (Nat × Nat)) (g : Nat) : Nat → List (List Nat) → List (List Nat) → List (List Nat)
  | 0, _, acc => acc
  | _ + 1, [], acc => acc
  | f + 1, p :: st, acc => if lst p = g then dfs as g f st (acc ++ [p]) else dfs as g f (exts as p ++ st) acc
structure Good (n : Nat) (p : List Nat) : Prop where
  ne : p ≠ []
  nd : p.Nodup
  lt : ∀ i ∈ p, i < n
theorem nodup_len {n : Nat} {p : List Nat} (h : p.Nodup) (k : ∀ i ∈ p, i < n) : p.length ≤ n := by
  have h1 : (p.map fun i : Nat => (i : Int)).Nodup := by
    unfold List.Nodup at h ⊢
    rw [List.pairwise_map]
    exact h.imp fun h e => h (by omega)
  have h2 := Rw.len_sub (l := p.map fun i : Nat => (i : Int)) (m := (List.range n).map fun i : Nat => (i : Int)) h1 fun x hx => by
    obtain ⟨i, hi, rfl⟩ := List.mem_map.mp hx
    exact List.mem_map.mpr ⟨i, List.mem_range.mpr (k i hi), rfl⟩
  rw [List.length_map, List.length_map, List.length_range] at h2
  exact h2
section
variable {n : Nat} {as : List (Nat × Nat)} (o : OkArcs n as)
include o
theorem hd_nodup (i : Nat) : (hd as i).Nodup := by
  unfold hd List.Nodup
  rw [List.pairwise_map]
  refine List.Pairwise.imp_of_mem (fun {p q} hp hq h => ?_) (o.asc.filter _)
  have h1 := (List.mem_filter.mp hp).2
  have h2 := (List.mem_filter.mp hq).2
  rw [decide_eq_true_eq] at h1 h2
  unfold ltA at h
  omega
theorem hd_lt {i h : Nat} (hm : h ∈ hd as i) : h < n := by
  unfold hd at hm
  obtain ⟨p, hp, rfl⟩ := List.mem_map.mp hm
  exact (o.rng p (List.mem_filter.mp hp).1).2.1
theorem exts_good {p q : List Nat} (gp : Good n p) (hq : q ∈ exts as p) : Good n q ∧ q.length = p.length + 1 := by
  unfold exts at hq
  obtain ⟨h, hh, rfl⟩ := List.mem_map.mp hq
  obtain ⟨h1, h2⟩ := List.mem_filter.mp hh
  have h2 : h ∉ p := by simpa using h2
  refine ⟨⟨by simp, ?_, fun i hi => ?_⟩, by simp⟩
  · rw [List.nodup_append]
    refine ⟨gp.nd, by simp, fun a ha b hb => ?_⟩
    rw [List.mem_singleton.mp hb]
    intro e
    exact h2 (e ▸ ha)
  · rcases List.mem_append.mp hi with hi | hi
    · exact gp.lt i hi
    · rw [List.mem_singleton.mp hi]
      exact hd_lt o h1
theorem exts_len {p : List Nat} (gp : Good n p) : (exts as p).length + p.length ≤ n := by
  unfold exts
  rw [List.length_map]
  have nd : (p ++ (hd as (lst p)).filter fun h => !decide (h ∈ p)).Nodup := by
    rw [List.nodup_append]
    refine ⟨gp.nd, (hd_nodup o _).filter _, fun a ha b hb e => ?_⟩
    have := (List.mem_filter.mp hb).2
    simp at this
    exact this (e ▸ ha)
  have := nodup_len (n := n) nd fun i hi => by
    rcases List.mem_append.mp hi with hi | hi
    · exact gp.lt i hi
    · exact hd_lt o (List.mem_filter.mp hi).1
  rw [List.length_append] at this
  omega
theorem load_exts {p : List Nat} (gp : Good n p) : load n (exts as p) < wt (n - p.length) := by
  have hl := exts_len o gp
  have e : load n (exts as p) = (exts as p).length * wt (n - p.length - 1) := by
    unfold load
    have key : ∀ l : List (List Nat), (∀ q ∈ l, q.length = p.length + 1) → (l.map fun q => wt (n - q.length)).sum = l.length * wt (n - p.length - 1) := by
      intro l
      induction l with
      | nil => simp
      | cons q l ih =>
        intro h
        rw [List.map_cons, List.sum_cons, ih fun r hr => h r (List.mem_cons_of_mem _ hr), h q List.mem_cons_self, List.length_cons, Nat.succ_mul]
        have : n - (p.length + 1) = n - p.length - 1 := by omega
        rw [this]
        omega
    exact key _ fun q hq => (exts_good o gp hq).2
  rw [e]
  cases hk : n - p.length with
  | zero =>
    have : (exts as p).length = 0 := by omega
    rw [this]
    simp [wt]
  | succ k =>
    have h1 : (exts as p).length * wt (k + 1 - 1) ≤ (k + 1) * wt k := by
      rw [Nat.add_sub_cancel]
      exact Nat.mul_le_mul (by omega) (Nat.le_refl _)
    show _ < 1 + (k + 1) * wt k
    omega
end
end Fx.Lib

/-! k01: paths_to keeps dfs -/
namespace Fx.Lib
open PySem
local macro_rules | `(tactic| walk_at "wp") => `(tactic| simp only [okF_runF, okF_runL, ok_seq, ok_ret, ok_retN, ok_andV, ok_orV, ok_notV, ok_cb, ok_cons, ok_nil, ok_test, ok_dv, ok_op, ok_un, ok_c, ok_if, ok_ifS, ok_and, ok_or, ok_not, ok_asg, ok_gname, ok_drop, ok_call, ok_chain, ok_nx, ok_bk, ok_ct, ok_st, ok_yes, ok_tup, ok_ok, ok_stuck, ex_toD, ex_toL, ex_bl, ex_some, ex_bl1, fl_nx, fl_rt, fl_bk, fl_ct, rt_or, nx_or, mVar, ok1, gIsi, mIsi2, gIsi2, isTy2, isTy, Option.bind, bare, e_add, e_sub, e_int, e_lenS, e_lenT, e_lenL, e_lt, e_le, e_gt, e_ge, e_leC, e_ltC, e_isN, e_notN, e_pow,
  List.map_cons, List.map_nil, List.length_cons, List.length_nil, List.replicate_succ, List.replicate_zero, List.cons_append, List.nil_append, List.append_nil, List.getElem?_cons_zero, List.getElem?_cons_succ, List.set_cons_zero, List.set_cons_succ, Nat.reduceAdd, Nat.reduceSub, true_and, and_true, Bool.not_true, Bool.not_false, true_implies, forall_const, not_true_eq_false, false_implies, Bool.false_eq_true, not_false_eq_true, implies_true, eq_self, ne_eq, reduceCtorEq, Fl.rt.injEq, S.d.injEq, D.int.injEq, false_and, exists_false, or_false, false_or, exists_eq_left'])
local macro_rules | `(tactic| walk_at "wt") => `(tactic| simp (config := { contextual := false }) only [ok_row0, ok_row1, ok_row2, ok_row3, ok_put1, ok_put2, ok_put3, e_mod, e_div, e_mul, e_ixS, decide_true, decide_false, *, okF_runF, okF_runL, ok_seq, ok_ret, ok_retN, ok_andV, ok_orV, ok_notV, ok_cb, ok_cons, ok_nil, ok_test, ok_dv, ok_op, ok_un, ok_c, ok_if, ok_ifS, ok_and, ok_or, ok_not, ok_asg, ok_gname, ok_drop, ok_call, ok_chain, ok_nx, ok_bk, ok_ct, ok_st, ok_yes, ok_tup, ok_ok, ok_stuck, ex_toD, ex_toL, ex_bl, ex_some, ex_bl1, fl_nx, fl_rt, fl_bk, fl_ct, rt_or, nx_or, mVar, ok1, gIsi, mIsi2, gIsi2, isTy2, isTy, Option.bind, bare, e_add, e_sub, e_int, e_lenS, e_lenT, e_lenL, e_lt, e_le, e_gt, e_ge, e_leC, e_ltC, e_isN, e_notN, e_pow,
  List.map_cons, List.map_nil, List.length_cons, List.length_nil, List.replicate_succ, List.replicate_zero, List.cons_append, List.nil_append, List.append_nil, List.getElem?_cons_zero, List.getElem?_cons_succ, List.set_cons_zero, List.set_cons_succ, Nat.reduceAdd, Nat.reduceSub, true_and, and_true, Bool.not_true, Bool.not_false, true_implies, forall_const, not_true_eq_false, false_implies, Bool.false_eq_true, not_false_eq_true, implies_true, eq_self, ne_eq, reduceCtorEq, Fl.rt.injEq, S.d.injEq, D.int.injEq, false_and, exists_false, or_false, false_or, exists_eq_left'])
local macro_rules | `(tactic| walk_at "wy") => `(tactic| try walk_at "wp")
local macro_rules | `(tactic| walk_at "we") => `(tactic| first | done | rfl | exact ⟨rfl, rfl⟩ | exact ⟨rfl, rfl, rfl⟩)

section
variable {ρ : En} {fa fe : M S} {x y : D} {ft : M Bool}
theorem ev_last {ds : List D} (ha : Ev fa ρ (.tup (ds ++ [x]))) : Ev (mOp gIx fa (mUn gNeg (mC (.int 1)))) ρ x := ev_op ha (ev_un ev_c rfl) (by
  have e : L2.atI (ds ++ [x]) (-1) = some x := by
    have hi : L2.ixN (ds ++ [x]).length (-1) = some ds.length := by
      rw [List.length_append, List.length_singleton]
      unfold L2.ixN
      simp
      try omega
    unfold L2.atI
    rw [hi]
    simp
  show (L2.atI (ds ++ [x]) (-1)).bind ok1 = _
  rw [e]
  rfl)
theorem ok_pop {i : Nat} {b : Option Nat} {ds : List D} {P : S → En → Prop} (e : ρ[i]? = some (some (.o b (.lst (ds ++ [x]))))) (q : P (.d x) (ρ.set i (some (.o b (.lst ds))))) : OK (mMeth0 i gPop ρ) P := by
  have eg : gPop (ds ++ [x]) = some (x, ds) := by
    have hi : (ds ++ [x])[(ds ++ [x]).length - 1]? = some x := by
      rw [List.length_append, List.length_singleton, Nat.add_sub_cancel]
      simp
    show (match (ds ++ [x])[(ds ++ [x]).length - 1]? with
      | some y => some (y, (ds ++ [x]).dropLast)
      | none => none) = _
    rw [hi]
    simp
  unfold mMeth0
  rw [e]
  dsimp only
  rw [eg]
  dsimp only
  rw [ok_ok]
  exact q
theorem ok_ext {i : Nat} {b : Option Nat} {ds es : List D} {PF : S → En → Prop} (e1 : ρ[i]? = some (some (.o b (.lst ds)))) (hb : Ev fe ρ (.lst es)) (hk : ds.length + es.length ≤ 1000000) (q : PF (.d .non) (ρ.set i (some (.o b (.lst (ds ++ es)))))) : OK (mMeth1 i gExt fe ρ) PF := by
  have hs : small (ds.length + es.length) = true := decide_eq_true (by omega)
  have eg : gExt ds (.lst es) = some (.non, ds ++ es) := if_pos hs
  unfold mMeth1 ownL
  rw [e1]
  dsimp only
  rw [if_pos rfl, ok_then]
  refine hb.dv ?_
  rw [e1]
  dsimp only
  rw [eg]
  dsimp only
  rw [ok_ok]
  exact q
/-- [f(x) for x in reversed(xs) if t] -/
theorem ev_revfm {k : Nat} {items : List D} {t : D → Bool} {f : D → D} {fs : M S} (hk : k < ρ.length) (hw : ρ.set k none = ρ) (hf : Ev fs ρ (.lst items)) (st : ∀ x ∈ items, EvB ft (ρ.set k (some (.d x))) (t x)) (sv : ∀ x ∈ items, Ev fe (ρ.set k (some (.d x))) (f x)) (hs : items.length ≤ 1000000) :
    Ev (mLc (iRevS (aCons fs aNil)) (gmName k) ft fe [k]) ρ (.lst ((items.reverse.filter t).map f)) := by
  have hwipe : ∀ x, wipeE (ρ.set k (some (.d x))) [k] = ρ := fun x => by
    show (ρ.set k (some (.d x))).set k none = ρ
    rw [List.set_set, hw]
  unfold Ev
  rw [ok_dv, ok_lc]
  unfold iRevS
  rw [ok_then]
  refine (ea_cons hf ea_nil).ok ?_
  dsimp only
  rw [ok_ok]
  have ew : wipeE ρ [k] = ρ := hw
  rw [ew]
  refine ok_comp (I := fun i a ρ' => a = ((items.reverse.take i).filter t).map f ∧ ρ' = ρ) (k := 0) ⟨by simp, rfl⟩ ?_ ?_
  · rintro i x a ρ' hx ⟨rfl, rfl⟩
    have hm : x ∈ items := List.mem_reverse.mp (List.mem_of_getElem? hx)
    have hi : i < items.reverse.length := (List.getElem?_eq_some_iff.mp hx).1
    rw [List.length_reverse] at hi
    have hle : ((items.reverse.take i).filter t).length ≤ i := Nat.le_trans (List.length_filter_le _ _) (by rw [List.length_take]; omega)
    have e : ((items.reverse.take (i + 1)).filter t).map f = ((items.reverse.take i).filter t).map f ++ (if t x then [f x] else []) := by
      rw [List.take_add_one, hx, List.filter_append, List.map_append]
      congr 1
      show List.map f (List.filter t [x]) = _
      rw [List.filter_cons, List.filter_nil]
      split <;> rfl
    rw [ok_gname]
    refine (st x hm).ok ⟨fun h => ?_, fun h => ?_⟩
    · refine (sv x hm).dv ⟨?_, ?_, hwipe x⟩
      · rw [List.length_map, Nat.zero_add]
        exact decide_eq_true (by omega)
      · rw [Nat.zero_add, e, if_pos h]
    · refine ⟨?_, hwipe x⟩
      rw [Nat.zero_add, e, if_neg h, List.append_nil]
  · rintro a ρ' ⟨rfl, rfl⟩
    rw [Nat.zero_add, List.take_length]
    exact ⟨_, rfl, rfl, rfl⟩
end
theorem gIn_one {a b : Int} : gIn (.int a) (.tup [.int b]) = some (.d (.bl (decide (b = a)))) := by
  have e : inD (.int a) [.int b] = decide (b = a) := by
    unfold inD
    simp only [List.any_cons, List.any_nil, Bool.or_false]
    rfl
  show (if (pl60 (.int a) && plA 60 [.int b]) = true then ok1 (.bl (inD (.int a) [.int b])) else none) = _
  rw [e]
  rfl
theorem gNotIn_ints {a : Nat} {p : List Nat} (hl : p.length ≤ 1000) : gNotIn (.int a) (pathD p) = some (.d (.bl (!decide (a ∈ p)))) := by
  have hp : plA 60 (p.map fun i : Nat => D.int i) = true := by
    have h : pl 61 (.tup (p.map fun i : Nat => D.int i)) = true := fit_pl (n := 1) (fit_tup (n := 0) (by rw [List.length_map]; omega) fun x hx => by
      obtain ⟨q, _, rfl⟩ := List.mem_map.mp hx
      exact fit_int) (by decide)
    exact h
  have e : inD (.int a) (p.map fun i : Nat => D.int i) = decide (a ∈ p) := by
    unfold inD
    rw [List.any_map, Bool.eq_iff_iff, List.any_eq_true, decide_eq_true_eq]
    constructor
    · rintro ⟨q, hq, h⟩
      have h : decide ((q : Int) = (a : Int)) = true := h
      rw [decide_eq_true_eq] at h
      have : q = a := by omega
      exact this ▸ hq
    · intro h
      refine ⟨a, h, ?_⟩
      show decide ((a : Int) = (a : Int)) = true
      simp
  show (if (pl60 (.int a) && plA 60 (p.map fun i : Nat => D.int i)) = true then ok1 (.bl (!inD (.int a) (p.map fun i : Nat => D.int i))) else none) = _
  rw [hp, e]
  rfl
theorem wt_small : ∀ {k : Nat}, k ≤ 5 → wt k ≤ 326
  | 0, _ => by decide
  | 1, _ => by decide
  | 2, _ => by decide
  | 3, _ => by decide
  | 4, _ => by decide
  | 5, _ => by decide
  | k + 6, h => by omega
theorem wt_pos : ∀ k : Nat, 1 ≤ wt k
  | 0 => Nat.le_refl _
  | k + 1 => by
    show 1 ≤ 1 + (k + 1) * wt k
    omega
theorem load_cons {n : Nat} {p : List Nat} {st : List (List Nat)} : load n (p :: st) = wt (n - p.length) + load n st := by
  unfold load
  rw [List.map_cons, List.sum_cons]
theorem load_app {n : Nat} {a b : List (List Nat)} : load n (a ++ b) = load n a + load n b := by
  unfold load
  rw [List.map_append, List.sum_append]
theorem load_len {n : Nat} : ∀ {st : List (List Nat)}, st.length ≤ load n st
  | [] => Nat.zero_le _
  | p :: st => by
    have := load_len (n := n) (st := st)
    have := wt_pos (n - p.length)
    rw [load_cons, List.length_cons]
    omega
theorem exts_rev {as : List (Nat × Nat)} {p : List Nat} : ((((hd as (lst p)).map fun i : Nat => D.int i).reverse.filter fun x => match x with | .int i => !decide (i.toNat ∈ p) | _ => false).map fun x => match x with | .int i => pathD (p ++ [i.toNat]) | _ => .non) = (exts as p).reverse.map pathD := by
  unfold exts
  rw [← List.map_reverse, List.filter_map, List.map_map, ← List.map_reverse, List.map_map, List.filter_reverse]
  congr 1
theorem paths_to {n node g : Nat} {as : List (Nat × Nat)} (o : OkArcs n as) (hn : n ≤ 6) (h1 : node < n) : OKF (f_paths_to [.d (headsD n as), .d (.int node), .d (.tup [.int g])]) fun s => s = .o none (.lst ((dfs as g (wt (n - 1)) [[node]] []).map pathD)) := by
  have w5 : wt (n - 1) ≤ 326 := wt_small (by omega)
  rw [okF]
  unfold f_paths_to
  refine ok_runF rfl ?_
  show OK (b_paths_to [some (.d (headsD n as)), some (.d (.int node)), some (.d (.tup [.int g])), none, none, none, none]) _
  unfold b_paths_to
  refine ok_seqI (fun ρ => ρ = [some (.d (headsD n as)), some (.d (.int node)), some (.d (.tup [.int g])), some (.o none (.lst [])), none, none, none]) ?_ ?_
  · rw [ok_asgO, ok_lst]
    exact ea_nil.ok ⟨rfl, .inl ⟨_, rfl, rfl, rfl⟩⟩
  rintro _ rfl
  refine ok_seqI (fun ρ => ρ = [some (.d (headsD n as)), some (.d (.int node)), some (.d (.tup [.int g])), some (.o none (.lst [])), some (.o none (.lst [pathD [node]])), none, none]) ?_ ?_
  · rw [ok_asgO, ok_lst]
    exact (ea_cons (ev_tup (ea_cons (ev_var 1 rfl) ea_nil)) ea_nil).ok ⟨rfl, .inl ⟨_, rfl, rfl, rfl⟩⟩
  rintro _ rfl
  generalize hR : dfs as g (wt (n - 1)) [[node]] [] = R
  refine ok_seqI (fun ρ => ∃ x4 x5, ρ = [some (.d (headsD n as)), some (.d (.int node)), some (.d (.tup [.int g])), some (.o none (.lst (R.map pathD))), x4, x5, none]) ?_ ?_
  · refine ok_while (I := fun m ρ => ∃ st acc x5, (∀ p ∈ st, Good n p) ∧ load n st = m ∧ (∃ f, m ≤ f ∧ dfs as g f st acc = R) ∧ acc.length + m ≤ 1000 ∧ ρ = [some (.d (headsD n as)), some (.d (.int node)), some (.d (.tup [.int g])), some (.o none (.lst (acc.map pathD))), some (.o none (.lst (st.reverse.map pathD))), x5, none]) ?_ (m := wt (n - 1)) (by omega) ⟨[[node]], [], none, ?_, ?_, ⟨_, Nat.le_refl _, hR⟩, ?_, rfl⟩
    · rintro m ρ ⟨st, acc, x5, hg, hm, ⟨f, hf, hd'⟩, hl, rfl⟩
      refine (eb_truO rfl).ok ⟨fun hb => ?_, fun hb => ?_⟩
      · cases st with
        | nil => simp at hb
        | cons p st =>
          have gp := hg p List.mem_cons_self
          have gs : ∀ q ∈ st, Good n q := fun q hq => hg q (List.mem_cons_of_mem _ hq)
          obtain ⟨p0, l, rfl⟩ : ∃ p0 l, p = p0 ++ [l] := ⟨p.dropLast, p.getLast gp.ne, (List.dropLast_concat_getLast gp.ne).symm⟩
          have el : lst (p0 ++ [l]) = l := by
            unfold lst
            simp
          have wp := wt_pos (n - (p0 ++ [l]).length)
          rw [load_cons] at hm
          have hplen := nodup_len gp.nd gp.lt
          obtain ⟨f, rfl⟩ : ∃ f', f = f' + 1 := ⟨f - 1, by omega⟩
          refine ok_seqI (fun ρ => ρ = [some (.d (headsD n as)), some (.d (.int node)), some (.d (.tup [.int g])), some (.o none (.lst (acc.map pathD))), some (.o none (.lst (st.reverse.map pathD))), some (.d (pathD (p0 ++ [l]))), none]) ?_ ?_
          · rw [ok_asg, ok_dv]
            have e : ((p0 ++ [l]) :: st).reverse.map pathD = st.reverse.map pathD ++ [pathD (p0 ++ [l])] := by
              rw [List.reverse_cons, List.map_append]
              rfl
            rw [e]
            refine ok_pop rfl ⟨_, rfl, ?_⟩
            rw [ok_gname]
            exact ⟨rfl, rfl⟩
          rintro _ rfl
          have ep : pathD (p0 ++ [l]) = .tup (p0.map (fun i : Nat => D.int i) ++ [.int l]) := by
            unfold pathD
            rw [List.map_append]
            rfl
          have elast : Ev (mOp gIx (mVar 5) (mUn gNeg (mC (.int 1)))) [some (.d (headsD n as)), some (.d (.int node)), some (.d (.tup [.int g])), some (.o none (.lst (acc.map pathD))), some (.o none (.lst (st.reverse.map pathD))), some (.d (pathD (p0 ++ [l]))), none] (.int l) := ev_last (ds := p0.map fun i : Nat => D.int i) (ev_var 5 (by rw [← ep]; rfl))
          rw [ok_ifS]
          refine (eb_test (ev_op elast (ev_var 2 rfl) gIn_one)).ok ⟨fun hb => ?_, fun hb => ?_⟩
          · have hgl : lst (p0 ++ [l]) = g := by
              rw [decide_eq_true_eq] at hb
              rw [el]
              omega
            rw [ok_drop]
            refine ok_appE rfl (ev_var 5 rfl) (by rw [List.length_map]; omega) ⟨rfl, load n st, by omega, st, acc ++ [p0 ++ [l]], some (.d (pathD (p0 ++ [l]))), gs, rfl, ⟨f, by omega, ?_⟩, by rw [List.length_append, List.length_singleton]; omega, ?_⟩
            · rw [← hd']
              show _ = if lst (p0 ++ [l]) = g then _ else _
              rw [if_pos hgl]
            · rw [List.map_append]
              rfl
          · have hgl : ¬lst (p0 ++ [l]) = g := by
              rw [decide_eq_true_eq] at hb
              rw [el]
              omega
            have le := load_exts o gp
            have ln : l < n := gp.lt l (by simp)
            rw [ok_drop]
            have hl1 := load_len (n := n) (st := st)
            have hl2 := exts_len o gp
            have hh : (hd as l).length ≤ n := nodup_len (hd_nodup o l) fun i hi => hd_lt o hi
            have ev : Ev (mLc (iRevS (aCons (mOp gDget (mVar 0) (mOp gIx (mVar 5) (mUn gNeg (mC (.int 1))))) aNil)) (gmName 6) (mTest (mOp gNotIn (mVar 6) (mVar 5))) (mTup (aStar (mVar 5) (aCons (mVar 6) aNil))) [6]) [some (.d (headsD n as)), some (.d (.int node)), some (.d (.tup [.int g])), some (.o none (.lst (acc.map pathD))), some (.o none (.lst (st.reverse.map pathD))), some (.d (pathD (p0 ++ [l]))), none] (.lst ((exts as (p0 ++ [l])).reverse.map pathD)) := by
              rw [← exts_rev, el]
              refine ev_revfm (by show 6 < 7; omega) rfl (ev_dget (i := l) (ev_var 0 rfl) elast rfl ?_ ?_) ?_ ?_ (by rw [List.length_map]; omega)
              · have := keyAt_ints (n := n) (i := l) (lo := 0) ln
                rw [Nat.zero_add] at this
                exact this
              · rw [List.getElem?_map, intsFrom_get n 0 l ln]
                show some (natsD (hd as ((0 : Int) + (l : Int)).toNat)) = some (natsD (hd as l))
                rw [Int.zero_add, Int.toNat_natCast]
              · intro x hx
                obtain ⟨i, _, rfl⟩ := List.mem_map.mp hx
                exact eb_test (ev_op (ev_var 6 rfl) (ev_var 5 rfl) (by
                  rw [gNotIn_ints (by omega)]
                  show _ = some (S.d (.bl (!decide (((i : Nat) : Int).toNat ∈ p0 ++ [l]))))
                  rw [Int.toNat_natCast]))
              · intro x hx
                obtain ⟨i, _, rfl⟩ := List.mem_map.mp hx
                have e2 : pathD (p0 ++ [l] ++ [((i : Nat) : Int).toNat]) = .tup ((p0 ++ [l]).map (fun i : Nat => D.int i) ++ [.int i]) := by
                  unfold pathD
                  rw [Int.toNat_natCast, List.map_append]
                  rfl
                show Ev _ _ (pathD (p0 ++ [l] ++ [((i : Nat) : Int).toNat]))
                rw [e2]
                refine ev_tup ?_ (decide_eq_true (by rw [List.length_append, List.length_map, List.length_singleton]; omega))
                unfold EvA aStar
                rw [ok_then]
                refine (ev_var 5 rfl).dv ?_
                show OK (((aCons (mVar 6) aNil) _).then fun es ρ2 => Out.ok ((p0 ++ [l]).map (fun i : Nat => D.int i) ++ es) ρ2) _
                rw [ok_then]
                refine (ea_cons (ev_var 6 rfl) ea_nil).ok ?_
                rw [ok_ok]
                exact ⟨rfl, rfl⟩
            refine ok_ext rfl ev (by rw [List.length_map, List.length_reverse, List.length_map, List.length_reverse]; omega) ⟨rfl, load n (exts as (p0 ++ [l]) ++ st), by rw [load_app]; omega, exts as (p0 ++ [l]) ++ st, acc, some (.d (pathD (p0 ++ [l]))), fun q hq => ?_, rfl, ⟨f, by rw [load_app]; omega, ?_⟩, by rw [load_app]; omega, ?_⟩
            · rcases List.mem_append.mp hq with hq | hq
              · exact (exts_good o gp hq).1
              · exact gs q hq
            · rw [← hd']
              show _ = if lst (p0 ++ [l]) = g then _ else _
              rw [if_neg hgl]
            · rw [List.reverse_append, List.map_append]
              rfl
      · cases st with
        | cons p st => simp at hb
        | nil =>
          have : acc = R := by
            rw [← hd']
            cases f <;> rfl
          rw [← this]
          exact ⟨rfl, _, _, rfl⟩
    · intro p hp
      rw [List.mem_singleton.mp hp]
      exact ⟨by simp, by simp, fun i hi => by rw [List.mem_singleton.mp hi]; exact h1⟩
    · show wt (n - 1) + 0 = _
      rfl
    · show 0 + wt (n - 1) ≤ 1000
      omega
  rintro _ ⟨x4, x5, rfl⟩
  unfold mRetO
  dsimp only [List.getElem?_cons_succ, List.getElem?_cons_zero]
  rw [ok_ok]
  exact .inl ⟨_, rfl, rfl⟩
end Fx.Lib

/-! k01: the tree of simple paths -/
namespace Fx.Lib
open PySem
/-- the paths to g from p on, k steps more at most -/
def tree (as : List (Nat × Nat)) (g : Nat) : Nat → List Nat → List (List Nat)
  | 0, p => if lst p = g then [p] else []
  | k + 1, p => if lst p = g then [p] else (exts as p).flatMap (tree as g k)
theorem tree_goal {as : List (Nat × Nat)} {g k : Nat} {p : List Nat} (h : lst p = g) : tree as g k p = [p] := by
  cases k with
  | zero => exact if_pos h
  | succ k => exact if_pos h
def toI (p : List Nat) : List Int := p.map fun i : Nat => (i : Int)
theorem pathD_tp {p : List Nat} : pathD p = tpD (toI p) := by
  unfold pathD tpD toI
  rw [List.map_map]
  rfl
theorem lexI_split {x y : Int} (h : x < y) : ∀ {a s t : List Int}, lexI (a ++ x :: s) (a ++ y :: t) = true
  | [], s, t => by
    show (if x = y then lexI s t else decide (x < y)) = true
    rw [if_neg (by omega)]
    exact decide_eq_true h
  | b :: a, s, t => by
    show (if b = b then lexI (a ++ x :: s) (a ++ y :: t) else decide (b < b)) = true
    rw [if_pos rfl]
    exact lexI_split h
section
variable {n g : Nat} {as : List (Nat × Nat)} (o : OkArcs n as)
include o
theorem exts_none {p : List Nat} (gp : Good n p) (h : n - p.length = 0) : exts as p = [] := by
  have := exts_len o gp
  exact List.eq_nil_of_length_eq_zero (by omega)
theorem tree_step {p : List Nat} (gp : Good n p) (h : ¬lst p = g) : tree as g (n - p.length) p = (exts as p).flatMap fun q => tree as g (n - q.length) q := by
  have e : (exts as p).flatMap (fun q => tree as g (n - q.length) q) = (exts as p).flatMap (tree as g (n - p.length - 1)) := by
    rw [List.flatMap_def, List.flatMap_def]
    congr 1
    refine List.map_congr_left fun q hq => ?_
    rw [(exts_good o gp hq).2]
    rfl
  rw [e]
  cases hk : n - p.length with
  | zero =>
    rw [exts_none o gp hk]
    exact if_neg h
  | succ k => exact if_neg h
theorem dfs_tree : ∀ {f : Nat} {st acc : List (List Nat)}, load n st ≤ f → (∀ p ∈ st, Good n p) → dfs as g f st acc = acc ++ st.flatMap fun p => tree as g (n - p.length) p
  | 0, st, acc, h, _ => by
    have := load_len (n := n) (st := st)
    have e : st = [] := List.eq_nil_of_length_eq_zero (by omega)
    rw [e]
    simp [dfs]
  | f + 1, [], acc, _, _ => by simp [dfs]
  | f + 1, p :: st, acc, h, hg => by
    have gp := hg p List.mem_cons_self
    have gs : ∀ q ∈ st, Good n q := fun q hq => hg q (List.mem_cons_of_mem _ hq)
    have wp := wt_pos (n - p.length)
    rw [load_cons] at h
    rw [List.flatMap_cons]
    show (if lst p = g then dfs as g f st (acc ++ [p]) else dfs as g f (exts as p ++ st) acc) = _
    by_cases e : lst p = g
    · rw [if_pos e, dfs_tree (by omega) gs, tree_goal e, List.append_assoc]
    · have le := load_exts o gp
      rw [if_neg e, dfs_tree (by rw [load_app]; omega) fun q hq => ?_, List.flatMap_append, tree_step o gp e]
      rcases List.mem_append.mp hq with hq | hq
      · exact (exts_good o gp hq).1
      · exact gs q hq
theorem tree_pre {k : Nat} : ∀ {p q : List Nat}, q ∈ tree as g k p → ∃ s, q = p ++ s := by
  induction k with
  | zero =>
    intro p q h
    unfold tree at h
    split at h
    · exact ⟨[], by rw [List.mem_singleton.mp h, List.append_nil]⟩
    · simp at h
  | succ k ih =>
    intro p q h
    unfold tree at h
    split at h
    · exact ⟨[], by rw [List.mem_singleton.mp h, List.append_nil]⟩
    · obtain ⟨r, hr, hq⟩ := List.mem_flatMap.mp h
      obtain ⟨s, rfl⟩ := ih hq
      unfold exts at hr
      obtain ⟨x, _, rfl⟩ := List.mem_map.mp hr
      exact ⟨[x] ++ s, by rw [List.append_assoc]⟩
theorem tree_asc {k : Nat} : ∀ {p : List Nat}, (tree as g k p).Pairwise fun a b => lexI (toI a) (toI b) = true := by
  induction k with
  | zero =>
    intro p
    unfold tree
    split
    · exact List.pairwise_singleton _ _
    · exact .nil
  | succ k ih =>
    intro p
    unfold tree
    split
    · exact List.pairwise_singleton _ _
    · rw [List.pairwise_flatMap]
      refine ⟨fun q _ => ih, ?_⟩
      unfold exts
      rw [List.pairwise_map]
      have hasc : (hd as (lst p)).Pairwise (· < ·) := by
        unfold hd
        rw [List.pairwise_map]
        refine List.Pairwise.imp_of_mem (fun {a b} ha hb h => ?_) (o.asc.filter _)
        have h1 := (List.mem_filter.mp ha).2
        have h2 := (List.mem_filter.mp hb).2
        rw [decide_eq_true_eq] at h1 h2
        unfold ltA at h
        omega
      refine (hasc.filter _).imp fun {a b} hab x hx y hy => ?_
      obtain ⟨s, rfl⟩ := tree_pre o hx
      obtain ⟨t, rfl⟩ := tree_pre o hy
      unfold toI
      rw [List.map_append, List.map_append, List.map_append, List.map_append, List.append_assoc, List.append_assoc]
      exact lexI_split (x := (a : Int)) (y := (b : Int)) (by omega)
end
end Fx.Lib

/-! k01: simple_paths, and the law's own paths, on data -/
namespace Fx.Lib
open PySem
local macro_rules | `(tactic| walk_at "wp") => `(tactic| simp only [okF_runF, okF_runL, ok_seq, ok_ret, ok_retN, ok_andV, ok_orV, ok_notV, ok_cb, ok_cons, ok_nil, ok_test, ok_dv, ok_op, ok_un, ok_c, ok_if, ok_ifS, ok_and, ok_or, ok_not, ok_asg, ok_gname, ok_drop, ok_call, ok_chain, ok_nx, ok_bk, ok_ct, ok_st, ok_yes, ok_tup, ok_ok, ok_stuck, ex_toD, ex_toL, ex_bl, ex_some, ex_bl1, fl_nx, fl_rt, fl_bk, fl_ct, rt_or, nx_or, mVar, ok1, gIsi, mIsi2, gIsi2, isTy2, isTy, Option.bind, bare, e_add, e_sub, e_int, e_lenS, e_lenT, e_lenL, e_lt, e_le, e_gt, e_ge, e_leC, e_ltC, e_isN, e_notN, e_pow,
  List.map_cons, List.map_nil, List.length_cons, List.length_nil, List.replicate_succ, List.replicate_zero, List.cons_append, List.nil_append, List.append_nil, List.getElem?_cons_zero, List.getElem?_cons_succ, List.set_cons_zero, List.set_cons_succ, Nat.reduceAdd, Nat.reduceSub, true_and, and_true, Bool.not_true, Bool.not_false, true_implies, forall_const, not_true_eq_false, false_implies, Bool.false_eq_true, not_false_eq_true, implies_true, eq_self, ne_eq, reduceCtorEq, Fl.rt.injEq, S.d.injEq, D.int.injEq, false_and, exists_false, or_false, false_or, exists_eq_left'])
local macro_rules | `(tactic| walk_at "wt") => `(tactic| simp (config := { contextual := false }) only [ok_row0, ok_row1, ok_row2, ok_row3, ok_put1, ok_put2, ok_put3, e_mod, e_div, e_mul, e_ixS, decide_true, decide_false, *, okF_runF, okF_runL, ok_seq, ok_ret, ok_retN, ok_andV, ok_orV, ok_notV, ok_cb, ok_cons, ok_nil, ok_test, ok_dv, ok_op, ok_un, ok_c, ok_if, ok_ifS, ok_and, ok_or, ok_not, ok_asg, ok_gname, ok_drop, ok_call, ok_chain, ok_nx, ok_bk, ok_ct, ok_st, ok_yes, ok_tup, ok_ok, ok_stuck, ex_toD, ex_toL, ex_bl, ex_some, ex_bl1, fl_nx, fl_rt, fl_bk, fl_ct, rt_or, nx_or, mVar, ok1, gIsi, mIsi2, gIsi2, isTy2, isTy, Option.bind, bare, e_add, e_sub, e_int, e_lenS, e_lenT, e_lenL, e_lt, e_le, e_gt, e_ge, e_leC, e_ltC, e_isN, e_notN, e_pow,
  List.map_cons, List.map_nil, List.length_cons, List.length_nil, List.replicate_succ, List.replicate_zero, List.cons_append, List.nil_append, List.append_nil, List.getElem?_cons_zero, List.getElem?_cons_succ, List.set_cons_zero, List.set_cons_succ, Nat.reduceAdd, Nat.reduceSub, true_and, and_true, Bool.not_true, Bool.not_false, true_implies, forall_const, not_true_eq_false, false_implies, Bool.false_eq_true, not_false_eq_true, implies_true, eq_self, ne_eq, reduceCtorEq, Fl.rt.injEq, S.d.injEq, D.int.injEq, false_and, exists_false, or_false, false_or, exists_eq_left'])
local macro_rules | `(tactic| walk_at "wy") => `(tactic| try walk_at "wp")
local macro_rules | `(tactic| walk_at "we") => `(tactic| first | done | rfl | exact ⟨rfl, rfl⟩ | exact ⟨rfl, rfl, rfl⟩)

theorem gSortA_tps {ps : List (List Int)} (h : ∀ p ∈ ps, p ≠ []) : gSortA [.lst (ps.map tpD)] = some (.o none (.lst ((isortL ps).map tpD))) := by
  cases ps with
  | nil => rfl
  | cons p ps =>
    have e : gSortA [.lst ((p :: ps).map tpD)] = (tpsOf ((p :: ps).map tpD)).map fun qs => S.o none (.lst ((isortL qs).map tpD)) := rfl
    rw [e, tpsOf_map h]
    rfl
section
variable {n g : Nat} {as : List (Nat × Nat)} (o : OkArcs n as)
include o
theorem tree_len : ∀ {k : Nat} {p : List Nat}, Good n p → n - p.length ≤ k → (tree as g k p).length ≤ wt k
  | 0, p, gp, h => by
    unfold tree
    split
    · exact Nat.le_refl _
    · exact Nat.zero_le _
  | k + 1, p, gp, h => by
    unfold tree
    split
    · exact wt_pos _
    · have key : ∀ l : List (List Nat), (∀ q ∈ l, (tree as g k q).length ≤ wt k) → (l.flatMap (tree as g k)).length ≤ l.length * wt k := by
        intro l
        induction l with
        | nil => simp
        | cons q l ih =>
          intro hl
          rw [List.flatMap_cons, List.length_append, List.length_cons, Nat.succ_mul]
          have := hl q List.mem_cons_self
          have := ih fun r hr => hl r (List.mem_cons_of_mem _ hr)
          omega
      have h1 := key (exts as p) fun q hq => tree_len (exts_good o gp hq).1 (by rw [(exts_good o gp hq).2]; omega)
      have h2 := exts_len o gp
      have h3 : (exts as p).length * wt k ≤ (k + 1) * wt k := Nat.mul_le_mul (by omega) (Nat.le_refl _)
      show _ ≤ 1 + (k + 1) * wt k
      omega
end
section
variable {n g : Nat} {as : List (Nat × Nat)} (o : OkArcs n as)
include o
theorem tree_pl : ∀ {k : Nat} {p : List Nat}, Good n p → ∀ q ∈ tree as g k p, q.length ≤ n
  | 0, p, gp, q, h => by
    unfold tree at h
    split at h
    · rw [List.mem_singleton.mp h]
      exact nodup_len gp.nd gp.lt
    · simp at h
  | k + 1, p, gp, q, h => by
    unfold tree at h
    split at h
    · rw [List.mem_singleton.mp h]
      exact nodup_len gp.nd gp.lt
    · obtain ⟨r, hr, hq⟩ := List.mem_flatMap.mp h
      exact tree_pl (exts_good o gp hr).1 q hq
end
/-- those that end at g, the others a step longer -/
def hits (g : Nat) (st : List (List Nat)) : List (List Nat) := st.filter fun p => decide (lst p = g)
def grow (as : List (Nat × Nat)) (g : Nat) (st : List (List Nat)) : List (List Nat) := (st.filter fun p => !decide (lst p = g)).flatMap (exts as)
theorem hits_cons {g : Nat} {p : List Nat} {st : List (List Nat)} : hits g (p :: st) = if lst p = g then p :: hits g st else hits g st := by
  unfold hits
  rw [List.filter_cons]
  by_cases h : lst p = g <;> simp [h]
theorem grow_cons {as : List (Nat × Nat)} {g : Nat} {p : List Nat} {st : List (List Nat)} : grow as g (p :: st) = if lst p = g then grow as g st else exts as p ++ grow as g st := by
  unfold grow
  rw [List.filter_cons]
  by_cases h : lst p = g <;> simp [h]
theorem hits_app {g : Nat} {a b : List (List Nat)} : hits g (a ++ b) = hits g a ++ hits g b := List.filter_append ..
theorem grow_app {as : List (Nat × Nat)} {g : Nat} {a b : List (List Nat)} : grow as g (a ++ b) = grow as g a ++ grow as g b := by
  unfold grow
  rw [List.filter_append, List.flatMap_append]
section
variable {n g : Nat} {as : List (Nat × Nat)} (o : OkArcs n as)
include o
theorem grow_good {st : List (List Nat)} {k : Nat} (hg : ∀ p ∈ st, Good n p ∧ p.length = k) : ∀ p ∈ grow as g st, Good n p ∧ p.length = k + 1 := by
  intro p hp
  unfold grow at hp
  obtain ⟨q, hq, h⟩ := List.mem_flatMap.mp hp
  obtain ⟨g1, g2⟩ := hg q (List.mem_filter.mp hq).1
  have := exts_good o g1 h
  exact ⟨this.1, by omega⟩
theorem load_grow : ∀ {st : List (List Nat)}, (∀ p ∈ st, Good n p) → (hits g st).length + load n (grow as g st) ≤ load n st
  | [], _ => Nat.le_refl _
  | p :: st, hg => by
    have ih := load_grow (st := st) fun q hq => hg q (List.mem_cons_of_mem _ hq)
    have wp := wt_pos (n - p.length)
    rw [hits_cons, grow_cons, load_cons]
    by_cases h : lst p = g
    · rw [if_pos h, if_pos h, List.length_cons]
      omega
    · have := load_exts o (hg p List.mem_cons_self)
      rw [if_neg h, if_neg h, load_app]
      omega
theorem perm_step : ∀ {st : List (List Nat)}, (∀ p ∈ st, Good n p) → (st.flatMap fun p => tree as g (n - p.length) p).Perm (hits g st ++ (grow as g st).flatMap fun p => tree as g (n - p.length) p)
  | [], _ => .refl _
  | p :: st, hg => by
    have ih := perm_step (st := st) fun q hq => hg q (List.mem_cons_of_mem _ hq)
    rw [hits_cons, grow_cons, List.flatMap_cons]
    by_cases h : lst p = g
    · rw [if_pos h, if_pos h, tree_goal h]
      exact ih.cons p
    · rw [if_neg h, if_neg h, tree_step o (hg p List.mem_cons_self) h, List.flatMap_append]
      refine (ih.append_left _).trans ?_
      rw [← List.append_assoc, ← List.append_assoc]
      exact List.Perm.append_right _ List.perm_append_comm
end
theorem all_paths {n i g : Nat} {as : List (Nat × Nat)} (o : OkArcs n as) (hn : n ≤ 6) (h1 : i < n) : OKF (f_all_paths [.d (graphD n as), .d (.int i), .d (.int g)]) fun s => s = .o none (.lst ((tree as g (n - 1) [i]).map pathD)) := by
  have hl := o.len
  have hz : n * n ≤ 6 * 6 := Nat.mul_le_mul hn hn
  have e0 : dfs as g (wt (n - 1)) [[i]] [] = tree as g (n - 1) [i] := by
    have hl : load n [[i]] = wt (n - 1) := by
      rw [load_cons]
      rfl
    rw [dfs_tree o (by rw [hl]; exact Nat.le_refl _) fun p hp => by
      rw [List.mem_singleton.mp hp]
      exact ⟨by simp, by simp, fun j hj => by rw [List.mem_singleton.mp hj]; exact h1⟩]
    simp
  rw [okF]
  unfold f_all_paths
  refine ok_runF rfl ?_
  show OK (b_all_paths [some (.d (graphD n as)), some (.d (.int i)), some (.d (.int g)), none, none, none, none]) _
  unfold b_all_paths
  rw [ok_seq, ok_asg]
  refine (heads (by omega) (by omega)).dv ?_
  rw [ok_gname, fl_nx, ok_ret, ok_call]
  refine (ea_cons (ev_var 3 rfl) (ea_cons (ev_var 1 rfl) (ea_cons (ev_tup (ea_cons (ev_var 2 rfl) ea_nil)) ea_nil))).ok ?_
  refine (paths_to (g := g) o hn h1).imp fun s e => ?_
  rw [e, e0]
  exact ⟨rfl, .inl ⟨_, rfl, rfl⟩⟩
theorem simple {n i g : Nat} {as : List (Nat × Nat)} (o : OkArcs n as) (hn : n ≤ 6) (h1 : i < n) (h2 : g < n) : OKF (f_simple_paths [.d (graphD n as), .d (.int i), .d (.int g)]) fun s => s = .d (.lst ((tree as g (n - 1) [i]).map pathD)) := by
  have ht : (tree as g (n - 1) [i]).length ≤ 326 := Nat.le_trans (tree_len o (n := n) ⟨by simp, by simp, fun j hj => by rw [List.mem_singleton.mp hj]; exact h1⟩ (by simp)) (wt_small (by omega))
  rw [okF]
  unfold f_simple_paths
  refine ok_runF rfl ?_
  show OK (b_simple_paths [some (.d (graphD n as)), some (.d (.int i)), some (.d (.int g)), none]) _
  unfold b_simple_paths
  rw [ok_seq, ok_drop]
  refine (ev_call (ea_cons (ev_var 0 rfl) ea_nil) check_graph).raw.imp fun s ρ1 ⟨_, e⟩ => ?_
  rw [e, fl_nx, ok_seq, ok_drop]
  refine (ev_call (ea_cons (ev_var 0 rfl) (ea_cons (ev_var 1 rfl) ea_nil)) (check_node h1)).raw.imp fun s ρ1 ⟨_, e⟩ => ?_
  rw [e, fl_nx, ok_seq, ok_drop]
  refine (ev_call (ea_cons (ev_var 0 rfl) (ea_cons (ev_var 2 rfl) ea_nil)) (check_node h2)).raw.imp fun s ρ1 ⟨_, e⟩ => ?_
  rw [e, fl_nx, ok_seq, ok_asg]
  refine (ev_callZ (x := .lst ((tree as g (n - 1) [i]).map pathD)) (ea_cons (ev_var 0 rfl) (ea_cons (ev_var 1 rfl) (ea_cons (ev_var 2 rfl) ea_nil))) rfl (all_paths o hn h1)).dv ?_
  rw [ok_gname, fl_nx, ok_seq, ok_drop]
  have few : OKF (f_check_few [.d (.lst ((tree as g (n - 1) [i]).map pathD))]) fun s => s = .d .non := by
    rw [okF]
    unfold f_check_few
    refine ok_runF rfl ?_
    show OK (b_check_few [some (.d (.lst ((tree as g (n - 1) [i]).map pathD)))]) _
    unfold b_check_few
    rw [ok_ifS]
    refine (eb_test (ev_gt (i := (((tree as g (n - 1) [i]).map pathD).length : Nat)) (j := 500) (ev_cb (ea_cons (ev_var 0 rfl) ea_nil) rfl) ev_c)).ok ⟨fun h => ?_, fun _ => ?_⟩
    · rw [decide_eq_true_eq, List.length_map] at h
      omega
    · rw [ok_nx]
      exact .inr ⟨rfl, rfl⟩
  refine (ev_call (ea_cons (ev_var 3 rfl) ea_nil) few).raw.imp fun s ρ1 ⟨_, e⟩ => ?_
  rw [e, fl_nx, ok_ret]
  rw [ok_varD (x := .lst ((tree as g (n - 1) [i]).map pathD)) rfl]
  exact .inl ⟨_, rfl, rfl⟩
end Fx.Lib

/-! k01: the law's own paths on data -/
namespace Fx.Lib
open PySem
local macro_rules | `(tactic| walk_at "wp") => `(tactic| simp only [okF_runF, okF_runL, ok_seq, ok_ret, ok_retN, ok_andV, ok_orV, ok_notV, ok_cb, ok_cons, ok_nil, ok_test, ok_dv, ok_op, ok_un, ok_c, ok_if, ok_ifS, ok_and, ok_or, ok_not, ok_asg, ok_gname, ok_drop, ok_call, ok_chain, ok_nx, ok_bk, ok_ct, ok_st, ok_yes, ok_tup, ok_ok, ok_stuck, ex_toD, ex_toL, ex_bl, ex_some, ex_bl1, fl_nx, fl_rt, fl_bk, fl_ct, rt_or, nx_or, mVar, ok1, gIsi, mIsi2, gIsi2, isTy2, isTy, Option.bind, bare, e_add, e_sub, e_int, e_lenS, e_lenT, e_lenL, e_lt, e_le, e_gt, e_ge, e_leC, e_ltC, e_isN, e_notN, e_pow,
  List.map_cons, List.map_nil, List.length_cons, List.length_nil, List.replicate_succ, List.replicate_zero, List.cons_append, List.nil_append, List.append_nil, List.getElem?_cons_zero, List.getElem?_cons_succ, List.set_cons_zero, List.set_cons_succ, Nat.reduceAdd, Nat.reduceSub, true_and, and_true, Bool.not_true, Bool.not_false, true_implies, forall_const, not_true_eq_false, false_implies, Bool.false_eq_true, not_false_eq_true, implies_true, eq_self, ne_eq, reduceCtorEq, Fl.rt.injEq, S.d.injEq, D.int.injEq, false_and, exists_false, or_false, false_or, exists_eq_left'])
local macro_rules | `(tactic| walk_at "wt") => `(tactic| simp (config := { contextual := false }) only [ok_row0, ok_row1, ok_row2, ok_row3, ok_put1, ok_put2, ok_put3, e_mod, e_div, e_mul, e_ixS, decide_true, decide_false, *, okF_runF, okF_runL, ok_seq, ok_ret, ok_retN, ok_andV, ok_orV, ok_notV, ok_cb, ok_cons, ok_nil, ok_test, ok_dv, ok_op, ok_un, ok_c, ok_if, ok_ifS, ok_and, ok_or, ok_not, ok_asg, ok_gname, ok_drop, ok_call, ok_chain, ok_nx, ok_bk, ok_ct, ok_st, ok_yes, ok_tup, ok_ok, ok_stuck, ex_toD, ex_toL, ex_bl, ex_some, ex_bl1, fl_nx, fl_rt, fl_bk, fl_ct, rt_or, nx_or, mVar, ok1, gIsi, mIsi2, gIsi2, isTy2, isTy, Option.bind, bare, e_add, e_sub, e_int, e_lenS, e_lenT, e_lenL, e_lt, e_le, e_gt, e_ge, e_leC, e_ltC, e_isN, e_notN, e_pow,
  List.map_cons, List.map_nil, List.length_cons, List.length_nil, List.replicate_succ, List.replicate_zero, List.cons_append, List.nil_append, List.append_nil, List.getElem?_cons_zero, List.getElem?_cons_succ, List.set_cons_zero, List.set_cons_succ, Nat.reduceAdd, Nat.reduceSub, true_and, and_true, Bool.not_true, Bool.not_false, true_implies, forall_const, not_true_eq_false, false_implies, Bool.false_eq_true, not_false_eq_true, implies_true, eq_self, ne_eq, reduceCtorEq, Fl.rt.injEq, S.d.injEq, D.int.injEq, false_and, exists_false, or_false, false_or, exists_eq_left'])
local macro_rules | `(tactic| walk_at "wy") => `(tactic| try walk_at "wp")
local macro_rules | `(tactic| walk_at "we") => `(tactic| first | done | rfl | exact ⟨rfl, rfl⟩ | exact ⟨rfl, rfl, rfl⟩)

theorem fit_path {n : Nat} {p : List Nat} (hl : p.length ≤ 1000000) : fit (n + 1) (pathD p) = true := fit_tup (by rw [List.length_map]; exact hl) fun x hx => by
  obtain ⟨q, _, rfl⟩ := List.mem_map.mp hx
  exact fit_int
/-- the law's row of a path: [path + (head,) for tail, head in arcs if tail == path[-1] and head not in path] -/
theorem longer_row {n g : Nat} {as : List (Nat × Nat)} {p : List Nat} {ρ : En} (o : OkArcs n as) (hn : n ≤ 6) (gp : Good n p)
    (e0 : ρ[0]? = some (some (.d (.tup (as.map arcD))))) (e7 : ρ[7]? = some (some (.d (pathD p)))) (e8 : ρ.set 8 none = ρ) (e9 : ρ.set 9 none = ρ) (hlen : ρ.length = 10) :
    Ev (mLc (iSeq (mVar 0)) (gmTup 2 (gmCons (gmName 8) (gmCons (gmName 9) gmNil))) (mAnd (mTest (mOp gEq (mVar 8) (mOp gIx (mVar 7) (mUn gNeg (mC (.int 1)))))) (mTest (mOp gNotIn (mVar 9) (mVar 7)))) (mOp gAdd (mVar 7) (mTup (aCons (mVar 9) aNil))) [8, 9]) ρ (.lst ((exts as p).map pathD)) := by
  have hl := o.len
  have hz : n * n ≤ 6 * 6 := Nat.mul_le_mul hn hn
  have hp := nodup_len gp.nd gp.lt
  obtain ⟨p0, l, rfl⟩ : ∃ p0 l, p = p0 ++ [l] := ⟨p.dropLast, p.getLast gp.ne, (List.dropLast_concat_getLast gp.ne).symm⟩
  have el : lst (p0 ++ [l]) = l := by
    unfold lst
    simp
  have ep : pathD (p0 ++ [l]) = .tup (p0.map (fun i : Nat => D.int i) ++ [.int l]) := by
    unfold pathD
    rw [List.map_append]
    rfl
  unfold Ev
  rw [ok_dv, ok_lc, ok_iseq]
  refine (ev_var 0 e0).dv ⟨_, rfl, ?_⟩
  have ew : wipeE ρ [8, 9] = ρ := by
    show (ρ.set 9 none).set 8 none = ρ
    rw [e9, e8]
  rw [ew]
  have e1 : as.map arcD = (as.map fun p => ((D.int (p.1 : Nat), D.int (p.2 : Nat)) : D × D)).map fun p => D.tup [p.1, p.2] := by
    rw [List.map_map]
    rfl
  rw [e1]
  refine ok_mapP (t := fun q => match q.1, q.2 with | .int a, .int b => decide (a = (l : Int)) && !decide (b.toNat ∈ p0 ++ [l]) | _, _ => false) (f := fun q => match q.2 with | .int b => pathD (p0 ++ [l] ++ [b.toNat]) | _ => .non) (by rw [List.length_map]; omega) ?_ ?_
  · intro q hq
    obtain ⟨⟨a, b⟩, _, rfl⟩ := List.mem_map.mp hq
    have f7 : ((ρ.set 8 (some (.d (.int (a : Nat))))).set 9 (some (.d (.int (b : Nat)))))[7]? = some (some (.d (pathD (p0 ++ [l])))) := by
      rw [List.getElem?_set_ne (by decide), List.getElem?_set_ne (by decide)]
      exact e7
    have f8 : ((ρ.set 8 (some (.d (.int (a : Nat))))).set 9 (some (.d (.int (b : Nat)))))[8]? = some (some (.d (.int (a : Nat)))) := by
      rw [List.getElem?_set_ne (by decide), List.getElem?_set_self (by omega)]
    have f9 : ((ρ.set 8 (some (.d (.int (a : Nat))))).set 9 (some (.d (.int (b : Nat)))))[9]? = some (some (.d (.int (b : Nat)))) := by
      rw [List.getElem?_set_self (by rw [List.length_set]; omega)]
    have fw : wipeE ((ρ.set 8 (some (.d (.int (a : Nat))))).set 9 (some (.d (.int (b : Nat))))) [8, 9] = ρ := by
      show (((ρ.set 8 (some (.d (.int (a : Nat))))).set 9 (some (.d (.int (b : Nat))))).set 9 none).set 8 none = ρ
      rw [List.set_set, List.set_comm _ _ (by decide : (8 : Nat) ≠ 9), List.set_set, e9, e8]
    refine (eb_and (p := decide ((a : Int) = (l : Int))) (q := !decide (b ∈ p0 ++ [l])) (eb_test (ev_eq (ev_var 8 f8) (ev_last (ev_var 7 (by rw [← ep]; exact f7))))) fun _ => eb_test (ev_op (ev_var 9 f9) (ev_var 7 f7) (gNotIn_ints (by omega)))).ok ⟨?_, fun _ => ?_, fun _ => fw⟩
    · show (decide ((a : Int) = (l : Int)) && !decide (b ∈ p0 ++ [l])) = (decide ((a : Int) = (l : Int)) && !decide (((b : Nat) : Int).toNat ∈ p0 ++ [l]))
      rw [Int.toNat_natCast]
    · refine (ev_op (z := pathD (p0 ++ [l] ++ [b])) (ev_var 7 f7) (ev_tup (ea_cons (ev_var 9 f9) ea_nil)) ?_).dv ⟨?_, fw⟩
      · have hs : small ((p0 ++ [l]).map fun i : Nat => D.int i).length.succ = true := by
          rw [List.length_map]
          exact decide_eq_true (by omega)
        show (if small (((p0 ++ [l]).map fun i : Nat => D.int i).length + 1) then some (S.d (.tup (((p0 ++ [l]).map fun i : Nat => D.int i) ++ [.int b]))) else none) = _
        rw [if_pos hs]
        unfold pathD
        rw [List.map_append (l₁ := p0 ++ [l])]
        rfl
      · show _ = pathD (p0 ++ [l] ++ [((b : Nat) : Int).toNat])
        rw [Int.toNat_natCast]
  · refine ⟨_, rfl, ?_, rfl⟩
    congr 1
    unfold exts hd
    rw [el, List.filter_map, List.map_map, List.map_map, List.filter_map, List.filter_filter, List.map_map]
    have ef : (as.filter ((fun q : D × D => match q.1, q.2 with | .int a, .int b => decide (a = (l : Int)) && !decide (b.toNat ∈ p0 ++ [l]) | _, _ => false) ∘ fun p => ((D.int (p.1 : Nat), D.int (p.2 : Nat)) : D × D))) = as.filter fun a => ((fun h => !decide (h ∈ p0 ++ [l])) ∘ fun p : Nat × Nat => p.2) a && decide (a.1 = l) := by
      refine List.filter_congr fun q _ => ?_
      show (decide ((q.1 : Int) = (l : Int)) && !decide (((q.2 : Nat) : Int).toNat ∈ p0 ++ [l])) = ((!decide (q.2 ∈ p0 ++ [l])) && decide (q.1 = l))
      rw [Int.toNat_natCast, Bool.and_comm]
      congr 1
      rw [decide_eq_decide]
      omega
    rw [ef]
    rfl
theorem law_paths {n i g : Nat} {as : List (Nat × Nat)} (o : OkArcs n as) (hn : n ≤ 6) (h1 : i < n) : OKF (f_law_paths [.d (.tup (as.map arcD)), .d (.int i), .d (.int g)]) fun s => s = .o none (.lst ((tree as g (n - 1) [i]).map pathD)) := by
  have w5 : wt (n - 1) ≤ 326 := wt_small (by omega)
  rw [okF]
  unfold f_law_paths
  refine ok_runF rfl ?_
  show OK (b_law_paths [some (.d (.tup (as.map arcD))), some (.d (.int i)), some (.d (.int g)), none, none, none, none, none, none, none]) _
  unfold b_law_paths
  refine ok_seqI (fun ρ => ρ = [some (.d (.tup (as.map arcD))), some (.d (.int i)), some (.d (.int g)), some (.o none (.lst [])), some (.d (.lst [pathD [i]])), none, none, none, none, none]) ?_ ?_
  · refine ok_par2 ?_
    rw [ok_psCons, ok_lst]
    refine ea_nil.ok ⟨rfl, ?_⟩
    rw [ok_psCons, ok_lst]
    refine (ea_cons (ev_tup (ea_cons (ev_var 1 rfl) ea_nil)) ea_nil).ok ⟨rfl, ?_⟩
    rw [ok_psNil]
    exact ⟨_, _, _, _, rfl, rfl, rfl, rfl, rfl⟩
  rintro _ rfl
  refine ok_seqI (fun ρ => ∃ (found : List (List Nat)) (x4 x5 x6 x7 : Option S), found.Perm (tree as g (n - 1) [i]) ∧ ρ = [some (.d (.tup (as.map arcD))), some (.d (.int i)), some (.d (.int g)), some (.o none (.lst (found.map pathD))), x4, x5, x6, x7, none, none]) ?_ ?_
  · rw [ok_for]
    refine @ok_range1e _ _ _ ?_
    refine (ea_cons ev_c ea_nil).ok ⟨9, rfl, by decide, by decide, ?_⟩
    refine @ok_loop _ _ (fun k ρ => ∃ (found st : List (List Nat)) (x5 x6 x7 : Option S), (∀ p ∈ st, Good n p ∧ p.length = k + 1) ∧ found.length + load n st ≤ 326 ∧ (found ++ st.flatMap fun p => tree as g (n - p.length) p).Perm (tree as g (n - 1) [i]) ∧ ρ = [some (.d (.tup (as.map arcD))), some (.d (.int i)), some (.d (.int g)), some (.o none (.lst (found.map pathD))), some (.d (.lst (st.map pathD))), x5, x6, x7, none, none]) _ _ 0 _ ⟨[], [[i]], none, none, none, ?_, ?_, ?_, rfl⟩ ?_ ?_
    · intro p hp
      rw [List.mem_singleton.mp hp]
      exact ⟨⟨by simp, by simp, fun j hj => by rw [List.mem_singleton.mp hj]; exact h1⟩, rfl⟩
    · rw [load_cons]
      show 0 + (wt (n - 1) + 0) ≤ 326
      omega
    · simp
    · rintro k x ρ hx ⟨found, st, x5, x6, x7, hg, hl, hp, rfl⟩
      obtain ⟨rfl, hk⟩ := intsFrom_at hx
      rw [Nat.zero_add] at hg ⊢
      have hgd : ∀ p ∈ st, Good n p := fun p hp => (hg p hp).1
      have hsl := load_len (n := n) (st := st)
      simp only [ok_gname, List.set_cons_succ, List.set_cons_zero]
      refine ok_seqI (fun ρ => ρ = [some (.d (.tup (as.map arcD))), some (.d (.int i)), some (.d (.int g)), some (.o none (.lst (found.map pathD))), some (.d (.lst (st.map pathD))), some (.d (.int (k : Nat))), some (.d (.lst [])), x7, none, none]) ?_ ?_
      · rw [ok_asg]
        refine (ev_lst ea_nil).dv ?_
        rw [ok_gname]
        exact ⟨rfl, rfl⟩
      rintro _ rfl
      refine ok_seqI (fun ρ => ∃ x7, ρ = [some (.d (.tup (as.map arcD))), some (.d (.int i)), some (.d (.int g)), some (.o none (.lst ((found ++ hits g st).map pathD))), some (.d (.lst (st.map pathD))), some (.d (.int (k : Nat))), some (.d (.lst ((grow as g st).map pathD))), x7, none, none]) ?_ ?_
      · rw [ok_for, ok_iseq]
        refine (ev_var 4 rfl).dv ⟨_, rfl, ?_⟩
        refine @ok_loop _ _ (fun j ρ => ∃ x7, ρ = [some (.d (.tup (as.map arcD))), some (.d (.int i)), some (.d (.int g)), some (.o none (.lst ((found ++ hits g (st.take j)).map pathD))), some (.d (.lst (st.map pathD))), some (.d (.int (k : Nat))), some (.d (.lst ((grow as g (st.take j)).map pathD))), x7, none, none]) _ _ 0 _ ⟨x7, ?_⟩ ?_ ?_
        · rw [List.take_zero]
          show _ = [_, _, _, some (S.o none (.lst ((found ++ []).map pathD))), _, _, _, _, _, _]
          rw [List.append_nil]
          rfl
        · rintro j x ρ hx ⟨x7, rfl⟩
          rw [List.getElem?_map] at hx
          obtain ⟨p, hp', rfl⟩ := Option.map_eq_some_iff.mp hx
          have gp := hgd p (List.mem_of_getElem? hp')
          obtain ⟨p0, l, rfl⟩ : ∃ p0 l, p = p0 ++ [l] := ⟨p.dropLast, p.getLast gp.ne, (List.dropLast_concat_getLast gp.ne).symm⟩
          have el : lst (p0 ++ [l]) = l := by
            unfold lst
            simp
          have ep : pathD (p0 ++ [l]) = .tup (p0.map (fun i : Nat => D.int i) ++ [.int l]) := by
            unfold pathD
            rw [List.map_append]
            rfl
          have etk : st.take (j + 1) = st.take j ++ [p0 ++ [l]] := by rw [List.take_add_one, hp']; rfl
          have hlo : load n (st.take j) ≤ load n st := by
            have h := load_app (n := n) (a := st.take j) (b := st.drop j)
            rw [List.take_append_drop] at h
            omega
          have hgt := load_grow o (g := g) (st := st.take j) fun q hq => hgd q (List.mem_of_mem_take hq)
          have hgl := load_len (n := n) (st := grow as g (st.take j))
          have hel := exts_len o gp
          rw [Nat.zero_add]
          simp only [ok_gname, List.set_cons_succ, List.set_cons_zero]
          rw [ok_ifS]
          refine (eb_test (ev_eq (ev_last (ds := p0.map fun i : Nat => D.int i) (x := .int l) (ev_var 7 (by rw [← ep]; rfl))) (ev_var 2 rfl))).ok ⟨fun hb => ?_, fun hb => ?_⟩
          · have hgl : lst (p0 ++ [l]) = g := by
              rw [decide_eq_true_eq] at hb
              rw [el]
              omega
            rw [ok_drop]
            refine ok_appE rfl (ev_var 7 rfl) (by rw [List.length_map, List.length_append]; omega) ?_
            refine ⟨fun _ => ⟨some (.d (pathD (p0 ++ [l]))), ?_⟩, fun n => (by cases n), fun s n => (by cases n)⟩
            rw [etk, hits_app, grow_app, hits_cons, if_pos hgl, grow_cons, if_pos hgl]
            show _ = [_, _, _, some (S.o none (.lst ((found ++ (hits g (st.take j) ++ [p0 ++ [l]])).map pathD))), _, _, some (S.d (.lst ((grow as g (st.take j) ++ []).map pathD))), _, _, _]
            rw [List.append_nil, ← List.append_assoc, List.map_append (l₁ := found ++ hits g (st.take j))]
            rfl
          · have hgl : ¬lst (p0 ++ [l]) = g := by
              rw [decide_eq_true_eq] at hb
              rw [el]
              omega
            rw [ok_asg]
            refine (ev_catL (ev_var 6 rfl) (longer_row (g := g) o hn gp rfl rfl rfl rfl rfl) (by rw [List.length_map, List.length_map]; exact decide_eq_true (by omega))).dv ?_
            rw [ok_gname]
            refine ⟨fun _ => ⟨some (.d (pathD (p0 ++ [l]))), ?_⟩, fun n => (by cases n), fun s n => (by cases n)⟩
            rw [etk, hits_app, grow_app, hits_cons, if_neg hgl, grow_cons, if_neg hgl]
            show _ = [_, _, _, some (S.o none (.lst ((found ++ (hits g (st.take j) ++ [])).map pathD))), _, _, some (S.d (.lst ((grow as g (st.take j) ++ (exts as (p0 ++ [l]) ++ [])).map pathD))), _, _, _]
            rw [List.append_nil, List.append_nil, List.map_append (l₁ := grow as g (st.take j))]
            rfl
        · rintro ρ ⟨x7, rfl⟩
          rw [Nat.zero_add, List.length_map, List.take_length]
          exact ⟨rfl, x7, rfl⟩
      rintro _ ⟨x7, rfl⟩
      rw [ok_asg]
      refine (ev_var 6 rfl).dv ?_
      rw [ok_gname]
      have hlg := load_grow o (g := g) hgd
      refine ⟨fun _ => ⟨found ++ hits g st, grow as g st, some (.d (.int (k : Nat))), some (.d (.lst ((grow as g st).map pathD))), x7, grow_good o hg, by rw [List.length_append]; omega, ?_, rfl⟩, fun n => (by cases n), fun s n => (by cases n)⟩
      refine List.Perm.trans ?_ hp
      rw [List.append_assoc]
      exact ((perm_step o hgd).append_left found).symm
    · rintro ρ ⟨found, st, x5, x6, x7, hg, hl, hp, rfl⟩
      have : st = [] := by
        cases st with
        | nil => rfl
        | cons p st =>
          obtain ⟨gp, hlen⟩ := hg p List.mem_cons_self
          have := nodup_len gp.nd gp.lt
          have e9 : (intsFrom 0 (9 : Int).toNat).length = 9 := rfl
          omega
      subst this
      refine ⟨rfl, found, _, x5, x6, x7, ?_, rfl⟩
      simpa using hp
  rintro _ ⟨found, x4, x5, x6, x7, hp, rfl⟩
  rw [ok_ret, ok_cb, ok_cons, ok_dv]
  refine ok_varZ rfl rfl ⟨_, rfl, ?_⟩
  rw [ok_nil]
  have e1 : found.map pathD = (found.map toI).map tpD := by
    rw [List.map_map]
    exact List.map_congr_left fun p _ => pathD_tp
  have hne : ∀ p ∈ tree as g (n - 1) [i], p ≠ [] := fun p hp => by
    obtain ⟨s, rfl⟩ := tree_pre o hp
    simp
  have e2 : isortL (found.map toI) = (tree as g (n - 1) [i]).map toI := by
    refine (isortL_eq (hp.symm.map toI) ?_).symm
    rw [List.pairwise_map]
    exact (tree_asc o).imp fun h => lexI_asym h
  rw [e1, gSortA_tps (ps := found.map toI) (fun q hq => by
    obtain ⟨p, hp', rfl⟩ := List.mem_map.mp hq
    intro h
    exact hne p (hp.mem_iff.mp hp') (List.map_eq_nil_iff.mp h)), e2]
  refine ⟨_, rfl, .inl ⟨_, rfl, ?_⟩⟩
  rw [List.map_map]
  congr 2
  exact List.map_congr_left fun p _ => pathD_tp.symm
end Fx.Lib

/-! distances on data -/
namespace Fx
open PySem
local macro_rules | `(tactic| walk_at "wp") => `(tactic| simp only [okF_runF, okF_runL, ok_seq, ok_ret, ok_retN, ok_andV, ok_orV, ok_notV, ok_cb, ok_cons, ok_nil, ok_test, ok_dv, ok_op, ok_un, ok_c, ok_if, ok_ifS, ok_and, ok_or, ok_not, ok_asg, ok_gname, ok_drop, ok_call, ok_chain, ok_nx, ok_bk, ok_ct, ok_st, ok_yes, ok_tup, ok_ok, ok_stuck, ex_toD, ex_toL, ex_bl, ex_some, ex_bl1, fl_nx, fl_rt, fl_bk, fl_ct, rt_or, nx_or, mVar, ok1, gIsi, mIsi2, gIsi2, isTy2, isTy, Option.bind, bare, e_add, e_sub, e_int, e_lenS, e_lenT, e_lenL, e_lt, e_le, e_gt, e_ge, e_leC, e_ltC, e_isN, e_notN, e_pow,
  List.map_cons, List.map_nil, List.length_cons, List.length_nil, List.replicate_succ, List.replicate_zero, List.cons_append, List.nil_append, List.append_nil, List.getElem?_cons_zero, List.getElem?_cons_succ, List.set_cons_zero, List.set_cons_succ, Nat.reduceAdd, Nat.reduceSub, true_and, and_true, Bool.not_true, Bool.not_false, true_implies, forall_const, not_true_eq_false, false_implies, Bool.false_eq_true, not_false_eq_true, implies_true, eq_self, ne_eq, reduceCtorEq, Fl.rt.injEq, S.d.injEq, D.int.injEq, false_and, exists_false, or_false, false_or, exists_eq_left'])
local macro_rules | `(tactic| walk_at "wt") => `(tactic| simp (config := { contextual := false }) only [ok_row0, ok_row1, ok_row2, ok_row3, ok_put1, ok_put2, ok_put3, e_mod, e_div, e_mul, e_ixS, decide_true, decide_false, *, okF_runF, okF_runL, ok_seq, ok_ret, ok_retN, ok_andV, ok_orV, ok_notV, ok_cb, ok_cons, ok_nil, ok_test, ok_dv, ok_op, ok_un, ok_c, ok_if, ok_ifS, ok_and, ok_or, ok_not, ok_asg, ok_gname, ok_drop, ok_call, ok_chain, ok_nx, ok_bk, ok_ct, ok_st, ok_yes, ok_tup, ok_ok, ok_stuck, ex_toD, ex_toL, ex_bl, ex_some, ex_bl1, fl_nx, fl_rt, fl_bk, fl_ct, rt_or, nx_or, mVar, ok1, gIsi, mIsi2, gIsi2, isTy2, isTy, Option.bind, bare, e_add, e_sub, e_int, e_lenS, e_lenT, e_lenL, e_lt, e_le, e_gt, e_ge, e_leC, e_ltC, e_isN, e_notN, e_pow,
  List.map_cons, List.map_nil, List.length_cons, List.length_nil, List.replicate_succ, List.replicate_zero, List.cons_append, List.nil_append, List.append_nil, List.getElem?_cons_zero, List.getElem?_cons_succ, List.set_cons_zero, List.set_cons_succ, Nat.reduceAdd, Nat.reduceSub, true_and, and_true, Bool.not_true, Bool.not_false, true_implies, forall_const, not_true_eq_false, false_implies, Bool.false_eq_true, not_false_eq_true, implies_true, eq_self, ne_eq, reduceCtorEq, Fl.rt.injEq, S.d.injEq, D.int.injEq, false_and, exists_false, or_false, false_or, exists_eq_left'])
local macro_rules | `(tactic| walk_at "wy") => `(tactic| try walk_at "wp")
local macro_rules | `(tactic| walk_at "we") => `(tactic| first | done | rfl | exact ⟨rfl, rfl⟩ | exact ⟨rfl, rfl, rfl⟩)

theorem ok_gtup3 {i j k : Nat} {x y z : D} {ρ : En} {P : Unit → En → Prop} (h : P () (((ρ.set i (some (.d x))).set j (some (.d y))).set k (some (.d z)))) : OK (gmTup 3 (gmCons (gmName i) (gmCons (gmName j) (gmCons (gmName k) gmNil))) (.tup [x, y, z]) ρ) P := ok_of h
theorem ok_gtupA {i j k : Nat} {x y z : D} {ρ : En} {P : Unit → En → Prop} (h : P () (((ρ.set i (some (.d x))).set j (some (.d y))).set k (some (.d z)))) : OK (gmTup 2 (gmCons (gmTup 2 (gmCons (gmName i) (gmCons (gmName j) gmNil))) (gmCons (gmName k) gmNil)) (.tup [.tup [x, y], z]) ρ) P := ok_of h
theorem ok_izipT {fa fb : M S} {xs ys : List D} {ρ : En} {P : List D → En → Prop} (ha : Ev fa ρ (.tup xs)) (hb : Ev fb ρ (.tup ys)) (q : P (zipD xs ys) ρ) : OK (iZip' (aCons fa (aCons fb aNil)) ρ) P := by
  unfold iZip'
  rw [ok_then]
  refine (ea_cons ha (ea_cons hb ea_nil)).ok ?_
  show OK (Out.ok (zipD xs ys) ρ) P
  rw [ok_ok]
  exact q
theorem zipD_map {α β : Type} {f : α → D} {g : β → D} : ∀ {xs : List α} {ys : List β}, zipD (xs.map f) (ys.map g) = (xs.zip ys).map fun p => .tup [f p.1, g p.2]
  | [], _ => by simp [zipD]
  | _ :: _, [] => by simp [zipD]
  | x :: xs, y :: ys => by
    have := zipD_map (f := f) (g := g) (xs := xs) (ys := ys)
    simp only [List.map_cons, List.zip_cons_cons, zipD] at this ⊢
    rw [this]
theorem sum_set : ∀ {l : List Nat} {i a b : Nat}, l[i]? = some a → (l.set i b).sum + a = l.sum + b
  | [], _, _, _, e => by simp at e
  | x :: l, 0, a, b, e => by
    simp at e
    subst e
    simp only [List.set_cons_zero, List.sum_cons]
    omega
  | x :: l, i + 1, a, b, e => by
    have := sum_set (l := l) (i := i) (a := a) (b := b) (by simpa using e)
    simp only [List.set_cons_succ, List.sum_cons]
    omega
theorem sum_le {k : Nat} : ∀ {l : List Nat}, (∀ x ∈ l, x ≤ k) → l.sum ≤ k * l.length
  | [], _ => by simp
  | x :: l, h => by
    have := sum_le (l := l) fun y hy => h y (List.mem_cons_of_mem _ hy)
    have := h x List.mem_cons_self
    simp only [List.sum_cons, List.length_cons, Nat.mul_succ]
    omega
namespace Lib
structure OkW (as : List (Nat × Nat)) (ws : List Int) : Prop where
  len : ws.length = as.length
  rng : ∀ w ∈ ws, 1 ≤ w ∧ w ≤ 100
abbrev wsD (ws : List Int) : D := .tup (ws.map D.int)
/-- a walk to g, its weight -/
inductive Way (as : List (Nat × Nat)) (ws : List Int) (g : Nat) : Nat → Int → Prop
  | nil : Way as ws g g 0
  | step {v h : Nat} {w x : Int} : ((v, h), w) ∈ as.zip ws → Way as ws g h x → Way as ws g v (x + w)
structure Dist (n g : Nat) (as : List (Nat × Nat)) (ws : List Int) (ds : List (Option Int)) : Prop where
  len : ds.length = n
  goal : ds[g]? = some (some 0)
  fix : ∀ t h w, ((t, h), w) ∈ as.zip ws → ∀ x, ds[h]? = some (some x) → ∃ y, ds[t]? = some (some y) ∧ y ≤ x + w
  way : ∀ v x, ds[v]? = some (some x) → Way as ws g v x
def one : Option Int → Nat
  | some _ => 1
  | none => 0
def cnt (ds : List (Option Int)) : Nat := (ds.map one).sum
def pv : Option Int → Nat
  | some x => x.toNat
  | none => 1000
def pot (ds : List (Option Int)) : Nat := (ds.map pv).sum
structure Relax (n g : Nat) (as : List (Nat × Nat)) (ws : List Int) (ds : List (Option Int)) : Prop where
  len : ds.length = n
  goal : ds[g]? = some (some 0)
  way : ∀ (v : Nat) (x : Int), ds[v]? = some (some x) → Way as ws g v x
  bnd : ∀ (v : Nat) (x : Int), ds[v]? = some (some x) → 0 ≤ x ∧ x + 100 ≤ 100 * (cnt ds : Int)
theorem cnt_set {ds : List (Option Int)} {t : Nat} {o : Option Int} {y : Int} (e : ds[t]? = some o) : cnt (ds.set t (some y)) + one o = cnt ds + 1 := by
  unfold cnt
  rw [List.map_set]
  exact sum_set (by rw [List.getElem?_map, e]; rfl)
theorem pot_set {ds : List (Option Int)} {t : Nat} {o : Option Int} {y : Int} (e : ds[t]? = some o) : pot (ds.set t (some y)) + pv o = pot ds + y.toNat := by
  unfold pot
  rw [List.map_set]
  exact sum_set (by rw [List.getElem?_map, e]; rfl)
theorem cnt_le {ds : List (Option Int)} : cnt ds ≤ ds.length := by
  unfold cnt
  have := sum_le (k := 1) (l := ds.map one) fun x hx => by
    obtain ⟨o, _, rfl⟩ := List.mem_map.mp hx
    cases o <;> simp [one]
  rw [List.length_map] at this
  omega
theorem Relax.step {n g t h : Nat} {w x : Int} {as : List (Nat × Nat)} {ws : List Int} {ds : List (Option Int)} {o : Option Int} (r : Relax n g as ws ds) (hn : n ≤ 8) (hz : ((t, h), w) ∈ as.zip ws) (w1 : 1 ≤ w) (w2 : w ≤ 100) (eh : ds[h]? = some (some x)) (et : ds[t]? = some o) (ho : ∀ y, o = some y → x + w < y) :
    Relax n g as ws (ds.set t (some (x + w))) ∧ pot (ds.set t (some (x + w))) < pot ds := by
  obtain ⟨b1, b2⟩ := r.bnd h x eh
  have ht : t < ds.length := (List.getElem?_eq_some_iff.mp et).1
  have hc := cnt_set (y := x + w) et
  have hp := pot_set (y := x + w) et
  have hl := cnt_le (ds := ds)
  rw [r.len] at hl
  have htg : t ≠ g := fun z => by
    subst z
    rw [r.goal] at et
    cases et
    have := ho 0 rfl
    omega
  have mono : cnt ds ≤ cnt (ds.set t (some (x + w))) := by
    cases o <;> (simp only [one] at hc; omega)
  have hb : 0 ≤ x + w ∧ x + w + 100 ≤ 100 * (cnt (ds.set t (some (x + w))) : Int) := by
    cases o with
    | none => simp only [one] at hc; omega
    | some y =>
      have := ho y rfl
      have := r.bnd t y et
      simp only [one] at hc
      omega
  refine ⟨⟨by rw [List.length_set]; exact r.len, by rw [List.getElem?_set_ne htg]; exact r.goal, fun v y e => ?_, fun v y e => ?_⟩, ?_⟩
  · by_cases hv : t = v
    · subst hv
      rw [List.getElem?_set_self ht] at e
      cases e
      exact .step hz (r.way h x eh)
    · rw [List.getElem?_set_ne hv] at e
      exact r.way v y e
  · by_cases hv : t = v
    · subst hv
      rw [List.getElem?_set_self ht] at e
      cases e
      exact hb
    · rw [List.getElem?_set_ne hv] at e
      have := r.bnd v y e
      omega
  · cases o with
    | none =>
      have hp : pot (ds.set t (some (x + w))) + 1000 = pot ds + (x + w).toNat := hp
      omega
    | some y =>
      have := ho y rfl
      have := (r.bnd t y et).1
      have hp : pot (ds.set t (some (x + w))) + y.toNat = pot ds + (x + w).toNat := hp
      omega
theorem check_weights {n : Nat} {as : List (Nat × Nat)} {ws : List Int} (hw : OkW as ws) (hl : as.length ≤ 1000000) : OKF (f_check_weights [.d (graphD n as), .d (wsD ws)]) fun s => s = .d .non := by
  rw [okF]
  unfold f_check_weights
  refine ok_runF rfl ?_
  show OK (b_check_weights [some (.d (graphD n as)), some (.d (wsD ws)), none, none]) _
  unfold b_check_weights
  have el : Ev (mCB gLen (aCons (mFldE "Graph" 1 (mVar 0)) aNil)) [some (.d (graphD n as)), some (.d (wsD ws)), none, none] (.int (as.length : Nat)) := ev_cb (ea_cons (ev_fld (ev_var 0 rfl) rfl) ea_nil) (by
    show some (S.d (.int ((as.map arcD).length : Nat))) = _
    rw [List.length_map])
  refine ok_seqI (fun ρ => ρ = [some (.d (graphD n as)), some (.d (wsD ws)), none, none]) ?_ ?_
  · rw [ok_ifS]
    refine (eb_not (eb_test (ev_call (x := .bl true) (ea_cons (ev_var 1 rfl) (ea_cons el (ea_cons el ea_nil))) ?_))).ok ⟨fun n => (by cases n), fun _ => ?_⟩
    · refine tup.mpr ?_
      rw [List.length_map, hw.len, decide_eq_true (by omega)]
      rfl
    · rw [ok_nx]
      exact ⟨rfl, rfl⟩
  rintro _ rfl
  rw [ok_for]
  refine ok_ienu ?_
  refine (ea_cons (ev_var 1 rfl) ea_nil).ok ⟨_, _, rfl, rfl, ?_⟩
  refine ok_loop (k := 0) (I := fun _ ρ => ∃ x2 x3, ρ = [some (.d (graphD n as)), some (.d (wsD ws)), x2, x3]) ⟨_, _, rfl⟩ ?_ ?_
  · rintro i x ρ hx ⟨x2, x3, rfl⟩
    obtain ⟨d, hd, rfl⟩ := enumD_at hx
    rw [List.getElem?_map] at hd
    obtain ⟨w, hw', rfl⟩ := Option.map_eq_some_iff.mp hd
    obtain ⟨w1, w2⟩ := hw.rng w (List.mem_of_getElem? hw')
    refine ok_gtup2 ?_
    show OK (mIfS _ mSt mNx [some (.d (graphD n as)), some (.d (wsD ws)), some (.d (.int (i : Nat))), some (.d (.int w))]) _
    rw [ok_ifS]
    refine (eb_not (eb_test (ev_call (x := .bl true) (ea_cons (ev_var 3 rfl) (ea_cons ev_c (ea_cons ev_c ea_nil))) ?_))).ok ⟨fun n => (by cases n), fun _ => ?_⟩
    · refine (num (o := some w) (lo := 1) (hi := 100)).mpr ?_
      show S.d (.bl (decide (1 ≤ w) && decide (w ≤ 100))) = _
      rw [decide_eq_true w1, decide_eq_true w2]
      rfl
    · rw [ok_nx]
      exact ⟨fun _ => ⟨_, _, rfl⟩, fun n => (by cases n), fun s n => (by cases n)⟩
  · rintro ρ ⟨x2, x3, rfl⟩
    exact .inr ⟨rfl, rfl⟩
theorem check_weighted {n : Nat} {as : List (Nat × Nat)} {ws : List Int} {vs : List Nat} (hw : OkW as ws) (hl : as.length ≤ 1000000) (hv : ∀ v ∈ vs, v < n) : OKF (f_check_weighted [.d (graphD n as), .d (wsD ws), .d (pathD vs)]) fun s => s = .d .non := by
  rw [okF]
  unfold f_check_weighted
  refine ok_runF rfl ?_
  show OK (b_check_weighted [some (.d (graphD n as)), some (.d (wsD ws)), some (.d (pathD vs)), none]) _
  unfold b_check_weighted
  rw [ok_seq, ok_drop]
  refine (ev_call (ea_cons (ev_var 0 rfl) ea_nil) check_graph).raw.imp fun s ρ1 ⟨_, e⟩ => ?_
  rw [e, fl_nx, ok_seq, ok_drop]
  refine (ev_call (ea_cons (ev_var 0 rfl) (ea_cons (ev_var 1 rfl) ea_nil)) (check_weights hw hl)).raw.imp fun s ρ1 ⟨_, e⟩ => ?_
  rw [e, fl_nx, ok_for, ok_iseq]
  refine (ev_var 2 rfl).dv ⟨_, rfl, ?_⟩
  refine ok_loop (k := 0) (I := fun _ ρ => ∃ x3, ρ = [some (.d (graphD n as)), some (.d (wsD ws)), some (.d (pathD vs)), x3]) ⟨_, rfl⟩ ?_ ?_
  · rintro i x ρ hx ⟨x3, rfl⟩
    rw [List.getElem?_map] at hx
    obtain ⟨v, hv', rfl⟩ := Option.map_eq_some_iff.mp hx
    simp only [ok_gname, List.set_cons_succ, List.set_cons_zero]
    rw [ok_drop]
    refine (ev_call (ea_cons (ev_var 0 rfl) (ea_cons (ev_var 3 rfl) ea_nil)) (check_node (hv v (List.mem_of_getElem? hv')))).raw.imp fun s ρ1 ⟨_, e⟩ => ?_
    rw [e]
    exact ⟨fun _ => ⟨_, rfl⟩, fun n => (by cases n), fun s n => (by cases n)⟩
  · rintro ρ ⟨x3, rfl⟩
    exact .inr ⟨rfl, rfl⟩
/-- the arcs with their weights, as they are walked -/
theorem zip_items {as : List (Nat × Nat)} {ws : List Int} : zipD (as.map arcD) (ws.map D.int) = (as.zip ws).map fun p => .tup [.tup [.int (p.1.1 : Nat), .int (p.1.2 : Nat)], .int p.2] := zipD_map
theorem zip_rng {n : Nat} {as : List (Nat × Nat)} {ws : List Int} (o : OkArcs n as) (hw : OkW as ws) {t h : Nat} {w : Int} (hz : ((t, h), w) ∈ as.zip ws) : t < n ∧ h < n ∧ t ≠ h ∧ 1 ≤ w ∧ w ≤ 100 := by
  obtain ⟨h1, h2⟩ := List.of_mem_zip hz
  obtain ⟨a, b, c⟩ := o.rng _ h1
  obtain ⟨d, e⟩ := hw.rng _ h2
  exact ⟨a, b, c, d, e⟩
theorem distances_to {n g : Nat} {as : List (Nat × Nat)} {ws : List Int} (o : OkArcs n as) (hw : OkW as ws) (hn : n ≤ 8) (hg : g < n) : OKF (f_distances_to [.d (graphD n as), .d (wsD ws), .d (.int g)]) fun s => ∃ ds, Dist n g as ws ds ∧ s = .o none (.lst (ds.map oD)) := by
  rw [okF]
  unfold f_distances_to
  refine ok_runF rfl ?_
  show OK (b_distances_to [some (.d (graphD n as)), some (.d (wsD ws)), some (.d (.int g)), none, none, none, none, none]) _
  unfold b_distances_to
  refine ok_seqI (fun ρ => ρ = [some (.d (graphD n as)), some (.d (wsD ws)), some (.d (.int g)), some (.o none (.lst ((List.replicate n (none : Option Int)).map oD))), none, none, none, none]) ?_ ?_
  · rw [ok_asgO, ok_op]
    refine (ev_lst (ea_cons ev_c ea_nil)).dv ?_
    refine (ev_cb (z := .int (n : Nat)) (ea_cons (ev_fld (ev_var 0 rfl) rfl) ea_nil) ?_).dv ?_
    · show some (S.d (.int ((intsFrom 0 n).length : Nat))) = _
      rw [intsFrom_length]
    rw [e_times (by omega) (by omega), Int.toNat_natCast]
    refine .inl ⟨_, rfl, rfl, ?_⟩
    rw [List.map_replicate]
    rfl
  rintro _ rfl
  refine ok_seqI (fun ρ => ρ = [some (.d (graphD n as)), some (.d (wsD ws)), some (.d (.int g)), some (.o none (.lst (((List.replicate n (none : Option Int)).set g (some 0)).map oD))), none, none, none, none]) ?_ ?_
  · rw [ok_asg]
    refine ev_c.dv ?_
    refine ok_gitem rfl (ev_var 2 rfl) (by rw [List.length_map, List.length_replicate]; exact hg) ⟨rfl, ?_⟩
    rw [List.map_set]
    rfl
  rintro _ rfl
  have e0 : (List.replicate n (none : Option Int))[g]? = some none := by
    rw [List.getElem?_replicate, if_pos hg]
  have r0 : Relax n g as ws ((List.replicate n (none : Option Int)).set g (some 0)) := by
    have only : ∀ v x, ((List.replicate n (none : Option Int)).set g (some 0))[v]? = some (some x) → v = g ∧ x = 0 := fun v x e => by
      by_cases hv : g = v
      · subst hv
        rw [List.getElem?_set_self (by rw [List.length_replicate]; exact hg)] at e
        cases e
        exact ⟨rfl, rfl⟩
      · rw [List.getElem?_set_ne hv, List.getElem?_replicate] at e
        split at e <;> cases e
    have hc := cnt_set (y := 0) e0
    refine ⟨by rw [List.length_set, List.length_replicate], by rw [List.getElem?_set_self (by rw [List.length_replicate]; exact hg)], fun v x e => ?_, fun v x e => ?_⟩
    · obtain ⟨rfl, rfl⟩ := only v x e
      exact .nil
    · obtain ⟨rfl, rfl⟩ := only v x e
      simp only [one] at hc
      omega
  have p0 := pot_set (y := 0) e0
  have pr : pot (List.replicate n (none : Option Int)) ≤ 1000 * n := by
    unfold pot
    have := sum_le (k := 1000) (l := (List.replicate n (none : Option Int)).map pv) fun x hx => by
      obtain ⟨o, ho, rfl⟩ := List.mem_map.mp hx
      rw [(List.mem_replicate.mp ho).2]
      exact Nat.le_refl _
    rwa [List.length_map, List.length_replicate] at this
  have p1 : pot ((List.replicate n (none : Option Int)).set g (some 0)) + 1000 = pot (List.replicate n (none : Option Int)) + 0 := p0
  refine ok_seqI (fun ρ => ρ = [some (.d (graphD n as)), some (.d (wsD ws)), some (.d (.int g)), some (.o none (.lst (((List.replicate n (none : Option Int)).set g (some 0)).map oD))), some (.d (.bl true)), none, none, none]) ?_ ?_
  · rw [ok_asg]
    refine ev_c.dv ?_
    rw [ok_gname]
    exact ⟨rfl, rfl⟩
  rintro _ rfl
  refine ok_seqI (fun ρ => ∃ ds x4 x5 x6 x7, Dist n g as ws ds ∧ ρ = [some (.d (graphD n as)), some (.d (wsD ws)), some (.d (.int g)), some (.o none (.lst (ds.map oD))), x4, x5, x6, x7]) ?_ ?_
  · refine ok_while (m := pot ((List.replicate n (none : Option Int)).set g (some 0)) + 1) (I := fun m ρ => ∃ ds x5 x6 x7, Relax n g as ws ds ∧ ((m = pot ds + 1 ∧ ρ = [some (.d (graphD n as)), some (.d (wsD ws)), some (.d (.int g)), some (.o none (.lst (ds.map oD))), some (.d (.bl true)), x5, x6, x7]) ∨ (m = 0 ∧ (∀ t h w, ((t, h), w) ∈ as.zip ws → ∀ x, ds[h]? = some (some x) → ∃ y, ds[t]? = some (some y) ∧ y ≤ x + w) ∧ ρ = [some (.d (graphD n as)), some (.d (wsD ws)), some (.d (.int g)), some (.o none (.lst (ds.map oD))), some (.d (.bl false)), x5, x6, x7]))) ?_ (by omega) ⟨_, _, _, _, r0, .inl ⟨rfl, rfl⟩⟩
    clear r0 p0 pr p1 e0
    rintro m ρ ⟨ds, x5, x6, x7, r, ⟨rfl, rfl⟩ | ⟨rfl, hfix, rfl⟩⟩
    · refine (eb_truth (ev_var 4 rfl) (b := true) rfl).ok ⟨fun _ => ?_, fun n => absurd rfl n⟩
      refine ok_seqI (fun ρ => ρ = [some (.d (graphD n as)), some (.d (wsD ws)), some (.d (.int g)), some (.o none (.lst (ds.map oD))), some (.d (.bl false)), x5, x6, x7]) ?_ ?_
      · rw [ok_asg]
        refine ev_c.dv ?_
        rw [ok_gname]
        exact ⟨rfl, rfl⟩
      rintro _ rfl
      rw [ok_for]
      refine ok_izipT (ev_fld (ev_var 0 rfl) rfl) (ev_var 1 rfl) ?_
      rw [zip_items]
      refine @ok_loop _ _ (fun i ρ => ∃ ds' x5 x6 x7, Relax n g as ws ds' ∧ ((ds' = ds ∧ (∀ t h w, ((t, h), w) ∈ (as.zip ws).take i → ∀ x, ds[h]? = some (some x) → ∃ y, ds[t]? = some (some y) ∧ y ≤ x + w) ∧ ρ = [some (.d (graphD n as)), some (.d (wsD ws)), some (.d (.int g)), some (.o none (.lst (ds'.map oD))), some (.d (.bl false)), x5, x6, x7]) ∨ (pot ds' < pot ds ∧ ρ = [some (.d (graphD n as)), some (.d (wsD ws)), some (.d (.int g)), some (.o none (.lst (ds'.map oD))), some (.d (.bl true)), x5, x6, x7]))) _ _ 0 _ ⟨ds, x5, x6, x7, r, .inl ⟨rfl, fun t h w hm => by simp at hm, rfl⟩⟩ ?_ ?_
      · rintro i z ρ hz ⟨ds', x5, x6, x7, r', hcase⟩
        rw [List.getElem?_map] at hz
        obtain ⟨⟨⟨t, h⟩, w⟩, hz', rfl⟩ := Option.map_eq_some_iff.mp hz
        have hzm := List.mem_of_getElem? hz'
        obtain ⟨ht, hh, hne, w1, w2⟩ := zip_rng o hw hzm
        rw [Nat.zero_add] at hcase ⊢
        have etk : (as.zip ws).take (i + 1) = (as.zip ws).take i ++ [((t, h), w)] := by rw [List.take_add_one, hz']; rfl
        obtain ⟨oh, eh⟩ : ∃ oh, ds'[h]? = some oh := ⟨_, List.getElem?_eq_getElem (by rw [r'.len]; exact hh)⟩
        obtain ⟨ot, et⟩ : ∃ ot, ds'[t]? = some ot := ⟨_, List.getElem?_eq_getElem (by rw [r'.len]; exact ht)⟩
        have body : ∀ b : Bool, OK (mIfS (mAnd (mTest (mOp gNotN (mIxO 3 (mVar 6)) (mC .non))) (mOr (mTest (mOp gIsN (mIxO 3 (mVar 5)) (mC .non))) (mTest (mOp gLt (mOp gAdd (mIxO 3 (mVar 6)) (mVar 7)) (mIxO 3 (mVar 5)))))) (mSeq (mAsg (mOp gAdd (mIxO 3 (mVar 6)) (mVar 7)) (gmItem 3 (mVar 5))) (mAsg (mC (.bl true)) (gmName 4))) mNx [some (.d (graphD n as)), some (.d (wsD ws)), some (.d (.int g)), some (.o none (.lst (ds'.map oD))), some (.d (.bl b)), some (.d (.int (t : Nat))), some (.d (.int (h : Nat))), some (.d (.int w))])
            fun f ρ => f = .nx ∧ ∃ ds2 b2, Relax n g as ws ds2 ∧ ((ds2 = ds' ∧ b2 = b ∧ ∀ x, ds'[h]? = some (some x) → ∃ y, ds'[t]? = some (some y) ∧ y ≤ x + w) ∨ (pot ds2 < pot ds' ∧ b2 = true)) ∧ ρ = [some (.d (graphD n as)), some (.d (wsD ws)), some (.d (.int g)), some (.o none (.lst (ds2.map oD))), some (.d (.bl b2)), some (.d (.int (t : Nat))), some (.d (.int (h : Nat))), some (.d (.int w))] := by
          intro b
          generalize hρ : [some (S.d (graphD n as)), some (.d (wsD ws)), some (.d (.int g)), some (.o none (.lst (ds'.map oD))), some (.d (.bl b)), some (.d (.int (t : Nat))), some (.d (.int (h : Nat))), some (.d (.int w))] = ρ0
          have a3 : ρ0[3]? = some (some (.o none (.lst (ds'.map oD)))) := by rw [← hρ]; rfl
          have a5 : ρ0[5]? = some (some (.d (.int (t : Nat)))) := by rw [← hρ]; rfl
          have a6 : ρ0[6]? = some (some (.d (.int (h : Nat)))) := by rw [← hρ]; rfl
          have a7 : ρ0[7]? = some (some (.d (.int w))) := by rw [← hρ]; rfl
          have ixh : Ev (mIxO 3 (mVar 6)) ρ0 (oD oh) := ev_ixO a3 (ev_var 6 a6) (by rw [List.getElem?_map, eh]; rfl)
          have ixt : Ev (mIxO 3 (mVar 5)) ρ0 (oD ot) := ev_ixO a3 (ev_var 5 a5) (by rw [List.getElem?_map, et]; rfl)
          have stay : (∀ x, ds'[h]? = some (some x) → ∃ y, ds'[t]? = some (some y) ∧ y ≤ x + w) → OK (mNx ρ0) fun f ρ => f = .nx ∧ ∃ ds2 b2, Relax n g as ws ds2 ∧ ((ds2 = ds' ∧ b2 = b ∧ ∀ x, ds'[h]? = some (some x) → ∃ y, ds'[t]? = some (some y) ∧ y ≤ x + w) ∨ (pot ds2 < pot ds' ∧ b2 = true)) ∧ ρ = [some (.d (graphD n as)), some (.d (wsD ws)), some (.d (.int g)), some (.o none (.lst (ds2.map oD))), some (.d (.bl b2)), some (.d (.int (t : Nat))), some (.d (.int (h : Nat))), some (.d (.int w))] := fun hs => by
            rw [ok_nx]
            exact ⟨rfl, ds', b, r', .inl ⟨rfl, rfl, hs⟩, hρ.symm⟩
          have go : ∀ x, oh = some x → (∀ y, ot = some y → x + w < y) → OK (mSeq (mAsg (mOp gAdd (mIxO 3 (mVar 6)) (mVar 7)) (gmItem 3 (mVar 5))) (mAsg (mC (.bl true)) (gmName 4)) ρ0) fun f ρ => f = .nx ∧ ∃ ds2 b2, Relax n g as ws ds2 ∧ ((ds2 = ds' ∧ b2 = b ∧ ∀ x, ds'[h]? = some (some x) → ∃ y, ds'[t]? = some (some y) ∧ y ≤ x + w) ∨ (pot ds2 < pot ds' ∧ b2 = true)) ∧ ρ = [some (.d (graphD n as)), some (.d (wsD ws)), some (.d (.int g)), some (.o none (.lst (ds2.map oD))), some (.d (.bl b2)), some (.d (.int (t : Nat))), some (.d (.int (h : Nat))), some (.d (.int w))] := fun x ex hy => by
            subst ex
            obtain ⟨r2, p2⟩ := r'.step hn hzm w1 w2 eh et hy
            rw [ok_seq, ok_asg]
            refine (ev_add ixh (ev_var 7 a7)).dv ?_
            refine ok_gitem a3 (ev_var 5 a5) (by rw [List.length_map, r'.len]; exact ht) ?_
            rw [fl_nx, ok_asg]
            refine ev_c.dv ?_
            rw [ok_gname]
            refine ⟨rfl, _, true, r2, .inr ⟨p2, rfl⟩, ?_⟩
            rw [← hρ, List.map_set]
            rfl
          rw [ok_ifS]
          cases oh with
          | none =>
            refine (eb_and (p := false) (q := false) (eb_test (ev_notN ixh)) fun z => (by cases z)).ok ⟨fun z => (by cases z), fun _ => stay fun x e => ?_⟩
            rw [eh] at e
            cases e
          | some x =>
            cases ot with
            | none =>
              refine (eb_and (p := true) (q := true) (eb_test (ev_notN ixh)) fun _ => eb_or (p := true) (q := false) (eb_test (ev_isN ixt)) fun z => (by cases z)).ok ⟨fun _ => go x rfl fun y e => (by cases e), fun z => absurd rfl z⟩
            | some y =>
              refine (eb_and (p := true) (q := decide (x + w < y)) (eb_test (ev_notN ixh)) fun _ => eb_or (p := false) (q := decide (x + w < y)) (eb_test (ev_isN ixt)) fun _ => eb_test (ev_lt (ev_add ixh (ev_var 7 a7)) ixt)).ok ⟨fun z => ?_, fun z => ?_⟩
              · have z : decide (x + w < y) = true := z
                rw [decide_eq_true_eq] at z
                exact go x rfl fun y' e => by cases e; exact z
              · have z : ¬decide (x + w < y) = true := z
                rw [decide_eq_true_eq] at z
                refine stay fun x' e => ?_
                rw [eh] at e
                cases e
                exact ⟨y, et, by omega⟩
        rcases hcase with ⟨rfl, hfix, rfl⟩ | ⟨hp, rfl⟩
        · refine ok_gtupA ?_
          refine (body false).imp ?_
          rintro f ρ ⟨rfl, ds2, b2, r2, hc, rfl⟩
          refine ⟨fun _ => ?_, fun n => (by cases n), fun s n => (by cases n)⟩
          rcases hc with ⟨rfl, rfl, hs⟩ | ⟨hp, rfl⟩
          · refine ⟨_, _, _, _, r2, .inl ⟨rfl, fun t' h' w' hm => ?_, rfl⟩⟩
            rw [etk] at hm
            rcases List.mem_append.mp hm with hm | hm
            · exact hfix t' h' w' hm
            · simp only [List.mem_singleton, Prod.mk.injEq] at hm
              obtain ⟨⟨rfl, rfl⟩, rfl⟩ := hm
              exact hs
          · exact ⟨_, _, _, _, r2, .inr ⟨hp, rfl⟩⟩
        · refine ok_gtupA ?_
          refine (body true).imp ?_
          rintro f ρ ⟨rfl, ds2, b2, r2, hc, rfl⟩
          refine ⟨fun _ => ?_, fun n => (by cases n), fun s n => (by cases n)⟩
          rcases hc with ⟨rfl, rfl, hs⟩ | ⟨hp2, rfl⟩
          · exact ⟨_, _, _, _, r2, .inr ⟨hp, rfl⟩⟩
          · exact ⟨_, _, _, _, r2, .inr ⟨by omega, rfl⟩⟩
      · rintro ρ ⟨ds', x5, x6, x7, r', ⟨rfl, hfix, rfl⟩ | ⟨hp, rfl⟩⟩
        · rw [Nat.zero_add, List.length_map, List.take_length] at hfix
          exact ⟨rfl, 0, by omega, _, _, _, _, r', .inr ⟨rfl, hfix, rfl⟩⟩
        · exact ⟨rfl, pot ds' + 1, by omega, _, _, _, _, r', .inl ⟨rfl, rfl⟩⟩
    · refine (eb_truth (ev_var 4 rfl) (b := false) rfl).ok ⟨fun n => (by cases n), fun _ => ?_⟩
      exact ⟨rfl, ds, _, _, _, _, ⟨r.len, r.goal, hfix, r.way⟩, rfl⟩
  rintro _ ⟨ds, x4, x5, x6, x7, hd, rfl⟩
  unfold mRetO
  dsimp only [List.getElem?_cons_succ, List.getElem?_cons_zero]
  rw [ok_ok]
  exact .inl ⟨_, rfl, ds, hd, rfl⟩
end Lib
end Fx

/-! next hops on data -/
namespace Fx
open PySem
local macro_rules | `(tactic| walk_at "wp") => `(tactic| simp only [okF_runF, okF_runL, ok_seq, ok_ret, ok_retN, ok_andV, ok_orV, ok_notV, ok_cb, ok_cons, ok_nil, ok_test, ok_dv, ok_op, ok_un, ok_c, ok_if, ok_ifS, ok_and, ok_or, ok_not, ok_asg, ok_gname, ok_drop, ok_call, ok_chain, ok_nx, ok_bk, ok_ct, ok_st, ok_yes, ok_tup, ok_ok, ok_stuck, ex_toD, ex_toL, ex_bl, ex_some, ex_bl1, fl_nx, fl_rt, fl_bk, fl_ct, rt_or, nx_or, mVar, ok1, gIsi, mIsi2, gIsi2, isTy2, isTy, Option.bind, bare, e_add, e_sub, e_int, e_lenS, e_lenT, e_lenL, e_lt, e_le, e_gt, e_ge, e_leC, e_ltC, e_isN, e_notN, e_pow,
  List.map_cons, List.map_nil, List.length_cons, List.length_nil, List.replicate_succ, List.replicate_zero, List.cons_append, List.nil_append, List.append_nil, List.getElem?_cons_zero, List.getElem?_cons_succ, List.set_cons_zero, List.set_cons_succ, Nat.reduceAdd, Nat.reduceSub, true_and, and_true, Bool.not_true, Bool.not_false, true_implies, forall_const, not_true_eq_false, false_implies, Bool.false_eq_true, not_false_eq_true, implies_true, eq_self, ne_eq, reduceCtorEq, Fl.rt.injEq, S.d.injEq, D.int.injEq, false_and, exists_false, or_false, false_or, exists_eq_left'])
local macro_rules | `(tactic| walk_at "wt") => `(tactic| simp (config := { contextual := false }) only [ok_row0, ok_row1, ok_row2, ok_row3, ok_put1, ok_put2, ok_put3, e_mod, e_div, e_mul, e_ixS, decide_true, decide_false, *, okF_runF, okF_runL, ok_seq, ok_ret, ok_retN, ok_andV, ok_orV, ok_notV, ok_cb, ok_cons, ok_nil, ok_test, ok_dv, ok_op, ok_un, ok_c, ok_if, ok_ifS, ok_and, ok_or, ok_not, ok_asg, ok_gname, ok_drop, ok_call, ok_chain, ok_nx, ok_bk, ok_ct, ok_st, ok_yes, ok_tup, ok_ok, ok_stuck, ex_toD, ex_toL, ex_bl, ex_some, ex_bl1, fl_nx, fl_rt, fl_bk, fl_ct, rt_or, nx_or, mVar, ok1, gIsi, mIsi2, gIsi2, isTy2, isTy, Option.bind, bare, e_add, e_sub, e_int, e_lenS, e_lenT, e_lenL, e_lt, e_le, e_gt, e_ge, e_leC, e_ltC, e_isN, e_notN, e_pow,
  List.map_cons, List.map_nil, List.length_cons, List.length_nil, List.replicate_succ, List.replicate_zero, List.cons_append, List.nil_append, List.append_nil, List.getElem?_cons_zero, List.getElem?_cons_succ, List.set_cons_zero, List.set_cons_succ, Nat.reduceAdd, Nat.reduceSub, true_and, and_true, Bool.not_true, Bool.not_false, true_implies, forall_const, not_true_eq_false, false_implies, Bool.false_eq_true, not_false_eq_true, implies_true, eq_self, ne_eq, reduceCtorEq, Fl.rt.injEq, S.d.injEq, D.int.injEq, false_and, exists_false, or_false, false_or, exists_eq_left'])
local macro_rules | `(tactic| walk_at "wy") => `(tactic| try walk_at "wp")
local macro_rules | `(tactic| walk_at "we") => `(tactic| first | done | rfl | exact ⟨rfl, rfl⟩ | exact ⟨rfl, rfl, rfl⟩)

section
variable {ρ : En} {x y z : D} {fa fb fe : M S} {ft : M Bool}
theorem ev_ixL {ds : List D} {i : Nat} (ha : Ev fa ρ (.lst ds)) (hb : Ev fb ρ (.int (i : Nat))) (e : ds[i]? = some x) : Ev (mOp gIx fa fb) ρ x := ev_op ha hb (by
  have hi := (List.getElem?_eq_some_iff.mp e).1
  obtain ⟨s, e1, k⟩ := (e_ixL (ds := ds) (i := (i : Int)) (by omega) (by omega) (K := fun s => s = .d x)).mpr (by rw [Int.toNat_natCast, e]; rfl)
  rw [e1, k])
theorem ev_eqO {o : Option Int} {k : Int} (ha : Ev fa ρ (Lib.oD o)) (hb : Ev fb ρ (.int k)) : Ev (mOp gEq fa fb) ρ (.bl (decide (o = some k))) := by
  cases o with
  | none => exact ev_op ha hb rfl
  | some i =>
    have e : decide (some i = some k) = decide (i = k) := by simp
    rw [e]
    exact ev_eq ha hb
theorem ev_neT {xs : List D} (h : Ev fa ρ (.tup xs)) (hp : pl60 (.tup xs) = true) : Ev (mOp gNe fa (mTup aNil)) ρ (.bl (!xs.isEmpty)) := ev_op h (ev_tup ea_nil) (by
  unfold gNe
  rw [hp]
  cases xs <;> rfl)
theorem ev_catT {xs ys : List D} (ha : Ev fa ρ (.tup xs)) (hb : Ev fb ρ (.tup ys)) (hs : small (xs.length + ys.length) = true) : Ev (mOp gAdd fa fb) ρ (.tup (xs ++ ys)) := ev_op ha hb (by
  show (if small (xs.length + ys.length) then some (S.d (.tup (xs ++ ys))) else none) = _
  rw [if_pos hs])
/-- [f(x) for x in xs if t] -/
theorem ok_fm {k : Nat} {items : List D} {t : D → Bool} {f : D → D} {PL : List D → En → Prop} (hk : k < ρ.length) (hw : ρ.set k none = ρ) (st : ∀ x ∈ items, EvB ft (ρ.set k (some (.d x))) (t x)) (sv : ∀ x ∈ items, t x = true → Ev fe (ρ.set k (some (.d x))) (f x)) (hs : items.length ≤ 1000000) (q : PL ((items.filter t).map f) ρ) :
    OK (mComp (gmName k) ft fe [k] items [] ρ) PL := by
  have hwipe : ∀ x, wipeE (ρ.set k (some (.d x))) [k] = ρ := fun x => by
    show (ρ.set k (some (.d x))).set k none = ρ
    rw [List.set_set, hw]
  refine ok_comp (I := fun i a ρ' => a = ((items.take i).filter t).map f ∧ ρ' = ρ) (k := 0) ⟨by simp, rfl⟩ ?_ ?_
  · rintro i x a ρ' hx ⟨rfl, rfl⟩
    have hm : x ∈ items := List.mem_of_getElem? hx
    have hi : i < items.length := (List.getElem?_eq_some_iff.mp hx).1
    have hle : ((items.take i).filter t).length ≤ i := Nat.le_trans (List.length_filter_le _ _) (by rw [List.length_take]; omega)
    have e : ((items.take (i + 1)).filter t).map f = ((items.take i).filter t).map f ++ (if t x then [f x] else []) := by
      rw [List.take_add_one, hx, List.filter_append, List.map_append]
      congr 1
      show List.map f (List.filter t [x]) = _
      rw [List.filter_cons, List.filter_nil]
      split <;> rfl
    rw [ok_gname]
    refine (st x hm).ok ⟨fun h => ?_, fun h => ?_⟩
    · refine (sv x hm h).dv ⟨?_, ?_, hwipe x⟩
      · rw [List.length_map, Nat.zero_add]
        exact decide_eq_true (by omega)
      · rw [Nat.zero_add, e, if_pos h]
    · refine ⟨?_, hwipe x⟩
      rw [Nat.zero_add, e, if_neg h, List.append_nil]
  · rintro a ρ' ⟨rfl, rfl⟩
    rw [Nat.zero_add, List.take_length]
    exact q
theorem ev_rfm {k n : Nat} {t : D → Bool} {f : D → D} {fn : M S} (hk : k < ρ.length) (hw : ρ.set k none = ρ) (hf : Ev fn ρ (.int (n : Nat))) (st : ∀ i, i < n → EvB ft (ρ.set k (some (.d (.int (i : Nat))))) (t (.int (i : Nat)))) (sv : ∀ i, i < n → t (.int (i : Nat)) = true → Ev fe (ρ.set k (some (.d (.int (i : Nat))))) (f (.int (i : Nat)))) (hs : n ≤ 1000000) :
    Ev (mLc (iRange1 (aCons fn aNil)) (gmName k) ft fe [k]) ρ (.lst (((intsFrom 0 n).filter t).map f)) := by
  have at_ : ∀ x ∈ intsFrom 0 n, ∃ j : Nat, x = .int j ∧ j < n := fun x hx => by
    obtain ⟨j, hj⟩ := List.getElem?_of_mem hx
    obtain ⟨rfl, h⟩ := intsFrom_at hj
    exact ⟨j, rfl, h⟩
  unfold Ev
  rw [ok_dv, ok_lc]
  refine @ok_range1e _ _ _ ?_
  refine (ea_cons hf ea_nil).ok ⟨(n : Int), rfl, by omega, by omega, ?_⟩
  have ew : wipeE ρ [k] = ρ := hw
  rw [ew, Int.toNat_natCast]
  refine ok_fm hk hw (fun x hx => ?_) (fun x hx ht => ?_) (by rw [intsFrom_length]; exact hs) ⟨_, rfl, rfl, rfl⟩
  · obtain ⟨j, rfl, hj⟩ := at_ x hx
    exact st j hj
  · obtain ⟨j, rfl, hj⟩ := at_ x hx
    exact sv j hj ht
theorem ev_rmap {k n : Nat} {f : D → D} {fn : M S} (hk : k < ρ.length) (hw : ρ.set k none = ρ) (hf : Ev fn ρ (.int (n : Nat))) (sv : ∀ i, i < n → Ev fe (ρ.set k (some (.d (.int (i : Nat))))) (f (.int (i : Nat)))) (hs : n ≤ 1000000) :
    Ev (mLc (iRange1 (aCons fn aNil)) (gmName k) mYes fe [k]) ρ (.lst ((intsFrom 0 n).map f)) := by
  have := ev_rfm (t := fun _ => true) (f := f) hk hw hf (fun i _ => (by
    unfold EvB
    rw [ok_yes]
    exact ⟨rfl, rfl⟩)) (fun i hi _ => sv i hi) hs
  rw [List.filter_eq_self.mpr fun _ _ => rfl] at this
  exact this
end
theorem intsFrom_map (n : Nat) : intsFrom 0 n = (List.range n).map fun i : Nat => D.int i := by
  refine List.ext_getElem? fun i => ?_
  rw [List.getElem?_map]
  by_cases h : i < n
  · rw [intsFrom_get n 0 i h, List.getElem?_range h]
    show some (D.int ((0 : Int) + (i : Int))) = some (D.int (i : Int))
    rw [Int.zero_add]
  · rw [List.getElem?_eq_none (by rw [intsFrom_length]; omega), List.getElem?_eq_none (by rw [List.length_range]; omega)]
    rfl
/-- filtered by index, filtered -/
theorem range_fm {α β : Type} {zs : List α} {P : Option α → Bool} {Q : Option α → β} : (((List.range zs.length).filter fun i => P zs[i]?).map fun i => Q zs[i]?) = (zs.filter fun a => P (some a)).map fun a => Q (some a) := by
  have e : (List.range zs.length).map (fun i => zs[i]?) = zs.map some := by
    refine List.ext_getElem? fun i => ?_
    rw [List.getElem?_map, List.getElem?_map]
    by_cases h : i < zs.length
    · rw [List.getElem?_range h, List.getElem?_eq_getElem h]
      simp [List.getElem?_eq_getElem h]
    · rw [List.getElem?_eq_none (by rw [List.length_range]; omega), List.getElem?_eq_none (by omega)]
      rfl
  have h1 : ((List.range zs.length).filter fun i => P zs[i]?).map (fun i => Q zs[i]?) = (((List.range zs.length).map fun i => zs[i]?).filter P).map Q := by
    rw [List.filter_map, List.map_map]
    rfl
  rw [h1, e, List.filter_map, List.map_map]
  rfl
section
variable {k : Nat} {fk : M S} {ρ0 : En} {PD : List D × List (List D) → En → Prop}
/-- {x: [] for x in xs}, the xs keys, each once -/
theorem ok_dcompQ : ∀ {items ks : List D} {dss : List (List D)}, (∀ x ∈ items, isKey x = true) → (∀ x ∈ items, ks.any (keyEq x) = false) → items.Pairwise (fun x y => keyEq y x = false) → ks.length + items.length ≤ 16777216 →
    (∀ x ∈ items, Ev fk (ρ0.set k (some (.d x))) x) → (∀ x, (ρ0.set k (some (S.d x))).set k none = ρ0) → PD (ks ++ items, dss ++ List.replicate items.length []) ρ0 → OK (mDCompQ (gmName k) mYes fk (mLst aNil) [k] items ks dss ρ0) PD
  | [], ks, dss, _, _, _, _, _, _, q => by
    unfold mDCompQ
    rw [ok_ok]
    rw [List.append_nil, List.length_nil, List.replicate_zero, List.append_nil] at q
    exact q
  | x :: xs, ks, dss, h1, h2, h3, h4, h5, h6, q => by
    unfold mDCompQ
    rw [ok_then, ok_calm, ok_gname, ok_then, ok_calm, ok_yes, if_pos rfl, ok_then, ok_calm]
    refine (h5 x List.mem_cons_self).dv ?_
    rw [ok_then, ok_calm, ok_lst]
    refine ea_nil.ok ⟨rfl, ?_⟩
    dsimp only
    rw [List.pairwise_cons] at h3
    rw [List.length_cons] at h4
    have hz : (isKey x && !ks.any (keyEq x) && small (ks.length + 1)) = true := by
      rw [h1 x List.mem_cons_self, h2 x List.mem_cons_self]
      exact decide_eq_true (by omega)
    rw [if_pos hz]
    have ew : wipeE (ρ0.set k (some (S.d x))) [k] = ρ0 := h6 x
    rw [ew]
    refine ok_dcompQ (fun z hz => h1 z (List.mem_cons_of_mem _ hz)) (fun z hz => ?_) h3.2 (by rw [List.length_append]; simp only [List.length_cons, List.length_nil]; omega) (fun z hz => h5 z (List.mem_cons_of_mem _ hz)) h6 ?_
    · rw [List.any_append, h2 z (List.mem_cons_of_mem _ hz)]
      simp [h3.1 z hz]
    · rw [List.append_assoc, List.append_assoc]
      exact q
theorem ints_apart (n : Nat) : (intsFrom 0 n).Pairwise (fun x y => keyEq y x = false) := by
  rw [List.pairwise_iff_getElem]
  intro a b ha hb hab
  rw [intsFrom_length] at ha hb
  have e1 := intsFrom_get n 0 a ha
  have e2 := intsFrom_get n 0 b hb
  rw [List.getElem?_eq_getElem (by rw [intsFrom_length]; exact ha)] at e1
  rw [List.getElem?_eq_getElem (by rw [intsFrom_length]; exact hb)] at e2
  rw [Option.some.inj e1, Option.some.inj e2]
  show decide ((0 : Int) + (b : Int) = 0 + (a : Int)) = false
  rw [decide_eq_false_iff_not]
  omega
/-- d[k].append(x) -/
theorem ok_appQ {i j n : Nat} {g : Nat} {ks : List D} {dss : List (List D)} {ds : List D} {x : D} {ρ : En} {P : S → En → Prop} (e1 : ρ[i]? = some (some (.q ks dss))) (hk : Ev fk ρ (.int (n : Nat))) (e2 : keyAt ks (.int (n : Nat)) = some g) (e3 : dss[g]? = some ds) (e4 : ρ[j]? = some (some (.d x))) (hs : ds.length ≤ 1000000) (q : P (.d .non) (ρ.set i (some (.q ks (dss.set g (ds ++ [x])))))) : OK (mMethQ1 i fk gApp j ρ) P := by
  have hq : isQ ρ i = true := by
    unfold isQ
    rw [e1]
  unfold mMethQ1
  rw [if_pos hq, ok_then]
  refine hk.dv ?_
  rw [e1, e4]
  dsimp only
  rw [if_pos (show isKey (D.int (n : Nat)) = true from rfl), e2]
  dsimp only
  rw [e3]
  have hs : small (ds.length + 1) = true := decide_eq_true (by omega)
  have hg : gApp ds x = some (.non, ds ++ [x]) := if_pos hs
  dsimp only
  rw [hg]
  dsimp only
  rw [ok_ok]
  exact q
end
namespace Lib
def tight (ds : List (Option Int)) (p : (Nat × Nat) × Int) : Bool := match ds[p.1.2]? with
  | some (some x) => decide (ds[p.1.1]? = some (some (x + p.2)))
  | _ => false
/-- the arcs of least ways -/
def tightArcs (as : List (Nat × Nat)) (ws : List Int) (ds : List (Option Int)) : List (Nat × Nat) := ((as.zip ws).filter (tight ds)).map (·.1)
theorem hd_app {as bs : List (Nat × Nat)} {v : Nat} : hd (as ++ bs) v = hd as v ++ hd bs v := by
  unfold hd
  rw [List.filter_append, List.map_append]
theorem hd_one {t h v : Nat} : hd [(t, h)] v = if t = v then [h] else [] := by
  unfold hd
  rw [List.filter_cons, List.filter_nil]
  by_cases e : t = v <;> simp [e]
theorem hd_len {as : List (Nat × Nat)} {v : Nat} : (hd as v).length ≤ as.length := by
  unfold hd
  rw [List.length_map]
  exact List.length_filter_le _ _
theorem nat_ne_iff {t v : Nat} : (decide ((t : Int) = (v : Int))) = decide (t = v) := by
  rw [decide_eq_decide]
  omega
theorem nearest_heads {n g : Nat} {as : List (Nat × Nat)} {ws : List Int} {ds : List (Option Int)} (o : OkArcs n as) (hw : OkW as ws) (hn : n ≤ 8) (hg : g < n) (hd' : ∀ ds', Dist n g as ws ds' → ds' = ds) : OKF (f_nearest_heads [.d (graphD n as), .d (wsD ws), .d (.int g)]) fun s => s = .d (headsD n (tightArcs as ws ds)) := by
  have hl := o.len
  have hz : n * n ≤ 8 * 8 := Nat.mul_le_mul hn hn
  rw [okF]
  unfold f_nearest_heads
  refine ok_runF rfl ?_
  show OK (b_nearest_heads [some (.d (graphD n as)), some (.d (wsD ws)), some (.d (.int g)), none, none, none, none, none, none]) _
  unfold b_nearest_heads
  refine ok_seqI (fun ρ => Dist n g as ws ds ∧ ρ = [some (.d (graphD n as)), some (.d (wsD ws)), some (.d (.int g)), some (.d (.lst (ds.map oD))), none, none, none, none, none]) ?_ ?_
  · rw [ok_asg, ok_dv, ok_call]
    refine (ea_cons (ev_var 0 rfl) (ea_cons (ev_var 1 rfl) (ea_cons (ev_var 2 rfl) ea_nil))).ok ?_
    refine (distances_to o hw hn hg).imp fun s ⟨ds', h, e⟩ => ?_
    have := hd' ds' h
    subst this
    rw [e]
    refine ⟨rfl, _, rfl, ?_⟩
    rw [ok_gname]
    exact ⟨rfl, h, rfl⟩
  rintro _ ⟨hds, rfl⟩
  refine ok_seqI (fun ρ => ρ = [some (.d (graphD n as)), some (.d (wsD ws)), some (.d (.int g)), some (.d (.lst (ds.map oD))), some (.q (intsFrom 0 n) (List.replicate n [])), none, none, none, none]) ?_ ?_
  · unfold mSetDcQ
    rw [ok_then, ok_iseq]
    refine (ev_fld (n := "Graph") (i := 0) (ev_var 0 rfl) rfl).dv ⟨_, rfl, ?_⟩
    rw [ok_then]
    have at_ : ∀ x ∈ intsFrom 0 n, ∃ j : Nat, x = .int j ∧ j < n := fun x hx => by
      obtain ⟨j, hj⟩ := List.getElem?_of_mem hx
      obtain ⟨rfl, h⟩ := intsFrom_at hj
      exact ⟨j, rfl, h⟩
    show OK (mDCompQ (gmName 5) mYes (mVar 5) (mLst aNil) [5] (intsFrom 0 n) [] [] [some (.d (graphD n as)), some (.d (wsD ws)), some (.d (.int g)), some (.d (.lst (ds.map oD))), none, none, none, none, none]) _
    refine ok_dcompQ (fun x hx => ?_) (fun _ _ => rfl) (ints_apart n) (by rw [intsFrom_length, List.length_nil]; omega) (fun x hx => ev_var 5 rfl) (fun x => rfl) ?_
    · obtain ⟨j, rfl, _⟩ := at_ x hx
      rfl
    · rw [ok_ok]
      refine ⟨rfl, ?_⟩
      rw [intsFrom_length]
      rfl
  rintro _ rfl
  refine ok_seqI (fun ρ => ∃ x6 x7 x8, ρ = [some (.d (graphD n as)), some (.d (wsD ws)), some (.d (.int g)), some (.d (.lst (ds.map oD))), some (.q (intsFrom 0 n) ((List.range n).map fun v => (hd (tightArcs as ws ds) v).map fun h : Nat => D.int h)), none, x6, x7, x8]) ?_ ?_
  · rw [ok_for]
    refine ok_izipT (ev_fld (ev_var 0 rfl) rfl) (ev_var 1 rfl) ?_
    rw [zip_items]
    refine @ok_loop _ _ (fun i ρ => ∃ x6 x7 x8, ρ = [some (.d (graphD n as)), some (.d (wsD ws)), some (.d (.int g)), some (.d (.lst (ds.map oD))), some (.q (intsFrom 0 n) ((List.range n).map fun v => (hd ((((as.zip ws).take i).filter (tight ds)).map (·.1)) v).map fun h : Nat => D.int h)), none, x6, x7, x8]) _ _ 0 _ ⟨none, none, none, ?_⟩ ?_ ?_
    · have : (List.range n).map (fun v => (hd ((((as.zip ws).take 0).filter (tight ds)).map (·.1)) v).map fun h : Nat => D.int h) = List.replicate n [] := by
        rw [List.eq_replicate_iff]
        refine ⟨by rw [List.length_map, List.length_range], fun b hb => ?_⟩
        obtain ⟨v, _, rfl⟩ := List.mem_map.mp hb
        rfl
      rw [this]
    · rintro i z ρ hz' ⟨x6, x7, x8, rfl⟩
      rw [List.getElem?_map] at hz'
      obtain ⟨⟨⟨t, h⟩, w⟩, hi, rfl⟩ := Option.map_eq_some_iff.mp hz'
      have hzm := List.mem_of_getElem? hi
      obtain ⟨ht, hh, hne, w1, w2⟩ := zip_rng o hw hzm
      rw [Nat.zero_add]
      have etk : (as.zip ws).take (i + 1) = (as.zip ws).take i ++ [((t, h), w)] := by rw [List.take_add_one, hi]; rfl
      obtain ⟨oh, eh⟩ : ∃ oh, ds[h]? = some oh := ⟨_, List.getElem?_eq_getElem (by rw [hds.len]; exact hh)⟩
      obtain ⟨ot, et⟩ : ∃ ot, ds[t]? = some ot := ⟨_, List.getElem?_eq_getElem (by rw [hds.len]; exact ht)⟩
      refine ok_gtupA ?_
      show OK (mIfS _ _ mNx [some (.d (graphD n as)), some (.d (wsD ws)), some (.d (.int g)), some (.d (.lst (ds.map oD))), some (.q (intsFrom 0 n) ((List.range n).map fun v => (hd ((((as.zip ws).take i).filter (tight ds)).map (·.1)) v).map fun h : Nat => D.int h)), none, some (.d (.int (t : Nat))), some (.d (.int (h : Nat))), some (.d (.int w))]) _
      have ixh : Ev (mOp gIx (mVar 3) (mVar 7)) [some (.d (graphD n as)), some (.d (wsD ws)), some (.d (.int g)), some (.d (.lst (ds.map oD))), some (.q (intsFrom 0 n) ((List.range n).map fun v => (hd ((((as.zip ws).take i).filter (tight ds)).map (·.1)) v).map fun h : Nat => D.int h)), none, some (.d (.int (t : Nat))), some (.d (.int (h : Nat))), some (.d (.int w))] (oD oh) := ev_ixL (ev_var 3 rfl) (ev_var 7 rfl) (by rw [List.getElem?_map, eh]; rfl)
      have ixt : Ev (mOp gIx (mVar 3) (mVar 6)) [some (.d (graphD n as)), some (.d (wsD ws)), some (.d (.int g)), some (.d (.lst (ds.map oD))), some (.q (intsFrom 0 n) ((List.range n).map fun v => (hd ((((as.zip ws).take i).filter (tight ds)).map (·.1)) v).map fun h : Nat => D.int h)), none, some (.d (.int (t : Nat))), some (.d (.int (h : Nat))), some (.d (.int w))] (oD ot) := ev_ixL (ev_var 3 rfl) (ev_var 6 rfl) (by rw [List.getElem?_map, et]; rfl)
      have stay : tight ds ((t, h), w) = false → OK (mNx [some (.d (graphD n as)), some (.d (wsD ws)), some (.d (.int g)), some (.d (.lst (ds.map oD))), some (.q (intsFrom 0 n) ((List.range n).map fun v => (hd ((((as.zip ws).take i).filter (tight ds)).map (·.1)) v).map fun h : Nat => D.int h)), none, some (.d (.int (t : Nat))), some (.d (.int (h : Nat))), some (.d (.int w))]) fun f ρ2 => (f = .nx ∨ f = .ct → ∃ x6 x7 x8, ρ2 = [some (.d (graphD n as)), some (.d (wsD ws)), some (.d (.int g)), some (.d (.lst (ds.map oD))), some (.q (intsFrom 0 n) ((List.range n).map fun v => (hd ((((as.zip ws).take (i + 1)).filter (tight ds)).map (·.1)) v).map fun h : Nat => D.int h)), none, x6, x7, x8]) ∧ (f = .bk → Fl.nx = .nx ∧ ∃ x6 x7 x8, ρ2 = [some (.d (graphD n as)), some (.d (wsD ws)), some (.d (.int g)), some (.d (.lst (ds.map oD))), some (.q (intsFrom 0 n) ((List.range n).map fun v => (hd (tightArcs as ws ds) v).map fun h : Nat => D.int h)), none, x6, x7, x8]) ∧ ∀ s, f = .rt s → Fl.rt s = .nx ∧ ∃ x6 x7 x8, ρ2 = [some (.d (graphD n as)), some (.d (wsD ws)), some (.d (.int g)), some (.d (.lst (ds.map oD))), some (.q (intsFrom 0 n) ((List.range n).map fun v => (hd (tightArcs as ws ds) v).map fun h : Nat => D.int h)), none, x6, x7, x8] := fun hf => by
        rw [ok_nx]
        refine ⟨fun _ => ⟨some (.d (.int (t : Nat))), some (.d (.int (h : Nat))), some (.d (.int w)), ?_⟩, fun n => (by cases n), fun s n => (by cases n)⟩
        rw [etk, List.filter_append]
        have : List.filter (tight ds) [((t, h), w)] = [] := by rw [List.filter_cons, hf]; rfl
        rw [this, List.append_nil]
      rw [ok_ifS]
      cases oh with
      | none =>
        refine (eb_and (p := false) (q := false) (eb_test (ev_notN ixh)) fun z => (by cases z)).ok ⟨fun z => (by cases z), fun _ => stay ?_⟩
        unfold tight
        dsimp only
        rw [eh]
      | some x =>
        obtain ⟨y, ey, _⟩ := hds.fix t h w hzm x eh
        rw [et] at ey
        cases ey
        have htt : tight ds ((t, h), w) = decide (x + w = y) := by
          unfold tight
          dsimp only
          rw [eh, et, decide_eq_decide]
          simp only [Option.some.injEq]
          exact ⟨fun h => h.symm, fun h => h.symm⟩
        refine (eb_and (p := true) (q := decide (x + w = y)) (eb_test (ev_notN ixh)) fun _ => eb_test (ev_eq (ev_add ixh (ev_var 8 rfl)) ixt)).ok ⟨fun z => ?_, fun z => ?_⟩
        · have z : decide (x + w = y) = true := z
          rw [ok_drop]
          have hsz : ((hd ((((as.zip ws).take i).filter (tight ds)).map (·.1)) t).map fun h : Nat => D.int h).length ≤ 1000000 := by
            rw [List.length_map]
            refine Nat.le_trans hd_len ?_
            rw [List.length_map]
            refine Nat.le_trans (List.length_filter_le _ _) ?_
            rw [List.length_take, List.length_zip]
            omega
          refine ok_appQ (g := t) rfl (ev_var 6 rfl) ?_ (by rw [List.getElem?_map, List.getElem?_range ht]; rfl) rfl hsz ?_
          · have := keyAt_ints (n := n) (i := t) (lo := 0) ht
            rw [Nat.zero_add] at this
            exact this
          refine ⟨fun _ => ⟨some (.d (.int (t : Nat))), some (.d (.int (h : Nat))), some (.d (.int w)), ?_⟩, fun n => (by cases n), fun s n => (by cases n)⟩
          have e : ((List.range n).map fun v => (hd ((((as.zip ws).take i).filter (tight ds)).map (·.1)) v).map fun h : Nat => D.int h).set t (((hd ((((as.zip ws).take i).filter (tight ds)).map (·.1)) t).map fun h : Nat => D.int h) ++ [.int (h : Nat)]) = (List.range n).map fun v => (hd ((((as.zip ws).take (i + 1)).filter (tight ds)).map (·.1)) v).map fun h : Nat => D.int h := by
            have ef : List.filter (tight ds) [((t, h), w)] = [((t, h), w)] := by rw [List.filter_cons, htt, z]; rfl
            refine List.ext_getElem? fun v => ?_
            by_cases hv : v < n
            · by_cases hvt : t = v
              · subst hvt
                rw [List.getElem?_set_self (by rw [List.length_map, List.length_range]; exact ht), List.getElem?_map, List.getElem?_range ht, Option.map_some, etk, List.filter_append, ef, List.map_append, hd_app, List.map_cons, List.map_nil, hd_one, if_pos rfl, List.map_append]
                rfl
              · rw [List.getElem?_set_ne hvt, List.getElem?_map, List.getElem?_map, List.getElem?_range hv, Option.map_some, Option.map_some, etk, List.filter_append, ef, List.map_append (l₁ := List.filter (tight ds) (List.take i (as.zip ws))), hd_app, List.map_cons, List.map_nil, hd_one, if_neg hvt, List.append_nil]
            · rw [List.getElem?_eq_none (by rw [List.length_set, List.length_map, List.length_range]; omega), List.getElem?_eq_none (by rw [List.length_map, List.length_range]; omega)]
          rw [← e]
          rfl
        · refine stay ?_
          have z : ¬decide (x + w = y) = true := z
          rw [htt]
          simpa using z
    · rintro ρ ⟨x6, x7, x8, rfl⟩
      rw [Nat.zero_add, List.length_map, List.take_length]
      exact ⟨rfl, x6, x7, x8, rfl⟩
  rintro _ ⟨x6, x7, x8, rfl⟩
  rw [ok_ret]
  unfold mVarQ
  dsimp only [List.getElem?_cons_succ, List.getElem?_cons_zero]
  rw [ok_ok]
  refine .inl ⟨_, rfl, ?_⟩
  unfold headsD
  congr 2
  rw [List.map_map, intsFrom_map, List.map_map]
  refine List.map_congr_left fun v _ => ?_
  show D.lst _ = natsD (hd (tightArcs as ws ds) ((v : Nat) : Int).toNat)
  rw [Int.toNat_natCast]
  rfl
/-! distances are one -/
theorem Way.le {n g : Nat} {as : List (Nat × Nat)} {ws ws' : List Int} {ds : List (Option Int)} (d : Dist n g as ws ds) (h : ∀ p w', (p, w') ∈ as.zip ws' → ∃ w, w ≤ w' ∧ (p, w) ∈ as.zip ws) : ∀ {v : Nat} {x' : Int}, Way as ws' g v x' → ∃ x, x ≤ x' ∧ ds[v]? = some (some x) := by
  intro v x' hw
  induction hw with
  | nil => exact ⟨0, Int.le_refl _, d.goal⟩
  | step hz _ ih =>
    obtain ⟨x, h1, h2⟩ := ih
    obtain ⟨w, h3, h4⟩ := h _ _ hz
    obtain ⟨y, h5, h6⟩ := d.fix _ _ _ h4 x h2
    exact ⟨y, by omega, h5⟩
theorem Way.some {n g : Nat} {as : List (Nat × Nat)} {ws ws' : List Int} {ds : List (Option Int)} (d : Dist n g as ws ds) (h : ∀ p w', (p, w') ∈ as.zip ws' → ∃ w, (p, w) ∈ as.zip ws) : ∀ {v : Nat} {x' : Int}, Way as ws' g v x' → ∃ x, ds[v]? = .some (.some x) := by
  intro v x' hw
  induction hw with
  | nil => exact ⟨0, d.goal⟩
  | step hz _ ih =>
    obtain ⟨x, h2⟩ := ih
    obtain ⟨w, h4⟩ := h _ _ hz
    obtain ⟨y, h5, _⟩ := d.fix _ _ _ h4 x h2
    exact ⟨y, h5⟩
theorem Dist.one {n g : Nat} {as : List (Nat × Nat)} {ws : List Int} {ds ds' : List (Option Int)} (d : Dist n g as ws ds) (d' : Dist n g as ws ds') : ds' = ds := by
  have key : ∀ {a b : List (Option Int)}, Dist n g as ws a → Dist n g as ws b → ∀ (v : Nat) (x : Int), a[v]? = some (some x) → b[v]? = some (some x) := by
    intro a b da db v x e
    obtain ⟨y, h1, h2⟩ := (da.way v x e).le db fun p w h => ⟨w, Int.le_refl _, h⟩
    obtain ⟨z, h3, h4⟩ := (db.way v y h2).le da fun p w h => ⟨w, Int.le_refl _, h⟩
    rw [e] at h4
    cases h4
    have : x = y := by omega
    rw [this]
    exact h2
  refine List.ext_getElem? fun v => ?_
  by_cases hv : v < n
  · obtain ⟨a, ea⟩ : ∃ a, ds[v]? = some a := ⟨_, List.getElem?_eq_getElem (by rw [d.len]; exact hv)⟩
    obtain ⟨b, eb⟩ : ∃ b, ds'[v]? = some b := ⟨_, List.getElem?_eq_getElem (by rw [d'.len]; exact hv)⟩
    cases b with
    | some x => rw [eb, key d' d v x eb]
    | none =>
      cases a with
      | none => rw [ea, eb]
      | some x =>
        rw [key d d' v x ea] at eb
        cases eb
  · rw [List.getElem?_eq_none (by rw [d'.len]; omega), List.getElem?_eq_none (by rw [d.len]; omega)]
theorem dist_ex {n g : Nat} {as : List (Nat × Nat)} {ws : List Int} (o : OkArcs n as) (hw : OkW as ws) (hn : n ≤ 8) (hg : g < n) : ∃ ds, Dist n g as ws ds := by
  have h := distances_to o hw hn hg
  rw [okF_eq] at h
  obtain ⟨s, ρ, _, ds, hd, _⟩ := R.OKr.at h
  exact ⟨ds, hd⟩
section
variable {n g : Nat} {as : List (Nat × Nat)} {ws : List Int} {ds : List (Option Int)} (o : OkArcs n as) (hw : OkW as ws) (hn : n ≤ 8) (hg : g < n) (d : Dist n g as ws ds)
include o hw hn hg d
theorem distance {v : Nat} {x : Option Int} (hv : v < n) (e : ds[v]? = some x) : OKF (f_distance [.d (graphD n as), .d (wsD ws), .d (.int v), .d (.int g)]) fun s => s = .d (oD x) := by
  have hl := o.len
  have hz : n * n ≤ 8 * 8 := Nat.mul_le_mul hn hn
  rw [okF]
  unfold f_distance
  refine ok_runF rfl ?_
  show OK (b_distance [some (.d (graphD n as)), some (.d (wsD ws)), some (.d (.int v)), some (.d (.int g))]) _
  unfold b_distance
  rw [ok_seq, ok_drop]
  refine (ev_call (ea_cons (ev_var 0 rfl) (ea_cons (ev_var 1 rfl) (ea_cons (ev_tup (ea_cons (ev_var 2 rfl) (ea_cons (ev_var 3 rfl) ea_nil))) ea_nil))) (check_weighted (vs := [v, g]) hw (by omega) fun u hu => ?_)).raw.imp fun s ρ1 ⟨_, e1⟩ => ?_
  · simp only [List.mem_cons, List.not_mem_nil, or_false] at hu
    rcases hu with rfl | rfl
    · exact hv
    · exact hg
  rw [e1, fl_nx, ok_ret, ok_op, ok_dv, ok_call]
  refine (ea_cons (ev_var 0 rfl) (ea_cons (ev_var 1 rfl) (ea_cons (ev_var 3 rfl) ea_nil))).ok ?_
  refine (distances_to o hw hn hg).imp fun s ⟨ds', h, e2⟩ => ?_
  have := d.one h
  subst this
  rw [e2]
  refine ⟨rfl, _, rfl, ?_⟩
  refine (ev_var 2 rfl).dv ?_
  obtain ⟨z, e3, e4⟩ := at_nat (xs := ds'.map oD) (i := (v : Int)) (by omega) (by rw [List.length_map, d.len]; omega)
  rw [Int.toNat_natCast, List.getElem?_map, e] at e4
  cases e4
  refine ⟨.d (oD x), ?_, .inl ⟨_, rfl, rfl⟩⟩
  show (L2.atI (ds'.map oD) (v : Int)).bind ok1 = _
  rw [e3]
  rfl
theorem next_hops {v : Nat} (hv : v < n) : OKF (f_next_hops [.d (graphD n as), .d (wsD ws), .d (.int v), .d (.int g)]) fun s => s = .d (pathD (hd (tightArcs as ws ds) v)) := by
  have hl := o.len
  have hz : n * n ≤ 8 * 8 := Nat.mul_le_mul hn hn
  rw [okF]
  unfold f_next_hops
  refine ok_runF rfl ?_
  show OK (b_next_hops [some (.d (graphD n as)), some (.d (wsD ws)), some (.d (.int v)), some (.d (.int g))]) _
  unfold b_next_hops
  rw [ok_seq, ok_drop]
  refine (ev_call (ea_cons (ev_var 0 rfl) (ea_cons (ev_var 1 rfl) (ea_cons (ev_tup (ea_cons (ev_var 2 rfl) (ea_cons (ev_var 3 rfl) ea_nil))) ea_nil))) (check_weighted (vs := [v, g]) hw (by omega) fun u hu => ?_)).raw.imp fun s ρ1 ⟨_, e1⟩ => ?_
  · simp only [List.mem_cons, List.not_mem_nil, or_false] at hu
    rcases hu with rfl | rfl
    · exact hv
    · exact hg
  rw [e1, fl_nx, ok_ret, ok_cb]
  have ev : Ev (mOp gDget (mCall f_nearest_heads (aCons (mVar 0) (aCons (mVar 1) (aCons (mVar 3) aNil)))) (mVar 2)) [some (.d (graphD n as)), some (.d (wsD ws)), some (.d (.int v)), some (.d (.int g))] (natsD (hd (tightArcs as ws ds) v)) := by
    refine ev_dget (i := v) (ev_call (ea_cons (ev_var 0 rfl) (ea_cons (ev_var 1 rfl) (ea_cons (ev_var 3 rfl) ea_nil))) (nearest_heads o hw hn hg fun ds' h => d.one h)) (ev_var 2 rfl) rfl ?_ ?_
    · have := keyAt_ints (n := n) (i := v) (lo := 0) hv
      rw [Nat.zero_add] at this
      exact this
    · rw [List.getElem?_map, intsFrom_get n 0 v hv]
      show some (natsD (hd _ ((0 : Int) + (v : Int)).toNat)) = _
      rw [Int.zero_add, Int.toNat_natCast]
  refine (ea_cons ev ea_nil).ok ⟨.d (pathD (hd (tightArcs as ws ds) v)), rfl, .inl ⟨_, rfl, rfl⟩⟩
end
end Lib
end Fx

/-! the denotations of routeweb_k04_whole_cuts_of_distances -/
namespace Fx.K04
open PySem PySem.Spec PyProof.Rows L2
open C8 (Cal Mak pe_c pe_mk)
open LamX (Tabs TabS TabB ExtN CodeO codeO_ne)

def topS (i : Nat) : Stmt := PySem.Challenge.pw_routeweb_k04_whole_cuts_of_distances.main.body.getD i (.Pass ⟨0, 0, 0, 0⟩)
abbrev s_is_number : Stmt := topS 7
abbrev n_is_number : List Str := ["value", "low", "high"]
def b_is_number : M Fl := (mRet (mAndV (mCB gIsi (aCons (mVar 0) (aCons (mC (.ty "int")) aNil))) (mAndV (mNotV (mCB gIsi (aCons (mVar 0) (aCons (mC (.ty "bool")) aNil)))) (mChain gLe gLe (mVar 1) (mVar 0) (mVar 2)))))
def f_is_number : Fn := runF 3 3 b_is_number
abbrev s_is_tuple : Stmt := topS 8
abbrev n_is_tuple : List Str := ["value", "least", "most"]
def b_is_tuple : M Fl := (mRet (mAndV (mCB gIsi (aCons (mVar 0) (aCons (mC (.ty "tuple")) aNil))) (mChain gLe gLe (mVar 1) (mCB gLen (aCons (mVar 0) aNil)) (mVar 2))))
def f_is_tuple : Fn := runF 3 3 b_is_tuple
abbrev s_are_numbers : Stmt := topS 9
abbrev n_are_numbers : List Str := ["value", "low", "high", "item"]
def b_are_numbers : M Fl := (mRet (mAndV (mCB gIsi (aCons (mVar 0) (aCons (mC (.ty "tuple")) aNil))) (mCB gAll (aCons (mLc (iSeq (mVar 0)) (gmName 3) mYes (mCall f_is_number (aCons (mVar 3) (aCons (mVar 1) (aCons (mVar 2) aNil)))) [3]) aNil))))
def f_are_numbers : Fn := runF 3 4 b_are_numbers
abbrev s_is_arc : Stmt := topS 15
abbrev n_is_arc : List Str := ["size", "value"]
def b_is_arc : M Fl := (mRet (mAndV (mCall f_are_numbers (aCons (mVar 1) (aCons (mC (.int 0)) (aCons (mOp gMinus (mVar 0) (mC (.int 1))) aNil)))) (mAndV (mOp gEq (mCB gLen (aCons (mVar 1) aNil)) (mC (.int 2))) (mOp gNe (mOp gIx (mVar 1) (mC (.int 0))) (mOp gIx (mVar 1) (mC (.int 1)))))))
def f_is_arc : Fn := runF 2 2 b_is_arc
abbrev s_check_graph : Stmt := topS 16
abbrev n_check_graph : List Str := ["graph"]
def b_check_graph : M Fl := (mIfS (mNot (mTest (mIsC "Graph" (mVar 0)))) mSt mNx)
def f_check_graph : Fn := runF 1 1 b_check_graph
abbrev s_check_node : Stmt := topS 17
abbrev n_check_node : List Str := ["graph", "node"]
def b_check_node : M Fl := (mIfS (mNot (mTest (mCall f_is_number (aCons (mVar 1) (aCons (mC (.int 0)) (aCons (mOp gMinus (mCB gLen (aCons (mFldE "Graph" 0 (mVar 0)) aNil)) (mC (.int 1))) aNil)))))) mSt mNx)
def f_check_node : Fn := runF 2 2 b_check_node
abbrev s_check_weights : Stmt := topS 18
abbrev n_check_weights : List Str := ["graph", "weights", "index", "weight"]
def b_check_weights : M Fl := (mSeq (mIfS (mNot (mTest (mCall f_is_tuple (aCons (mVar 1) (aCons (mCB gLen (aCons (mFldE "Graph" 1 (mVar 0)) aNil)) (aCons (mCB gLen (aCons (mFldE "Graph" 1 (mVar 0)) aNil)) aNil)))))) mSt mNx)
    (mFor (iEnu (aCons (mVar 1) aNil)) (gmTup 2 (gmCons (gmName 2) (gmCons (gmName 3) gmNil))) (mIfS (mNot (mTest (mCall f_is_number (aCons (mVar 3) (aCons (mC (.int 1)) (aCons (mC (.int 100)) aNil)))))) mSt mNx)))
def f_check_weights : Fn := runF 2 4 b_check_weights
abbrev s_check_weighted : Stmt := topS 19
abbrev n_check_weighted : List Str := ["graph", "weights", "nodes", "node"]
def b_check_weighted : M Fl := (mSeq (mDrop (mCall f_check_graph (aCons (mVar 0) aNil)))
    (mSeq (mDrop (mCall f_check_weights (aCons (mVar 0) (aCons (mVar 1) aNil))))
    (mFor (iSeq (mVar 2)) (gmName 3) (mDrop (mCall f_check_node (aCons (mVar 0) (aCons (mVar 3) aNil)))))))
def f_check_weighted : Fn := runF 3 4 b_check_weighted
abbrev s_distances_to : Stmt := topS 20
abbrev n_distances_to : List Str := ["graph", "weights", "goal", "away", "changed", "tail", "head", "weight"]
def b_distances_to : M Fl := (mSeq (mAsgO 3 (mOp gMul (mLst (aCons (mC .non) aNil)) (mCB gLen (aCons (mFldE "Graph" 0 (mVar 0)) aNil))))
    (mSeq (mAsg (mC (.int 0)) (gmItem 3 (mVar 2)))
    (mSeq (mAsg (mC (.bl true)) (gmName 4))
    (mSeq (mWhile (mTruth (mVar 4)) (mSeq (mAsg (mC (.bl false)) (gmName 4))
    (mFor (iZip' (aCons (mFldE "Graph" 1 (mVar 0)) (aCons (mVar 1) aNil))) (gmTup 2 (gmCons (gmTup 2 (gmCons (gmName 5) (gmCons (gmName 6) gmNil))) (gmCons (gmName 7) gmNil))) (mIfS (mAnd (mTest (mOp gNotN (mIxO 3 (mVar 6)) (mC .non))) (mOr (mTest (mOp gIsN (mIxO 3 (mVar 5)) (mC .non))) (mTest (mOp gLt (mOp gAdd (mIxO 3 (mVar 6)) (mVar 7)) (mIxO 3 (mVar 5)))))) (mSeq (mAsg (mOp gAdd (mIxO 3 (mVar 6)) (mVar 7)) (gmItem 3 (mVar 5)))
    (mAsg (mC (.bl true)) (gmName 4))) mNx))) 10000)
    (mRetO 3)))))
def f_distances_to : Fn := runF 3 8 b_distances_to
abbrev s_nearest_heads : Stmt := topS 21
abbrev n_nearest_heads : List Str := ["graph", "weights", "goal", "away", "heads", "node", "tail", "head", "weight"]
def b_nearest_heads : M Fl := (mSeq (mAsg (mCall f_distances_to (aCons (mVar 0) (aCons (mVar 1) (aCons (mVar 2) aNil)))) (gmName 3))
    (mSeq (mSetDcQ 4 (iSeq (mFldE "Graph" 0 (mVar 0))) (gmName 5) mYes (mVar 5) (mLst aNil) [5])
    (mSeq (mFor (iZip' (aCons (mFldE "Graph" 1 (mVar 0)) (aCons (mVar 1) aNil))) (gmTup 2 (gmCons (gmTup 2 (gmCons (gmName 6) (gmCons (gmName 7) gmNil))) (gmCons (gmName 8) gmNil))) (mIfS (mAnd (mTest (mOp gNotN (mOp gIx (mVar 3) (mVar 7)) (mC .non))) (mTest (mOp gEq (mOp gAdd (mOp gIx (mVar 3) (mVar 7)) (mVar 8)) (mOp gIx (mVar 3) (mVar 6))))) (mDrop (mMethQ1 4 (mVar 6) gApp 7)) mNx))
    (mRet (mVarQ 4)))))
def f_nearest_heads : Fn := runF 3 9 b_nearest_heads
abbrev s_distance : Stmt := topS 22
abbrev n_distance : List Str := ["graph", "weights", "node", "goal"]
def b_distance : M Fl := (mSeq (mDrop (mCall f_check_weighted (aCons (mVar 0) (aCons (mVar 1) (aCons (mTup (aCons (mVar 2) (aCons (mVar 3) aNil))) aNil)))))
    (mRet (mOp gIx (mCall f_distances_to (aCons (mVar 0) (aCons (mVar 1) (aCons (mVar 3) aNil)))) (mVar 2))))
def f_distance : Fn := runF 4 4 b_distance
abbrev s_next_hops : Stmt := topS 23
abbrev n_next_hops : List Str := ["graph", "weights", "node", "goal"]
def b_next_hops : M Fl := (mSeq (mDrop (mCall f_check_weighted (aCons (mVar 0) (aCons (mVar 1) (aCons (mTup (aCons (mVar 2) (aCons (mVar 3) aNil))) aNil)))))
    (mRet (mCB gTuple (aCons (mOp gDget (mCall f_nearest_heads (aCons (mVar 0) (aCons (mVar 1) (aCons (mVar 3) aNil)))) (mVar 2)) aNil))))
def f_next_hops : Fn := runF 4 4 b_next_hops
abbrev s_law_taken : Stmt := topS 25
abbrev n_law_taken : List Str := ["row", "many", "found", "cell"]
def b_law_taken : M Fl := (mSeq (mIfS (mTest (mOp gGt (mIxO 0 (mC (.int 3))) (mC (.int 0)))) (mSeq (mAsg (mOp gMod (mCB gInt1 (aCons (mIxO 0 (mC (.int 3))) aNil)) (mVar 1)) (gmName 2))
    (mSeq (mAsg (mOp gDiv (mIxO 0 (mC (.int 3))) (mVar 1)) (gmItem 0 (mC (.int 3))))
    (mRet (mVar 2)))) mNx)
    (mSeq (mAsg (mOp gAdd (mIxO 0 (mC (.int 1))) (mC (.int 1))) (gmItem 0 (mC (.int 1))))
    (mSeq (mIfS (mTest (mOp gGt (mIxO 0 (mC (.int 1))) (mCB gLen (aCons (mIxO 0 (mC (.int 0))) aNil)))) (mSeq (mAsg (mOp gMod (mCB gInt1 (aCons (mOp gAdd (mOp gMul (mIxO 0 (mC (.int 2))) (mC (.int 48271))) (mC (.int 11))) aNil)) (mC (.int 2147483647))) (gmItem 0 (mC (.int 2))))
    (mRet (mOp gMod (mCB gInt1 (aCons (mOp gDiv (mIxO 0 (mC (.int 2))) (mC (.int 7))) aNil)) (mVar 1)))) mNx)
    (mSeq (mAsg (mOp gIx (mIxO 0 (mC (.int 0))) (mOp gMinus (mIxO 0 (mC (.int 1))) (mC (.int 1)))) (gmName 3))
    (mSeq (mAsg (mOp gMod (mCB gInt1 (aCons (mOp gAdd (mOp gAdd (mOp gMul (mIxO 0 (mC (.int 2))) (mC (.int 48271))) (mVar 3)) (mC (.int 11))) aNil)) (mC (.int 2147483647))) (gmItem 0 (mC (.int 2))))
    (mSeq (mIfS (mTest (mOp gGe (mVar 3) (mOp gPow (mC (.int 10)) (mC (.int 18))))) (mAsg (mOp gDiv (mVar 3) (mVar 1)) (gmItem 0 (mC (.int 3)))) mNx)
    (mRet (mOp gMod (mCB gInt1 (aCons (mVar 3) aNil)) (mVar 1)))))))))
def f_law_taken : Fn := runF 2 4 b_law_taken
abbrev s_law_pick : Stmt := topS 26
abbrev n_law_pick : List Str := ["row", "things"]
def b_law_pick : M Fl := (mRet (mOp gIx (mVar 1) (mCallO f_law_taken 0 0 (aOwn 0 (aCons (mCB gLen (aCons (mVar 1) aNil)) aNil)))))
def f_law_pick : Fn := runF 2 2 b_law_pick
abbrev s_law_alike : Stmt := topS 27
abbrev n_law_alike : List Str := ["found", "due", "k"]
def b_law_alike (r : Fn) : M Fl := (mSeq (mIfS (mTest (mIsi2 "tuple" "list" (mVar 1))) (mSeq (mIfS (mOr (mNot (mTest (mIsi2 "tuple" "list" (mVar 0)))) (mTest (mOp gNe (mCB gIsi (aCons (mVar 0) (aCons (mC (.ty "list")) aNil))) (mCB gIsi (aCons (mVar 1) (aCons (mC (.ty "list")) aNil)))))) (mRet (mC (.bl false))) mNx)
    (mSeq (mIfS (mTest (mOp gNe (mCB gLen (aCons (mVar 0) aNil)) (mCB gLen (aCons (mVar 1) aNil)))) (mRet (mC (.bl false))) mNx)
    (mRet (mOp gEq (mLc (iRange1 (aCons (mCB gLen (aCons (mVar 1) aNil)) aNil)) (gmName 2) (mNot (mTest (mCall r (aCons (mOp gIx (mVar 0) (mVar 2)) (aCons (mOp gIx (mVar 1) (mVar 2)) aNil))))) (mVar 2) [2]) (mLst aNil))))) mNx)
    (mSeq (mIfS (mOr (mTest (mOp gIsN (mVar 1) (mC .non))) (mTest (mCB gIsi (aCons (mVar 1) (aCons (mC (.ty "str")) aNil))))) (mRet (mAndV (mOp gEq (mVar 0) (mVar 1)) (mOp gEq (mCB gIsi (aCons (mVar 0) (aCons (mC (.ty "str")) aNil))) (mCB gIsi (aCons (mVar 1) (aCons (mC (.ty "str")) aNil)))))) mNx)
    (mRet (mAndV (mCB gIsi (aCons (mVar 0) (aCons (mC (.ty "int")) aNil))) (mAndV (mOp gEq (mCB gIsi (aCons (mVar 0) (aCons (mC (.ty "bool")) aNil))) (mCB gIsi (aCons (mVar 1) (aCons (mC (.ty "bool")) aNil)))) (mOp gEq (mVar 0) (mVar 1)))))))
def f_law_alike : Nat → Fn
  | 0 => runF 2 3 mSt
  | n + 1 => runF 2 3 (b_law_alike (f_law_alike n))
abbrev s_law_arcs : Stmt := topS 28
abbrev n_law_arcs : List Str := ["row", "size", "dense", "found", "tail", "head"]
def b_law_arcs : M Fl := (mSeq (mAsgO 3 (mLst aNil))
    (mSeq (mFor (iRange1 (aCons (mVar 1) aNil)) (gmName 4) (mFor (iRange1 (aCons (mVar 1) aNil)) (gmName 5) (mIfS (mAnd (mTest (mOp gNe (mVar 4) (mVar 5))) (mTest (mOp gEq (mCallO f_law_taken 0 0 (aOwn 0 (aCons (mVar 2) aNil))) (mC (.int 0))))) (mDrop (mMeth1 3 gApp (mTup (aCons (mVar 4) (aCons (mVar 5) aNil))))) mNx)))
    (mRet (mCB gTuple (aCons (mVar 3) aNil)))))
def f_law_arcs : Fn := runF 3 6 b_law_arcs
abbrev s_law_graph : Stmt := topS 29
abbrev n_law_graph : List Str := ["row", "most", "size", "arcs", "top", "arc"]
def b_law_graph : M Fl := (mSeq (mAsg (mOp gAdd (mC (.int 2)) (mCallO f_law_taken 0 0 (aOwn 0 (aCons (mOp gMinus (mVar 1) (mC (.int 1))) aNil)))) (gmName 2))
    (mSeq (mPar2 3 false 4 false (psCons (mCallO f_law_arcs 0 0 (aOwn 0 (aCons (mVar 2) (aCons (mCallO f_law_pick 0 0 (aOwn 0 (aCons (mLst (aCons (mC (.int 1)) (aCons (mC (.int 2)) (aCons (mC (.int 2)) (aCons (mC (.int 3)) aNil))))) aNil))) aNil)))) (psCons (mCallO f_law_pick 0 0 (aOwn 0 (aCons (mLst (aCons (mC (.int 2)) (aCons (mC (.int 4)) (aCons (mC (.int 100)) aNil)))) aNil))) psNil)))
    (mRet (mTup (aCons (mVar 2) (aCons (mVar 3) (aCons (mCB gTuple (aCons (mLc (iSeq (mVar 3)) (gmName 5) mYes (mOp gAdd (mC (.int 1)) (mCallO f_law_taken 0 0 (aOwn 0 (aCons (mVar 4) aNil)))) [5]) aNil)) aNil)))))))
def f_law_graph : Fn := runF 2 6 b_law_graph
abbrev s_Graph_init : Stmt := inClass (topS 14) 0
abbrev n_Graph_init : List Str := ["self", "size", "arcs", "index", "arc"]
def b_Graph_init : M Fl := (mSeq (mIfS (mOr (mNot (mTest (mCall f_is_number (aCons (mVar 1) (aCons (mC (.int 1)) (aCons (mC (.int 8)) aNil)))))) (mNot (mTest (mCall f_is_tuple (aCons (mVar 2) (aCons (mC (.int 0)) (aCons (mC (.int 64)) aNil))))))) mSt mNx)
    (mSeq (mFor (iEnu (aCons (mVar 2) aNil)) (gmTup 2 (gmCons (gmName 3) (gmCons (gmName 4) gmNil))) (mIfS (mOr (mNot (mTest (mCall f_is_arc (aCons (mVar 1) (aCons (mVar 4) aNil))))) (mTest (mOp gIn (mVar 4) (mSl (mVar 2) oNone (oSome (mVar 3)))))) mSt mNx))
    (mSeq (mSetF "Graph" 0 0 (mTupRg (mVar 1)))
    (mSetF "Graph" 1 0 (mCB gTuple (aCons (mCB gSortA (aCons (mVar 2) aNil)) aNil))))))
def f_Graph_init : Fn := runF 3 5 b_Graph_init
abbrev s_law : Stmt := topS 30
abbrev n_law : List Str := ["script", "row", "size", "arcs", "weights", "graph", "goal", "far", "node", "at", "tail", "head", "tight", "more", "later"]
def b_law : M Fl := (mSeq (mAsgO 1 (mLst (aCons (mVar 0) (aCons (mC (.int 0)) (aCons (mC (.int 3504)) (aCons (mC (.int 0)) aNil))))))
    (mSeq (mAsg (mCallO f_law_graph 1 0 (aOwn 1 (aCons (mC (.int 8)) aNil))) (gmTup 3 (gmCons (gmName 2) (gmCons (gmName 3) (gmCons (gmName 4) gmNil)))))
    (mSeq (mPar2 5 false 6 false (psCons (mMake "Graph" 2 f_Graph_init (aCons (mVar 2) (aCons (mVar 3) aNil))) (psCons (mCallO f_law_taken 1 0 (aOwn 1 (aCons (mVar 2) aNil))) psNil)))
    (mSeq (mAsg (mLc (iRange1 (aCons (mVar 2) aNil)) (gmName 8) mYes (mCall f_distance (aCons (mVar 5) (aCons (mVar 4) (aCons (mVar 8) (aCons (mVar 6) aNil))))) [8]) (gmName 7))
    (mSeq (mIfS (mTest (mOp gNe (mOp gIx (mVar 7) (mVar 6)) (mC (.int 0)))) (mRet (mC (.bl false))) mNx)
    (mSeq (mFor (iRange1 (aCons (mCB gLen (aCons (mVar 3) aNil)) aNil)) (gmName 9) (mSeq (mAsg (mOp gIx (mVar 3) (mVar 9)) (gmTup 2 (gmCons (gmName 10) (gmCons (gmName 11) gmNil))))
    (mIfS (mAnd (mTest (mOp gNotN (mOp gIx (mVar 7) (mVar 11)) (mC .non))) (mOr (mTest (mOp gIsN (mOp gIx (mVar 7) (mVar 10)) (mC .non))) (mTest (mOp gGt (mOp gIx (mVar 7) (mVar 10)) (mOp gAdd (mOp gIx (mVar 7) (mVar 11)) (mOp gIx (mVar 4) (mVar 9))))))) (mRet (mC (.bl false))) mNx)))
    (mSeq (mFor (iRange1 (aCons (mVar 2) aNil)) (gmName 8) (mSeq (mAsg (mLc (iRange1 (aCons (mCB gLen (aCons (mVar 3) aNil)) aNil)) (gmName 9) (mAnd (mTest (mOp gEq (mOp gIx (mOp gIx (mVar 3) (mVar 9)) (mC (.int 0))) (mVar 8))) (mAnd (mTest (mOp gNotN (mOp gIx (mVar 7) (mOp gIx (mOp gIx (mVar 3) (mVar 9)) (mC (.int 1)))) (mC .non))) (mTest (mOp gEq (mOp gIx (mVar 7) (mVar 8)) (mOp gAdd (mOp gIx (mVar 7) (mOp gIx (mOp gIx (mVar 3) (mVar 9)) (mC (.int 1)))) (mOp gIx (mVar 4) (mVar 9))))))) (mOp gIx (mOp gIx (mVar 3) (mVar 9)) (mC (.int 1))) [9]) (gmName 12))
    (mSeq (mIfS (mAnd (mTest (mOp gNe (mVar 8) (mVar 6))) (mAnd (mTest (mOp gNotN (mOp gIx (mVar 7) (mVar 8)) (mC .non))) (mTest (mOp gEq (mVar 12) (mLst aNil))))) (mRet (mC (.bl false))) mNx)
    (mIfS (mNot (mTest (mCall (f_law_alike 6) (aCons (mCall f_next_hops (aCons (mVar 5) (aCons (mVar 4) (aCons (mVar 8) (aCons (mVar 6) aNil))))) (aCons (mIf (mTest (mOp gNe (mVar 8) (mVar 6))) (mCB gTuple (aCons (mVar 12) aNil)) (mTup aNil)) aNil))))) (mRet (mC (.bl false))) mNx))))
    (mSeq (mIfS (mTest (mOp gNe (mVar 3) (mTup aNil))) (mSeq (mAsg (mCallO f_law_taken 1 0 (aOwn 1 (aCons (mCB gLen (aCons (mVar 3) aNil)) aNil))) (gmName 9))
    (mSeq (mAsg (mOp gAdd (mOp gAdd (mSl (mVar 4) oNone (oSome (mVar 9))) (mTup (aCons (mCB gMin2 (aCons (mC (.int 100)) (aCons (mOp gAdd (mOp gAdd (mOp gIx (mVar 4) (mVar 9)) (mC (.int 1))) (mCallO f_law_taken 1 0 (aOwn 1 (aCons (mC (.int 9)) aNil)))) aNil))) aNil))) (mSl (mVar 4) (oSome (mOp gAdd (mVar 9) (mC (.int 1)))) oNone)) (gmName 13))
    (mFor (iRange1 (aCons (mVar 2) aNil)) (gmName 8) (mSeq (mAsg (mCall f_distance (aCons (mVar 5) (aCons (mVar 13) (aCons (mVar 8) (aCons (mVar 6) aNil))))) (gmName 14))
    (mIfS (mOr (mTest (mOp gNe (mOp gIsN (mVar 14) (mC .non)) (mOp gIsN (mOp gIx (mVar 7) (mVar 8)) (mC .non)))) (mAnd (mTest (mOp gNotN (mVar 14) (mC .non))) (mTest (mOp gLt (mVar 14) (mOp gIx (mVar 7) (mVar 8)))))) (mRet (mC (.bl false))) mNx))))) mNx)
    (mRet (mC (.bl true)))))))))))
def f_law : Fn := runF 1 15 b_law
end Fx.K04

/-! the defs of routeweb_k04_whole_cuts_of_distances keep their denotations -/
namespace Fx.K04
open PySem PySem.Spec PyProof.Rows L2
open C8 (Cal Mak pe_c pe_mk)
open LamX (Tabs TabS TabB ExtN CodeO codeO_ne)

theorem sc_is_number : FnScope n_is_number ["value", "low", "high"] (defScope s_is_number) := ⟨rfl, rfl, rfl, by decide +kernel, rfl, by decide +kernel, by decide +kernel⟩
theorem sc_is_tuple : FnScope n_is_tuple ["value", "least", "most"] (defScope s_is_tuple) := ⟨rfl, rfl, rfl, by decide +kernel, rfl, by decide +kernel, by decide +kernel⟩
theorem sc_are_numbers : FnScope n_are_numbers ["value", "low", "high"] (defScope s_are_numbers) := ⟨rfl, rfl, rfl, by decide +kernel, rfl, by decide +kernel, by decide +kernel⟩
theorem sc_is_arc : FnScope n_is_arc ["size", "value"] (defScope s_is_arc) := ⟨rfl, rfl, rfl, by decide +kernel, rfl, by decide +kernel, by decide +kernel⟩
theorem sc_check_graph : FnScope n_check_graph ["graph"] (defScope s_check_graph) := ⟨rfl, rfl, rfl, by decide +kernel, rfl, by decide +kernel, by decide +kernel⟩
theorem sc_check_node : FnScope n_check_node ["graph", "node"] (defScope s_check_node) := ⟨rfl, rfl, rfl, by decide +kernel, rfl, by decide +kernel, by decide +kernel⟩
theorem sc_check_weights : FnScope n_check_weights ["graph", "weights"] (defScope s_check_weights) := ⟨rfl, rfl, rfl, by decide +kernel, rfl, by decide +kernel, by decide +kernel⟩
theorem sc_check_weighted : FnScope n_check_weighted ["graph", "weights", "nodes"] (defScope s_check_weighted) := ⟨rfl, rfl, rfl, by decide +kernel, rfl, by decide +kernel, by decide +kernel⟩
theorem sc_distances_to : FnScope n_distances_to ["graph", "weights", "goal"] (defScope s_distances_to) := ⟨rfl, rfl, rfl, by decide +kernel, rfl, by decide +kernel, by decide +kernel⟩
theorem sc_nearest_heads : FnScope n_nearest_heads ["graph", "weights", "goal"] (defScope s_nearest_heads) := ⟨rfl, rfl, rfl, by decide +kernel, rfl, by decide +kernel, by decide +kernel⟩
theorem sc_distance : FnScope n_distance ["graph", "weights", "node", "goal"] (defScope s_distance) := ⟨rfl, rfl, rfl, by decide +kernel, rfl, by decide +kernel, by decide +kernel⟩
theorem sc_next_hops : FnScope n_next_hops ["graph", "weights", "node", "goal"] (defScope s_next_hops) := ⟨rfl, rfl, rfl, by decide +kernel, rfl, by decide +kernel, by decide +kernel⟩
theorem sc_law_taken : FnScope n_law_taken ["row", "many"] (defScope s_law_taken) := ⟨rfl, rfl, rfl, by decide +kernel, rfl, by decide +kernel, by decide +kernel⟩
theorem sc_law_pick : FnScope n_law_pick ["row", "things"] (defScope s_law_pick) := ⟨rfl, rfl, rfl, by decide +kernel, rfl, by decide +kernel, by decide +kernel⟩
theorem sc_law_alike : FnScope n_law_alike ["found", "due"] (defScope s_law_alike) := ⟨rfl, rfl, rfl, by decide +kernel, rfl, by decide +kernel, by decide +kernel⟩
theorem sc_law_arcs : FnScope n_law_arcs ["row", "size", "dense"] (defScope s_law_arcs) := ⟨rfl, rfl, rfl, by decide +kernel, rfl, by decide +kernel, by decide +kernel⟩
theorem sc_law_graph : FnScope n_law_graph ["row", "most"] (defScope s_law_graph) := ⟨rfl, rfl, rfl, by decide +kernel, rfl, by decide +kernel, by decide +kernel⟩
theorem sc_Graph_init : FnScope n_Graph_init ["self", "size", "arcs"] (defScope s_Graph_init) := ⟨rfl, rfl, rfl, by decide +kernel, rfl, by decide +kernel, by decide +kernel⟩
theorem sc_law : FnScope n_law ["script"] (defScope s_law) := ⟨rfl, rfl, rfl, by decide +kernel, rfl, by decide +kernel, by decide +kernel⟩
/-- what the text tells -/
structure Tx (P : Program) (w : World) (c : Cfg) (mg : Str → Option Value) (base : Heap) : Prop where
  b_all : mg "all" = none
  b_bool : mg "bool" = none
  b_enumerate : mg "enumerate" = none
  b_int : mg "int" = none
  b_isinstance : mg "isinstance" = none
  b_len : mg "len" = none
  b_list : mg "list" = none
  b_min : mg "min" = none
  b_range : mg "range" = none
  b_sorted : mg "sorted" = none
  b_str : mg "str" = none
  b_tuple : mg "tuple" = none
  b_zip : mg "zip" = none
  c_MOST_ARCS : ∃ t, mg "MOST_ARCS" = some (Value.int 64 t)
  c_MOST_NODES : ∃ t, mg "MOST_NODES" = some (Value.int 8 t)
  c_MOST_WEIGHT : ∃ t, mg "MOST_WEIGHT" = some (Value.int 100 t)
  f_Graph_nodes : FldOk c "Graph" "_nodes" 0
  f_Graph_arcs : FldOk c "Graph" "_arcs" 1
  l_Graph : (c.flds "Graph").length ≤ 100
  n_Graph : (c.flds "Graph").length = 2
  i_Graph : ClsOk c "Graph"
  g_Graph : mg "Graph" = some (.ref (c.cls "Graph"))
  p_Graph_nodes : Prp P w c mg base 1 "Graph" "nodes" "_nodes" 0
  p_Graph_arcs : Prp P w c mg base 1 "Graph" "arcs" "_arcs" 1
section
variable {P : Program} {w : World} {c : Cfg} {mg : Str → Option Value} {base : Heap}
theorem ok_is_number {f : Addr} {fd : FuncData} (T : Tx P w c mg base) (F : Fun c.K "is_number" "is_number" s_is_number f fd)  : FnOk P w c.K mg base L2.CX0 1 f fd ["value", "low", "high"] (spF c f_is_number) := by
  exact fn_den (k := 0) (N := n_is_number) (ps := ["value", "low", "high"]) (body := b_is_number) F sc_is_number fun cdv A outer s H E hr => QSs.out (by exact (ss_one (s_ret (q_and (q_blt b_isi T.b_isinstance (a_cons (qv 0) (a_cons (qty T.b_int) a_nil))) (q_and (q_not (q_blt b_isi T.b_isinstance (a_cons (qv 0) (a_cons (qty T.b_bool) a_nil)))) (q_one (q_chain (r_le) (r_le) (qv 1) (qv 0) (qv 2))))))))
theorem ok_is_tuple {f : Addr} {fd : FuncData} (T : Tx P w c mg base) (F : Fun c.K "is_tuple" "is_tuple" s_is_tuple f fd)  : FnOk P w c.K mg base L2.CX0 1 f fd ["value", "least", "most"] (spF c f_is_tuple) := by
  exact fn_den (k := 0) (N := n_is_tuple) (ps := ["value", "least", "most"]) (body := b_is_tuple) F sc_is_tuple fun cdv A outer s H E hr => QSs.out (by exact (ss_one (s_ret (q_and (q_blt b_isi T.b_isinstance (a_cons (qv 0) (a_cons (qty T.b_tuple) a_nil))) (q_one (q_chain (r_le) (r_le) (qv 1) (q_blt b_len T.b_len (a_cons (qv 0) a_nil)) (qv 2)))))))
theorem ok_are_numbers {f : Addr} {fd : FuncData} (T : Tx P w c mg base) (F : Fun c.K "are_numbers" "are_numbers" s_are_numbers f fd) (C_is_number : Cal P w c.K mg base 1 "is_number" (spF c f_is_number) []) : FnOk P w c.K mg base L2.CX0 2 f fd ["value", "low", "high"] (spF c f_are_numbers) := by
  exact fn_den (k := 1) (N := n_are_numbers) (ps := ["value", "low", "high"]) (body := b_are_numbers) F sc_are_numbers fun cdv A outer s H E hr => QSs.out (by exact (ss_one (s_ret (q_and (q_blt b_isi T.b_isinstance (a_cons (qv 0) (a_cons (qty T.b_tuple) a_nil))) (q_one (q_blt b_all T.b_all (a_cons (q_lc (own := [("item", 3)]) sc_are_numbers.nd (i_seq (qv 0)) (blkOk_by (own := [("item", 3)]) (N := n_are_numbers) (sc := defScope s_are_numbers) (by decide +kernel)) (fun _ _ _ _ _ => (by exact (g_name 3 sc_are_numbers.nd))) (fun _ _ _ _ _ => (by exact ts_nil)) (fun _ _ _ _ _ => (by exact (q_call C_is_number hr (by omega) (a_cons (qv 3) (a_cons (qv 1) (a_cons (qv 2) a_nil))))))) a_nil)))))))
theorem ok_is_arc {f : Addr} {fd : FuncData} (T : Tx P w c mg base) (F : Fun c.K "_is_arc" "_is_arc" s_is_arc f fd) (C_are_numbers : Cal P w c.K mg base 2 "are_numbers" (spF c f_are_numbers) []) : FnOk P w c.K mg base L2.CX0 3 f fd ["size", "value"] (spF c f_is_arc) := by
  exact fn_den (k := 2) (N := n_is_arc) (ps := ["size", "value"]) (body := b_is_arc) F sc_is_arc fun cdv A outer s H E hr => QSs.out (by exact (ss_one (s_ret (q_and (q_call C_are_numbers hr (by omega) (a_cons (qv 1) (a_cons (qint) (a_cons (q_sub (qv 0) (qint)) a_nil)))) (q_and (q_cmp (r_eq hr) (q_blt b_len T.b_len (a_cons (qv 1) a_nil)) (qint)) (q_one (q_cmp (r_ne hr) (q_ix (qv 1) (qint)) (q_ix (qv 1) (qint)))))))))
theorem ok_check_graph {f : Addr} {fd : FuncData} (T : Tx P w c mg base) (F : Fun c.K "check_graph" "check_graph" s_check_graph f fd)  : FnOk P w c.K mg base L2.CX0 1 f fd ["graph"] (spF c f_check_graph) := by
  exact fn_den (k := 0) (N := n_check_graph) (ps := ["graph"]) (body := b_check_graph) F sc_check_graph fun cdv A outer s H E hr => QSs.out (by exact (ss_one (s_if (t_not (t_val (q_isC "Graph" T.i_Graph T.g_Graph T.b_isinstance (qv 0)))) ss_never ss_nil)))
theorem ok_check_node {f : Addr} {fd : FuncData} (T : Tx P w c mg base) (F : Fun c.K "check_node" "check_node" s_check_node f fd) (C_is_number : Cal P w c.K mg base 1 "is_number" (spF c f_is_number) []) : FnOk P w c.K mg base L2.CX0 3 f fd ["graph", "node"] (spF c f_check_node) := by
  exact fn_den (k := 2) (N := n_check_node) (ps := ["graph", "node"]) (body := b_check_node) F sc_check_node fun cdv A outer s H E hr => QSs.out (by exact (ss_one (s_if (t_not (t_val (q_call C_is_number hr (by omega) (a_cons (qv 1) (a_cons (qint) (a_cons (q_sub (q_blt b_len T.b_len (a_cons (q_pr T.p_Graph_nodes hr (by omega) (qv 0)) a_nil)) (qint)) a_nil)))))) ss_never ss_nil)))
theorem ok_check_weights {f : Addr} {fd : FuncData} (T : Tx P w c mg base) (F : Fun c.K "check_weights" "check_weights" s_check_weights f fd) (C_is_number : Cal P w c.K mg base 1 "is_number" (spF c f_is_number) []) (C_is_tuple : Cal P w c.K mg base 1 "is_tuple" (spF c f_is_tuple) []) : FnOk P w c.K mg base L2.CX0 3 f fd ["graph", "weights"] (spF c f_check_weights) := by
  exact fn_den (k := 2) (N := n_check_weights) (ps := ["graph", "weights"]) (body := b_check_weights) F sc_check_weights fun cdv A outer s H E hr => QSs.out (by exact (ss_cons (s_if (t_not (t_val (q_call C_is_tuple hr (by omega) (a_cons (qv 1) (a_cons (q_blt b_len T.b_len (a_cons (q_pr T.p_Graph_arcs hr (by omega) (qv 0)) a_nil)) (a_cons (q_blt b_len T.b_len (a_cons (q_pr T.p_Graph_arcs hr (by omega) (qv 0)) a_nil)) a_nil)))))) ss_never ss_nil)
      (ss_one (s_for PassesOwn.never (i_enum T.b_enumerate (a_cons (qv 1) a_nil)) (g_tup 2 (gs_cons (g_name 2 sc_check_weights.nd) (gs_cons (g_name 3 sc_check_weights.nd) gs_nil))) (ss_one (s_if (t_not (t_val (q_call C_is_number hr (by omega) (a_cons (qv 3) (a_cons (qint) (a_cons (qk T.c_MOST_WEIGHT) a_nil)))))) ss_never ss_nil))))))
theorem ok_check_weighted {f : Addr} {fd : FuncData} (T : Tx P w c mg base) (F : Fun c.K "check_weighted" "check_weighted" s_check_weighted f fd) (C_check_graph : Cal P w c.K mg base 1 "check_graph" (spF c f_check_graph) []) (C_check_node : Cal P w c.K mg base 3 "check_node" (spF c f_check_node) []) (C_check_weights : Cal P w c.K mg base 3 "check_weights" (spF c f_check_weights) []) : FnOk P w c.K mg base L2.CX0 4 f fd ["graph", "weights", "nodes"] (spF c f_check_weighted) := by
  exact fn_den (k := 3) (N := n_check_weighted) (ps := ["graph", "weights", "nodes"]) (body := b_check_weighted) F sc_check_weighted fun cdv A outer s H E hr => QSs.out (by exact (ss_cons (s_expr (q_call C_check_graph hr (by omega) (a_cons (qv 0) a_nil)))
      (ss_cons (s_expr (q_call C_check_weights hr (by omega) (a_cons (qv 0) (a_cons (qv 1) a_nil))))
      (ss_one (s_for PassesOwn.never (i_seq (qv 2)) (g_name 3 sc_check_weighted.nd) (ss_one (s_expr (q_call C_check_node hr (by omega) (a_cons (qv 0) (a_cons (qv 3) a_nil))))))))))
theorem ok_distances_to {f : Addr} {fd : FuncData} (T : Tx P w c mg base) (F : Fun c.K "distances_to" "distances_to" s_distances_to f fd)  : FnOk P w c.K mg base L2.CX0 3 f fd ["graph", "weights", "goal"] (spF c f_distances_to) := by
  exact fn_den (k := 2) (N := n_distances_to) (ps := ["graph", "weights", "goal"]) (body := b_distances_to) F sc_distances_to fun cdv A outer s H E hr => QSs.out (by exact (ss_cons (s_setO 3 sc_distances_to.nd (q_mul (q_lst (a_cons (qnon) a_nil)) (q_blt b_len T.b_len (a_cons (q_pr T.p_Graph_nodes hr (by omega) (qv 0)) a_nil))))
      (ss_cons (s_asg (qint) (g_item 3 (qv 2)))
      (ss_cons (s_set 4 sc_distances_to.nd (qbl))
      (ss_cons (s_while 10000 PassesOwn.never (t_tru (qv 4)) (ss_cons (s_set 4 sc_distances_to.nd (qbl))
      (ss_one (s_for PassesOwn.never (i_zip T.b_zip (a_cons (q_pr T.p_Graph_arcs hr (by omega) (qv 0)) (a_cons (qv 1) a_nil))) (g_tup 2 (gs_cons (g_tup 2 (gs_cons (g_name 5 sc_distances_to.nd) (gs_cons (g_name 6 sc_distances_to.nd) gs_nil))) (gs_cons (g_name 7 sc_distances_to.nd) gs_nil))) (ss_one (s_if (QW.t (w_and (t_cmp (r_nis) (q_ixO 3 (qv 6)) (qnon)) (w_and1 (QW.t (w_or (t_cmp (r_is) (q_ixO 3 (qv 5)) (qnon)) (w_or1 (t_cmp (r_lt) (q_add (q_ixO 3 (qv 6)) (qv 7)) (q_ixO 3 (qv 5))))))))) (ss_cons (s_asg (q_add (q_ixO 3 (qv 6)) (qv 7)) (g_item 3 (qv 5)))
      (ss_one (s_set 4 sc_distances_to.nd (qbl)))) ss_nil))))))
      (ss_one (s_retO 3)))))))
theorem ok_nearest_heads {f : Addr} {fd : FuncData} (T : Tx P w c mg base) (F : Fun c.K "nearest_heads" "nearest_heads" s_nearest_heads f fd) (C_distances_to : Cal P w c.K mg base 3 "distances_to" (spF c f_distances_to) []) : FnOk P w c.K mg base L2.CX0 4 f fd ["graph", "weights", "goal"] (spF c f_nearest_heads) := by
  exact fn_den (k := 3) (N := n_nearest_heads) (ps := ["graph", "weights", "goal"]) (body := b_nearest_heads) F sc_nearest_heads fun cdv A outer s H E hr => QSs.out (by exact (ss_cons (s_set 3 sc_nearest_heads.nd (q_call C_distances_to hr (by omega) (a_cons (qv 0) (a_cons (qv 1) (a_cons (qv 2) a_nil)))))
      (ss_cons (s_setDcQ (own := [("node", 5)]) 4 sc_nearest_heads.nd (i_seq (q_pr T.p_Graph_nodes hr (by omega) (qv 0))) (blkOk_by (own := [("node", 5)]) (N := n_nearest_heads) (sc := defScope s_nearest_heads) (by decide +kernel)) (fun _ _ _ _ _ => (by exact (g_name 5 sc_nearest_heads.nd))) (fun _ _ _ _ _ => (by exact ts_nil)) (fun _ _ _ _ _ => (by exact (qv 5))) (fun _ _ _ _ _ => (by exact (q_lst a_nil))) (hw := swD rfl rfl rfl (by decide +kernel)))
      (ss_cons (s_for PassesOwn.never (i_zip T.b_zip (a_cons (q_pr T.p_Graph_arcs hr (by omega) (qv 0)) (a_cons (qv 1) a_nil))) (g_tup 2 (gs_cons (g_tup 2 (gs_cons (g_name 6 sc_nearest_heads.nd) (gs_cons (g_name 7 sc_nearest_heads.nd) gs_nil))) (gs_cons (g_name 8 sc_nearest_heads.nd) gs_nil))) (ss_one (s_if (QW.t (w_and (t_cmp (r_nis) (q_ix (qv 3) (qv 7)) (qnon)) (w_and1 (t_cmp (r_eq hr) (q_add (q_ix (qv 3) (qv 7)) (qv 8)) (q_ix (qv 3) (qv 6)))))) (ss_one (s_expr (q_appendQ 4 7 hr (qv 6)))) ss_nil)))
      (ss_one (s_ret (qvQ 4)))))))
theorem ok_distance {f : Addr} {fd : FuncData} (T : Tx P w c mg base) (F : Fun c.K "distance" "distance" s_distance f fd) (C_check_weighted : Cal P w c.K mg base 4 "check_weighted" (spF c f_check_weighted) []) (C_distances_to : Cal P w c.K mg base 3 "distances_to" (spF c f_distances_to) []) : FnOk P w c.K mg base L2.CX0 5 f fd ["graph", "weights", "node", "goal"] (spF c f_distance) := by
  exact fn_den (k := 4) (N := n_distance) (ps := ["graph", "weights", "node", "goal"]) (body := b_distance) F sc_distance fun cdv A outer s H E hr => QSs.out (by exact (ss_cons (s_expr (q_call C_check_weighted hr (by omega) (a_cons (qv 0) (a_cons (qv 1) (a_cons (q_tup (a_cons (qv 2) (a_cons (qv 3) a_nil))) a_nil)))))
      (ss_one (s_ret (q_ix (q_call C_distances_to hr (by omega) (a_cons (qv 0) (a_cons (qv 1) (a_cons (qv 3) a_nil)))) (qv 2))))))
theorem ok_next_hops {f : Addr} {fd : FuncData} (T : Tx P w c mg base) (F : Fun c.K "next_hops" "next_hops" s_next_hops f fd) (C_check_weighted : Cal P w c.K mg base 4 "check_weighted" (spF c f_check_weighted) []) (C_nearest_heads : Cal P w c.K mg base 4 "nearest_heads" (spF c f_nearest_heads) []) : FnOk P w c.K mg base L2.CX0 5 f fd ["graph", "weights", "node", "goal"] (spF c f_next_hops) := by
  exact fn_den (k := 4) (N := n_next_hops) (ps := ["graph", "weights", "node", "goal"]) (body := b_next_hops) F sc_next_hops fun cdv A outer s H E hr => QSs.out (by exact (ss_cons (s_expr (q_call C_check_weighted hr (by omega) (a_cons (qv 0) (a_cons (qv 1) (a_cons (q_tup (a_cons (qv 2) (a_cons (qv 3) a_nil))) a_nil)))))
      (ss_one (s_ret (q_blt b_tuple T.b_tuple (a_cons (q_dget hr (q_call C_nearest_heads hr (by omega) (a_cons (qv 0) (a_cons (qv 1) (a_cons (qv 3) a_nil)))) (qv 2)) a_nil))))))
theorem ok_law_taken {f : Addr} {fd : FuncData} (T : Tx P w c mg base) (F : Fun c.K "_law_taken" "_law_taken" s_law_taken f fd)  : FnOk P w c.K mg base L2.CX0 1 f fd ["row", "many"] (spF c f_law_taken) := by
  exact fn_den (k := 0) (N := n_law_taken) (ps := ["row", "many"]) (body := b_law_taken) F sc_law_taken fun cdv A outer s H E hr => QSs.out (by exact (ss_cons (s_if (t_cmp (r_gt) (q_ixO 0 (qint)) (qint)) (ss_cons (s_set 2 sc_law_taken.nd (q_mod (q_blt b_int T.b_int (a_cons (q_ixO 0 (qint)) a_nil)) (qv 1)))
      (ss_cons (s_asg (q_fdiv (q_ixO 0 (qint)) (qv 1)) (g_item 0 (qint)))
      (ss_one (s_ret (qv 2))))) ss_nil)
      (ss_cons (s_asg (q_add (q_ixO 0 (qint)) (qint)) (g_item 0 (qint)))
      (ss_cons (s_if (t_cmp (r_gt) (q_ixO 0 (qint)) (q_blt b_len T.b_len (a_cons (q_ixO 0 (qint)) a_nil))) (ss_cons (s_asg (q_mod (q_blt b_int T.b_int (a_cons (q_add (q_mul (q_ixO 0 (qint)) (qint)) (qint)) a_nil)) (qint)) (g_item 0 (qint)))
      (ss_one (s_ret (q_mod (q_blt b_int T.b_int (a_cons (q_fdiv (q_ixO 0 (qint)) (qint)) a_nil)) (qv 1))))) ss_nil)
      (ss_cons (s_set 3 sc_law_taken.nd (q_ix (q_ixO 0 (qint)) (q_sub (q_ixO 0 (qint)) (qint))))
      (ss_cons (s_asg (q_mod (q_blt b_int T.b_int (a_cons (q_add (q_add (q_mul (q_ixO 0 (qint)) (qint)) (qv 3)) (qint)) a_nil)) (qint)) (g_item 0 (qint)))
      (ss_cons (s_if (t_cmp (r_ge) (qv 3) (q_pow (qint) (qint))) (ss_one (s_asg (q_fdiv (qv 3) (qv 1)) (g_item 0 (qint)))) ss_nil)
      (ss_one (s_ret (q_mod (q_blt b_int T.b_int (a_cons (qv 3) a_nil)) (qv 1)))))))))))
theorem ok_law_pick {f : Addr} {fd : FuncData} (T : Tx P w c mg base) (F : Fun c.K "_law_pick" "_law_pick" s_law_pick f fd) (C_law_taken : Cal P w c.K mg base 1 "_law_taken" (spF c f_law_taken) []) : FnOk P w c.K mg base L2.CX0 2 f fd ["row", "things"] (spF c f_law_pick) := by
  exact fn_den (k := 1) (N := n_law_pick) (ps := ["row", "things"]) (body := b_law_pick) F sc_law_pick fun cdv A outer s H E hr => QSs.out (by exact (ss_one (s_ret (q_ix (qv 1) (q_callO C_law_taken hr (by omega) (c_own 0 (a_cons (q_blt b_len T.b_len (a_cons (qv 1) a_nil)) a_nil)))))))
theorem ok_law_alike {f : Addr} {fd : FuncData} (T : Tx P w c mg base) (F : Fun c.K "_law_alike" "_law_alike" s_law_alike f fd) (hm : mg "_law_alike" = some (.ref f)) (bd : Binds c.K fd ["found", "due"] [])  : ∀ n, FnOk P w c.K mg base L2.CX0 (n + 1) f fd ["found", "due"] (spF c (f_law_alike n))
  | 0 => fn_den (k := 0) (N := n_law_alike) (ps := ["found", "due"]) (body := mSt) F sc_law_alike fun cdv A outer s H E hr => ⟨_, pss_never, ds_never⟩
  | n + 1 => by
    have C_law_alike : Cal P w c.K mg base (n + 1) "_law_alike" (spF c (f_law_alike n)) [] := ⟨f, fd, _, [], ok_law_alike T F hm bd  n, hm, F.kp, bd, .nil⟩
    exact fn_den (k := n + 1) (N := n_law_alike) (ps := ["found", "due"]) (body := b_law_alike (f_law_alike n)) F sc_law_alike fun cdv A outer s H E hr => QSs.out (by exact (ss_cons (s_if (t_val (q_isi2 "tuple" "list" T.b_tuple T.b_list T.b_isinstance (qv 1))) (ss_cons (s_if (QW.t (w_or (t_not (t_val (q_isi2 "tuple" "list" T.b_tuple T.b_list T.b_isinstance (qv 0)))) (w_or1 (t_cmp (r_ne hr) (q_blt b_isi T.b_isinstance (a_cons (qv 0) (a_cons (qty T.b_list) a_nil))) (q_blt b_isi T.b_isinstance (a_cons (qv 1) (a_cons (qty T.b_list) a_nil))))))) (ss_one (s_ret (qbl))) ss_nil)
      (ss_cons (s_if (t_cmp (r_ne hr) (q_blt b_len T.b_len (a_cons (qv 0) a_nil)) (q_blt b_len T.b_len (a_cons (qv 1) a_nil))) (ss_one (s_ret (qbl))) ss_nil)
      (ss_one (s_ret (q_cmp (r_eq hr) (q_lc (own := [("k", 2)]) sc_law_alike.nd (i_range1 T.b_range (a_cons (q_blt b_len T.b_len (a_cons (qv 1) a_nil)) a_nil)) (blkOk_by (own := [("k", 2)]) (N := n_law_alike) (sc := defScope s_law_alike) (by decide +kernel)) (fun _ _ _ _ _ => (by exact (g_name 2 sc_law_alike.nd))) (fun _ _ _ _ _ => (by exact (ts_one (t_not (t_val (q_call C_law_alike hr (by omega) (a_cons (q_ix (qv 0) (qv 2)) (a_cons (q_ix (qv 1) (qv 2)) a_nil)))))))) (fun _ _ _ _ _ => (by exact (qv 2)))) (q_lst a_nil)))))) ss_nil)
      (ss_cons (s_if (QW.t (w_or (t_cmp (r_is) (qv 1) (qnon)) (w_or1 (t_val (q_blt b_isi T.b_isinstance (a_cons (qv 1) (a_cons (qty T.b_str) a_nil))))))) (ss_one (s_ret (q_and (q_cmp (r_eq hr) (qv 0) (qv 1)) (q_one (q_cmp (r_eq hr) (q_blt b_isi T.b_isinstance (a_cons (qv 0) (a_cons (qty T.b_str) a_nil))) (q_blt b_isi T.b_isinstance (a_cons (qv 1) (a_cons (qty T.b_str) a_nil)))))))) ss_nil)
      (ss_one (s_ret (q_and (q_blt b_isi T.b_isinstance (a_cons (qv 0) (a_cons (qty T.b_int) a_nil))) (q_and (q_cmp (r_eq hr) (q_blt b_isi T.b_isinstance (a_cons (qv 0) (a_cons (qty T.b_bool) a_nil))) (q_blt b_isi T.b_isinstance (a_cons (qv 1) (a_cons (qty T.b_bool) a_nil)))) (q_one (q_cmp (r_eq hr) (qv 0) (qv 1))))))))))
theorem ok_law_arcs {f : Addr} {fd : FuncData} (T : Tx P w c mg base) (F : Fun c.K "_law_arcs" "_law_arcs" s_law_arcs f fd) (C_law_taken : Cal P w c.K mg base 1 "_law_taken" (spF c f_law_taken) []) : FnOk P w c.K mg base L2.CX0 2 f fd ["row", "size", "dense"] (spF c f_law_arcs) := by
  exact fn_den (k := 1) (N := n_law_arcs) (ps := ["row", "size", "dense"]) (body := b_law_arcs) F sc_law_arcs fun cdv A outer s H E hr => QSs.out (by exact (ss_cons (s_setO 3 sc_law_arcs.nd (q_lst a_nil))
      (ss_cons (s_for PassesOwn.never (i_range1 T.b_range (a_cons (qv 1) a_nil)) (g_name 4 sc_law_arcs.nd) (ss_one (s_for PassesOwn.never (i_range1 T.b_range (a_cons (qv 1) a_nil)) (g_name 5 sc_law_arcs.nd) (ss_one (s_if (QW.t (w_and (t_cmp (r_ne hr) (qv 4) (qv 5)) (w_and1 (t_cmp (r_eq hr) (q_callO C_law_taken hr (by omega) (c_own 0 (a_cons (qv 2) a_nil))) (qint))))) (ss_one (s_expr (q_append 3 (q_tup (a_cons (qv 4) (a_cons (qv 5) a_nil)))))) ss_nil)))))
      (ss_one (s_ret (q_blt b_tuple T.b_tuple (a_cons (qv 3) a_nil)))))))
theorem ok_law_graph {f : Addr} {fd : FuncData} (T : Tx P w c mg base) (F : Fun c.K "_law_graph" "_law_graph" s_law_graph f fd) (C_law_taken : Cal P w c.K mg base 1 "_law_taken" (spF c f_law_taken) []) (C_law_pick : Cal P w c.K mg base 2 "_law_pick" (spF c f_law_pick) []) (C_law_arcs : Cal P w c.K mg base 2 "_law_arcs" (spF c f_law_arcs) []) : FnOk P w c.K mg base L2.CX0 3 f fd ["row", "most"] (spF c f_law_graph) := by
  exact fn_den (k := 2) (N := n_law_graph) (ps := ["row", "most"]) (body := b_law_graph) F sc_law_graph fun cdv A outer s H E hr => QSs.out (by exact (ss_cons (s_set 2 sc_law_graph.nd (q_add (qint) (q_callO C_law_taken hr (by omega) (c_own 0 (a_cons (q_sub (qv 1) (qint)) a_nil)))))
      (ss_cons (s_parT2 3 false 4 false sc_law_graph.nd (ps_cons (q_callO C_law_arcs hr (by omega) (c_own 0 (a_cons (qv 2) (a_cons (q_callO C_law_pick hr (by omega) (c_own 0 (a_cons (q_lst (a_cons (qint) (a_cons (qint) (a_cons (qint) (a_cons (qint) a_nil))))) a_nil))) a_nil)))) (ps_cons (q_callO C_law_pick hr (by omega) (c_own 0 (a_cons (q_lst (a_cons (qint) (a_cons (qint) (a_cons (qint) a_nil)))) a_nil))) ps_nil)))
      (ss_one (s_ret (q_tup (a_cons (qv 2) (a_cons (qv 3) (a_cons (q_blt b_tuple T.b_tuple (a_cons (q_lc (own := [("arc", 5)]) sc_law_graph.nd (i_seq (qv 3)) (blkOk_by (own := [("arc", 5)]) (N := n_law_graph) (sc := defScope s_law_graph) (by decide +kernel)) (fun _ _ _ _ _ => (by exact (g_name 5 sc_law_graph.nd))) (fun _ _ _ _ _ => (by exact ts_nil)) (fun _ _ _ _ _ => (by exact (q_add (qint) (q_callO C_law_taken hr (by omega) (c_own 0 (a_cons (qv 4) a_nil))))))) a_nil)) a_nil)))))))))
theorem ok_Graph_init {f : Addr} {fd : FuncData} (T : Tx P w c mg base) (F : Fun c.K "__init__" "Graph.__init__" s_Graph_init f fd) (C_is_number : Cal P w c.K mg base 1 "is_number" (spF c f_is_number) []) (C_is_tuple : Cal P w c.K mg base 1 "is_tuple" (spF c f_is_tuple) []) (C_is_arc : Cal P w c.K mg base 3 "_is_arc" (spF c f_is_arc) []) : FnOk P w c.K mg base L2.CX0 4 f fd ["self", "size", "arcs"] (spF c f_Graph_init) := by
  exact fn_den (k := 3) (N := n_Graph_init) (ps := ["self", "size", "arcs"]) (body := b_Graph_init) F sc_Graph_init fun cdv A outer s H E hr => QSs.out (by exact (ss_cons (s_if (QW.t (w_or (t_not (t_val (q_call C_is_number hr (by omega) (a_cons (qv 1) (a_cons (qint) (a_cons (qk T.c_MOST_NODES) a_nil)))))) (w_or1 (t_not (t_val (q_call C_is_tuple hr (by omega) (a_cons (qv 2) (a_cons (qint) (a_cons (qk T.c_MOST_ARCS) a_nil))))))))) ss_never ss_nil)
      (ss_cons (s_for PassesOwn.never (i_enum T.b_enumerate (a_cons (qv 2) a_nil)) (g_tup 2 (gs_cons (g_name 3 sc_Graph_init.nd) (gs_cons (g_name 4 sc_Graph_init.nd) gs_nil))) (ss_one (s_if (QW.t (w_or (t_not (t_val (q_call C_is_arc hr (by omega) (a_cons (qv 1) (a_cons (qv 4) a_nil))))) (w_or1 (t_cmp (r_in hr) (qv 4) (q_sl (qv 2) o_none (o_some (qv 3))) (by with_unfolding_all rfl))))) ss_never ss_nil)))
      (ss_cons (s_fld "Graph" 0 0 T.f_Graph_nodes T.l_Graph (q_tupRg T.b_tuple T.b_range (qv 1)))
      (ss_one (s_fld "Graph" 1 0 T.f_Graph_arcs T.l_Graph (q_blt b_tuple T.b_tuple (a_cons (q_blt b_sortA T.b_sorted (a_cons (qv 2) a_nil)) a_nil))))))))
theorem ok_law {f : Addr} {fd : FuncData} (T : Tx P w c mg base) (F : Fun c.K "law" "law" s_law f fd) (C_distance : Cal P w c.K mg base 5 "distance" (spF c f_distance) []) (C_next_hops : Cal P w c.K mg base 5 "next_hops" (spF c f_next_hops) []) (C_law_taken : Cal P w c.K mg base 1 "_law_taken" (spF c f_law_taken) []) (C_law_alike : Cal P w c.K mg base 7 "_law_alike" (spF c (f_law_alike 6)) []) (C_law_graph : Cal P w c.K mg base 3 "_law_graph" (spF c f_law_graph) []) (M_Graph : Mak P w c.K mg base 4 "Graph" (c.cls "Graph") (spF c f_Graph_init) []) : FnOk P w c.K mg base L2.CX0 8 f fd ["script"] (spF c f_law) := by
  exact fn_den (k := 7) (N := n_law) (ps := ["script"]) (body := b_law) F sc_law fun cdv A outer s H E hr => QSs.out (by exact (ss_cons (s_setO 1 sc_law.nd (q_lst (a_cons (qv 0) (a_cons (qint) (a_cons (qint) (a_cons (qint) a_nil))))))
      (ss_cons (s_asg (q_callO C_law_graph hr (by omega) (c_own 1 (a_cons (qint) a_nil))) (g_tup 3 (gs_cons (g_name 2 sc_law.nd) (gs_cons (g_name 3 sc_law.nd) (gs_cons (g_name 4 sc_law.nd) gs_nil)))))
      (ss_cons (s_parT2 5 false 6 false sc_law.nd (ps_cons (q_make "Graph" M_Graph T.n_Graph hr (by omega) (a_cons (qv 2) (a_cons (qv 3) a_nil))) (ps_cons (q_callO C_law_taken hr (by omega) (c_own 1 (a_cons (qv 2) a_nil))) ps_nil)))
      (ss_cons (s_set 7 sc_law.nd (q_lc (own := [("node", 8)]) sc_law.nd (i_range1 T.b_range (a_cons (qv 2) a_nil)) (blkOk_by (own := [("node", 8)]) (N := n_law) (sc := defScope s_law) (by decide +kernel)) (fun _ _ _ _ _ => (by exact (g_name 8 sc_law.nd))) (fun _ _ _ _ _ => (by exact ts_nil)) (fun _ _ _ _ _ => (by exact (q_call C_distance hr (by omega) (a_cons (qv 5) (a_cons (qv 4) (a_cons (qv 8) (a_cons (qv 6) a_nil)))))))))
      (ss_cons (s_if (t_cmp (r_ne hr) (q_ix (qv 7) (qv 6)) (qint)) (ss_one (s_ret (qbl))) ss_nil)
      (ss_cons (s_for PassesOwn.never (i_range1 T.b_range (a_cons (q_blt b_len T.b_len (a_cons (qv 3) a_nil)) a_nil)) (g_name 9 sc_law.nd) (ss_cons (s_asg (q_ix (qv 3) (qv 9)) (g_tup 2 (gs_cons (g_name 10 sc_law.nd) (gs_cons (g_name 11 sc_law.nd) gs_nil))))
      (ss_one (s_if (QW.t (w_and (t_cmp (r_nis) (q_ix (qv 7) (qv 11)) (qnon)) (w_and1 (QW.t (w_or (t_cmp (r_is) (q_ix (qv 7) (qv 10)) (qnon)) (w_or1 (t_cmp (r_gt) (q_ix (qv 7) (qv 10)) (q_add (q_ix (qv 7) (qv 11)) (q_ix (qv 4) (qv 9)))))))))) (ss_one (s_ret (qbl))) ss_nil))))
      (ss_cons (s_for PassesOwn.never (i_range1 T.b_range (a_cons (qv 2) a_nil)) (g_name 8 sc_law.nd) (ss_cons (s_setLc (own := [("at", 9)]) 12 sc_law.nd (i_range1 T.b_range (a_cons (q_blt b_len T.b_len (a_cons (qv 3) a_nil)) a_nil)) (blkOk_by (own := [("at", 9)]) (N := n_law) (sc := defScope s_law) (by decide +kernel)) (fun _ _ _ _ _ => (by exact (g_name 9 sc_law.nd))) (fun _ _ _ _ _ => (by exact (ts_one (QW.t (w_and (t_cmp (r_eq hr) (q_ix (q_ix (qv 3) (qv 9)) (qint)) (qv 8)) (w_and (t_cmp (r_nis) (q_ix (qv 7) (q_ix (q_ix (qv 3) (qv 9)) (qint))) (qnon)) (w_and1 (t_cmp (r_eq hr) (q_ix (qv 7) (qv 8)) (q_add (q_ix (qv 7) (q_ix (q_ix (qv 3) (qv 9)) (qint))) (q_ix (qv 4) (qv 9))))))))))) (fun _ _ _ _ _ => (by exact (q_ix (q_ix (qv 3) (qv 9)) (qint)))) (hw := sw_true rfl rfl rfl (by decide +kernel)))
      (ss_cons (s_if (QW.t (w_and (t_cmp (r_ne hr) (qv 8) (qv 6)) (w_and (t_cmp (r_nis) (q_ix (qv 7) (qv 8)) (qnon)) (w_and1 (t_cmp (r_eq hr) (qv 12) (q_lst a_nil)))))) (ss_one (s_ret (qbl))) ss_nil)
      (ss_one (s_if (t_not (t_val (q_call C_law_alike hr (by omega) (a_cons (q_call C_next_hops hr (by omega) (a_cons (qv 5) (a_cons (qv 4) (a_cons (qv 8) (a_cons (qv 6) a_nil))))) (a_cons (q_if (t_cmp (r_ne hr) (qv 8) (qv 6)) (q_blt b_tuple T.b_tuple (a_cons (qv 12) a_nil)) (q_tup a_nil)) a_nil))))) (ss_one (s_ret (qbl))) ss_nil)))))
      (ss_cons (s_if (t_cmp (r_ne hr) (qv 3) (q_tup a_nil)) (ss_cons (s_set 9 sc_law.nd (q_callO C_law_taken hr (by omega) (c_own 1 (a_cons (q_blt b_len T.b_len (a_cons (qv 3) a_nil)) a_nil))))
      (ss_cons (s_set 13 sc_law.nd (q_add (q_add (q_sl (qv 4) o_none (o_some (qv 9))) (q_tup (a_cons (q_blt b_min2 T.b_min (a_cons (qint) (a_cons (q_add (q_add (q_ix (qv 4) (qv 9)) (qint)) (q_callO C_law_taken hr (by omega) (c_own 1 (a_cons (qint) a_nil)))) a_nil))) a_nil))) (q_sl (qv 4) (o_some (q_add (qv 9) (qint))) o_none)))
      (ss_one (s_for PassesOwn.never (i_range1 T.b_range (a_cons (qv 2) a_nil)) (g_name 8 sc_law.nd) (ss_cons (s_set 14 sc_law.nd (q_call C_distance hr (by omega) (a_cons (qv 5) (a_cons (qv 13) (a_cons (qv 8) (a_cons (qv 6) a_nil))))))
      (ss_one (s_if (QW.t (w_or (t_cmp (r_ne hr) (q_cmp (r_is) (qv 14) (qnon)) (q_cmp (r_is) (q_ix (qv 7) (qv 8)) (qnon))) (w_or1 (QW.t (w_and (t_cmp (r_nis) (qv 14) (qnon)) (w_and1 (t_cmp (r_lt) (qv 14) (q_ix (qv 7) (qv 8))))))))) (ss_one (s_ret (qbl))) ss_nil))))))) ss_nil)
      (ss_one (s_ret (qbl))))))))))))
end
end Fx.K04

/-! k04: the law on data -/
namespace Fx.K04
open PySem Lib
local macro_rules | `(tactic| walk_at "wp") => `(tactic| simp only [okF_runF, okF_runL, ok_seq, ok_ret, ok_retN, ok_andV, ok_orV, ok_notV, ok_cb, ok_cons, ok_nil, ok_test, ok_dv, ok_op, ok_un, ok_c, ok_if, ok_ifS, ok_and, ok_or, ok_not, ok_asg, ok_gname, ok_drop, ok_call, ok_chain, ok_nx, ok_bk, ok_ct, ok_st, ok_yes, ok_tup, ok_ok, ok_stuck, ex_toD, ex_toL, ex_bl, ex_some, ex_bl1, fl_nx, fl_rt, fl_bk, fl_ct, rt_or, nx_or, mVar, ok1, gIsi, mIsi2, gIsi2, isTy2, isTy, Option.bind, bare, e_add, e_sub, e_int, e_lenS, e_lenT, e_lenL, e_lt, e_le, e_gt, e_ge, e_leC, e_ltC, e_isN, e_notN, e_pow,
  List.map_cons, List.map_nil, List.length_cons, List.length_nil, List.replicate_succ, List.replicate_zero, List.cons_append, List.nil_append, List.append_nil, List.getElem?_cons_zero, List.getElem?_cons_succ, List.set_cons_zero, List.set_cons_succ, Nat.reduceAdd, Nat.reduceSub, true_and, and_true, Bool.not_true, Bool.not_false, true_implies, forall_const, not_true_eq_false, false_implies, Bool.false_eq_true, not_false_eq_true, implies_true, eq_self, ne_eq, reduceCtorEq, Fl.rt.injEq, S.d.injEq, D.int.injEq, false_and, exists_false, or_false, false_or, exists_eq_left'])
local macro_rules | `(tactic| walk_at "wt") => `(tactic| simp (config := { contextual := false }) only [ok_row0, ok_row1, ok_row2, ok_row3, ok_put1, ok_put2, ok_put3, e_mod, e_div, e_mul, e_ixS, decide_true, decide_false, *, okF_runF, okF_runL, ok_seq, ok_ret, ok_retN, ok_andV, ok_orV, ok_notV, ok_cb, ok_cons, ok_nil, ok_test, ok_dv, ok_op, ok_un, ok_c, ok_if, ok_ifS, ok_and, ok_or, ok_not, ok_asg, ok_gname, ok_drop, ok_call, ok_chain, ok_nx, ok_bk, ok_ct, ok_st, ok_yes, ok_tup, ok_ok, ok_stuck, ex_toD, ex_toL, ex_bl, ex_some, ex_bl1, fl_nx, fl_rt, fl_bk, fl_ct, rt_or, nx_or, mVar, ok1, gIsi, mIsi2, gIsi2, isTy2, isTy, Option.bind, bare, e_add, e_sub, e_int, e_lenS, e_lenT, e_lenL, e_lt, e_le, e_gt, e_ge, e_leC, e_ltC, e_isN, e_notN, e_pow,
  List.map_cons, List.map_nil, List.length_cons, List.length_nil, List.replicate_succ, List.replicate_zero, List.cons_append, List.nil_append, List.append_nil, List.getElem?_cons_zero, List.getElem?_cons_succ, List.set_cons_zero, List.set_cons_succ, Nat.reduceAdd, Nat.reduceSub, true_and, and_true, Bool.not_true, Bool.not_false, true_implies, forall_const, not_true_eq_false, false_implies, Bool.false_eq_true, not_false_eq_true, implies_true, eq_self, ne_eq, reduceCtorEq, Fl.rt.injEq, S.d.injEq, D.int.injEq, false_and, exists_false, or_false, false_or, exists_eq_left'])
local macro_rules | `(tactic| walk_at "wy") => `(tactic| try walk_at "wp")
local macro_rules | `(tactic| walk_at "we") => `(tactic| first | done | rfl | exact ⟨rfl, rfl⟩ | exact ⟨rfl, rfl, rfl⟩)

theorem e_graph : f_law_graph = Lib.f_law_graph := rfl
theorem e_init : f_Graph_init = Lib.f_Graph_init := rfl
theorem e_taken : f_law_taken = Lib.f_law_taken := rfl
theorem e_alike : f_law_alike 6 = Lib.f_law_alike 6 := rfl
theorem e_distance : f_distance = Lib.f_distance := rfl
theorem e_hops : f_next_hops = Lib.f_next_hops := rfl
theorem fit_path {n : Nat} {p : List Nat} (hl : p.length ≤ 1000000) : fit (n + 1) (pathD p) = true := fit_tup (by rw [List.length_map]; exact hl) fun x hx => by
  obtain ⟨q, _, rfl⟩ := List.mem_map.mp hx
  exact fit_int
/-- weights that are no less -/
structure More (as : List (Nat × Nat)) (ws ws' : List Int) : Prop where
  dn : ∀ p w', (p, w') ∈ as.zip ws' → ∃ w, w ≤ w' ∧ (p, w) ∈ as.zip ws
  up : ∀ p w, (p, w) ∈ as.zip ws → ∃ w', (p, w') ∈ as.zip ws'
theorem more_set {as : List (Nat × Nat)} {ws : List Int} {u : Nat} {w x : Int} (e : ws[u]? = some w) (hx : w ≤ x) : More as ws (ws.set u x) := by
  refine ⟨fun p w' h => ?_, fun p w' h => ?_⟩
  · obtain ⟨i, hi⟩ := List.getElem?_of_mem h
    rw [List.getElem?_zip_eq_some] at hi
    obtain ⟨h1, h2⟩ := hi
    by_cases hu : u = i
    · subst hu
      rw [List.getElem?_set_self (List.getElem?_eq_some_iff.mp e).1] at h2
      cases h2
      exact ⟨w, hx, List.mem_of_getElem? (i := u) (by rw [List.getElem?_zip_eq_some]; exact ⟨h1, e⟩)⟩
    · rw [List.getElem?_set_ne hu] at h2
      exact ⟨w', Int.le_refl _, List.mem_of_getElem? (i := i) (by rw [List.getElem?_zip_eq_some]; exact ⟨h1, h2⟩)⟩
  · obtain ⟨i, hi⟩ := List.getElem?_of_mem h
    rw [List.getElem?_zip_eq_some] at hi
    obtain ⟨h1, h2⟩ := hi
    by_cases hu : u = i
    · subst hu
      exact ⟨x, List.mem_of_getElem? (i := u) (by rw [List.getElem?_zip_eq_some]; exact ⟨h1, List.getElem?_set_self (List.getElem?_eq_some_iff.mp e).1⟩)⟩
    · exact ⟨w', List.mem_of_getElem? (i := i) (by rw [List.getElem?_zip_eq_some, List.getElem?_set_ne hu]; exact ⟨h1, h2⟩)⟩
section
variable {n g : Nat} {as : List (Nat × Nat)} {ws ws' : List Int} {ds ds' : List (Option Int)}
theorem more_none (m : More as ws ws') (d : Dist n g as ws ds) (d' : Dist n g as ws' ds') {v : Nat} {x y : Option Int} (e : ds[v]? = some x) (e' : ds'[v]? = some y) : (y = none ↔ x = none) ∧ ∀ a b, x = some a → y = some b → a ≤ b := by
  constructor
  · constructor
    · rintro rfl
      cases x with
      | none => rfl
      | some a =>
        obtain ⟨z, hz⟩ := (d.way v a e).some d' fun p w h => m.up p w h
        rw [e'] at hz
        cases hz
    · rintro rfl
      cases y with
      | none => rfl
      | some b =>
        obtain ⟨z, _, hz⟩ := (d'.way v b e').le d m.dn
        rw [e] at hz
        cases hz
  · rintro a b rfl rfl
    obtain ⟨z, h1, hz⟩ := (d'.way v b e').le d m.dn
    rw [e] at hz
    cases hz
    exact h1
theorem tight_goal (o : OkArcs n as) (hw : OkW as ws) (d : Dist n g as ws ds) : hd (tightArcs as ws ds) g = [] := by
  unfold hd
  rw [List.map_eq_nil_iff, List.filter_eq_nil_iff]
  intro p hp hpg
  rw [decide_eq_true_eq] at hpg
  obtain ⟨⟨⟨t, h⟩, w⟩, hq, rfl⟩ := List.mem_map.mp hp
  obtain ⟨hz, ht⟩ := List.mem_filter.mp hq
  obtain ⟨_, _, _, w1, _⟩ := zip_rng o hw hz
  have hpg : t = g := hpg
  subst hpg
  unfold tight at ht
  dsimp only at ht
  split at ht
  · rename_i x ex
    rw [decide_eq_true_eq, d.goal] at ht
    have ht : 0 = x + w := by simpa using ht
    have key : ∀ {v : Nat} {x : Int}, Way as ws t v x → 0 ≤ x := by
      intro v x hw'
      induction hw' with
      | nil => exact Int.le_refl _
      | step hz _ ih =>
        obtain ⟨_, _, _, w1, _⟩ := zip_rng o hw hz
        omega
    have := key (d.way h x ex)
    omega
  · cases ht
theorem tight_some (d : Dist n g as ws ds) {v : Nat} {x : Int} (hv : v ≠ g) (e : ds[v]? = some (some x)) : hd (tightArcs as ws ds) v ≠ [] := by
  have hway := d.way v x e
  cases hway with
  | nil => exact absurd rfl hv
  | @step _ h w y hz k =>
    obtain ⟨z, h1, h2⟩ := k.le d fun p w h => ⟨w, Int.le_refl _, h⟩
    obtain ⟨u, h3, h4⟩ := d.fix _ _ _ hz z h2
    rw [e] at h3
    cases h3
    have ez : y = z := by omega
    subst ez
    intro hn
    unfold hd at hn
    rw [List.map_eq_nil_iff, List.filter_eq_nil_iff] at hn
    refine hn (v, h) (List.mem_map.mpr ⟨((v, h), w), List.mem_filter.mpr ⟨hz, ?_⟩, rfl⟩) (by simp)
    unfold tight
    dsimp only
    rw [h2, e]
    simp
end
/-- the law's own tight list -/
def tP (ds : List (Option Int)) (v : Nat) : Option ((Nat × Nat) × Int) → Bool
  | some p => decide (p.1.1 = v) && tight ds p
  | none => false
def tQ : Option ((Nat × Nat) × Int) → D
  | some p => .int (p.1.2 : Nat)
  | none => .non
def zs (as : List (Nat × Nat)) (ws : List Int) (x : D) : Option ((Nat × Nat) × Int) := match x with
  | .int i => (as.zip ws)[i.toNat]?
  | _ => none
theorem tight_list {as : List (Nat × Nat)} {ws : List Int} {ds : List (Option Int)} {v : Nat} (hw : OkW as ws) : (((intsFrom 0 as.length).filter fun x => tP ds v (zs as ws x)).map fun x => tQ (zs as ws x)) = (hd (tightArcs as ws ds) v).map fun h : Nat => D.int h := by
  have el : as.length = (as.zip ws).length := by rw [List.length_zip, hw.len, Nat.min_self]
  rw [intsFrom_map, List.filter_map, List.map_map, el]
  have h1 : (((List.range (as.zip ws).length).filter ((fun x => tP ds v (zs as ws x)) ∘ fun i : Nat => D.int i)).map ((fun x => tQ (zs as ws x)) ∘ fun i : Nat => D.int i)) = ((List.range (as.zip ws).length).filter fun i => tP ds v (as.zip ws)[i]?).map fun i => tQ (as.zip ws)[i]? := by
    have e : ∀ i : Nat, zs as ws (.int (i : Nat)) = (as.zip ws)[i]? := fun i => by
      show (as.zip ws)[((i : Nat) : Int).toNat]? = _
      rw [Int.toNat_natCast]
    have f1 : ((fun x => tP ds v (zs as ws x)) ∘ fun i : Nat => D.int i) = fun i => tP ds v (as.zip ws)[i]? := funext fun i => by
      show tP ds v (zs as ws (.int (i : Nat))) = _
      rw [e]
    have f2 : ((fun x => tQ (zs as ws x)) ∘ fun i : Nat => D.int i) = fun i => tQ (as.zip ws)[i]? := funext fun i => by
      show tQ (zs as ws (.int (i : Nat))) = _
      rw [e]
    rw [f1, f2]
  rw [h1, range_fm]
  unfold hd tightArcs
  rw [List.filter_map, List.map_map, List.map_map, List.filter_filter]
  rfl
theorem law_pure (ns : List Int) (hns : ns.length ≤ 63) : ∃ ρ, f_law [.d (.scr ns)] = .ok (.d (.bl true)) ρ := by
  have key : OK (f_law [.d (.scr ns)]) fun s _ => s = .d (.bl true) := by
    unfold f_law
    refine ok_runF rfl ?_
    show OK (b_law [some (.d (.scr ns)), none, none, none, none, none, none, none, none, none, none, none, none, none, none]) _
    unfold b_law
    rw [e_graph, e_taken, e_init, e_alike, e_distance, e_hops]
    refine ok_seqI (fun ρ => ρ = [some (.d (.scr ns)), rowS none ns 0 3504 0, none, none, none, none, none, none, none, none, none, none, none, none, none]) ?_ ?_
    · rw [ok_asgO, ok_lst]
      exact (ea_cons (ev_var 0 rfl) (ea_cons ev_c (ea_cons ev_c (ea_cons ev_c ea_nil)))).ok ⟨rfl, .inl ⟨_, rfl, rfl, rfl⟩⟩
    rintro _ rfl
    refine ok_seqI (fun ρ => ∃ (n : Nat) (as : List (Nat × Nat)) (ws : List Int) (a b c : Int), 2 ≤ n ∧ n ≤ 8 ∧ OkArcs n as ∧ OkW as ws ∧ RowOk a b c ∧ ρ = [some (.d (.scr ns)), rowS none ns a b c, some (.d (.int n)), some (.d (.tup (as.map arcD))), some (.d (wsD ws)), none, none, none, none, none, none, none, none, none, none]) ?_ ?_
    · rw [ok_asg, ok_dv]
      refine ok_rowF (r := 1) (o := none) (ns := ns) (a := 0) (b := 3504) (c := 0) (ds := [.int 8]) (Pv := fun s => ∃ (n : Nat) (as : List (Nat × Nat)) (ws : List Int), s = .d (.tup [.int n, .tup (as.map arcD), wsD ws]) ∧ 2 ≤ n ∧ n ≤ 8 ∧ OkArcs n as ∧ OkW as ws) rfl ((ea_cons ev_c ea_nil).ok ⟨rfl, rfl⟩) ((law_graph (most := 8) (by unfold RowOk; decide) (by decide) (by decide)).imp ?_) ?_
      · rintro s ρ' ⟨n, as, ws, a, b, c, rfl, n1, n2, o, w1, w2, h, ρ2, rfl⟩
        exact ⟨⟨n, as, ws, rfl, n1, by omega, o, w1, w2⟩, rfl, a, b, c, h, ρ2, rfl⟩
      rintro _ a b c ⟨n, as, ws, rfl, n1, n2, o, w⟩ h
      refine ⟨_, rfl, ?_⟩
      refine @ok_gtup3 _ _ _ _ _ _ _ _ ?_
      exact ⟨rfl, n, as, ws, a, b, c, n1, n2, o, w, h, rfl⟩
    rintro _ ⟨n, as, ws, a, b, c, n1, n2, o, hw, h, rfl⟩
    have hl := o.len
    have hz : n * n ≤ 8 * 8 := Nat.mul_le_mul n2 n2
    refine ok_seqI (fun ρ => ∃ (g : Nat) (a b c : Int), g < n ∧ RowOk a b c ∧ ρ = [some (.d (.scr ns)), rowS none ns a b c, some (.d (.int n)), some (.d (.tup (as.map arcD))), some (.d (wsD ws)), some (.d (graphD n as)), some (.d (.int g)), none, none, none, none, none, none, none, none]) ?_ ?_
    · refine ok_par2 ?_
      rw [ok_psCons]
      refine ok_make ?_
      refine (ea_cons (ev_var 2 rfl) (ea_cons (ev_var 3 rfl) ea_nil)).ok ?_
      refine (madeG o (by omega) (by omega)).imp fun s ρ' ⟨e1, e2⟩ => ⟨e1, _, e2, rfl, ?_⟩
      rw [ok_psCons]
      refine ok_taken (m := n) (a := a) (b := b) (c := c) (ns := ns) (o := none) rfl h ((ev_var 2 rfl).dv ⟨rfl, rfl⟩) (by omega) (by omega) fun u a b c u0 u1 h => ?_
      rw [ok_psNil]
      refine ⟨_, _, _, _, rfl, rfl, rfl, rfl, u.toNat, a, b, c, by omega, h, ?_⟩
      rw [Int.toNat_of_nonneg u0]
      rfl
    clear h a b c
    rintro _ ⟨g, a, b, c, hg, h, rfl⟩
    obtain ⟨ds, d⟩ := dist_ex o hw n2 hg
    have dat : ∀ v, v < n → ∃ x, ds[v]? = some x := fun v hv => ⟨_, List.getElem?_eq_getElem (by rw [d.len]; exact hv)⟩
    refine ok_seqI (fun ρ => ρ = [some (.d (.scr ns)), rowS none ns a b c, some (.d (.int n)), some (.d (.tup (as.map arcD))), some (.d (wsD ws)), some (.d (graphD n as)), some (.d (.int g)), some (.d (.lst (ds.map oD))), none, none, none, none, none, none, none]) ?_ ?_
    · rw [ok_asg]
      have ef : (intsFrom 0 n).map (fun x => match x with | .int i => oD ((ds[i.toNat]?).getD none) | _ => .non) = ds.map oD := by
        refine List.ext_getElem? fun i => ?_
        rw [List.getElem?_map, List.getElem?_map]
        by_cases hi : i < n
        · obtain ⟨x, ex⟩ := dat i hi
          rw [intsFrom_get n 0 i hi, ex]
          show some (oD ((ds[((0 : Int) + (i : Int)).toNat]?).getD none)) = _
          rw [Int.zero_add, Int.toNat_natCast, ex]
          rfl
        · rw [List.getElem?_eq_none (by rw [intsFrom_length]; omega), List.getElem?_eq_none (by rw [d.len]; omega)]
          rfl
      have ev := ev_rmap (k := 8) (n := n) (fn := mVar 2) (fe := mCall Lib.f_distance (aCons (mVar 5) (aCons (mVar 4) (aCons (mVar 8) (aCons (mVar 6) aNil))))) (f := fun x => match x with | .int i => oD ((ds[i.toNat]?).getD none) | _ => .non) (ρ := [some (.d (.scr ns)), rowS none ns a b c, some (.d (.int n)), some (.d (.tup (as.map arcD))), some (.d (wsD ws)), some (.d (graphD n as)), some (.d (.int g)), none, none, none, none, none, none, none, none]) (by show 8 < 15; omega) rfl (ev_var 2 rfl) (fun i hi => by
        obtain ⟨x, ex⟩ := dat i hi
        refine ev_call (ea_cons (ev_var 5 rfl) (ea_cons (ev_var 4 rfl) (ea_cons (ev_var 8 rfl) (ea_cons (ev_var 6 rfl) ea_nil)))) ?_
        show OKF (Lib.f_distance [.d (graphD n as), .d (wsD ws), .d (.int (i : Nat)), .d (.int g)]) fun s => s = .d (oD ((ds[((i : Nat) : Int).toNat]?).getD none))
        rw [Int.toNat_natCast, ex]
        exact distance o hw n2 hg d hi ex) (by omega)
      rw [ef] at ev
      refine ev.dv ?_
      rw [ok_gname]
      exact ⟨rfl, rfl⟩
    rintro _ rfl
    refine ok_seqI (fun ρ => ρ = [some (.d (.scr ns)), rowS none ns a b c, some (.d (.int n)), some (.d (.tup (as.map arcD))), some (.d (wsD ws)), some (.d (graphD n as)), some (.d (.int g)), some (.d (.lst (ds.map oD))), none, none, none, none, none, none, none]) ?_ ?_
    · rw [ok_ifS]
      refine (eb_test (ev_ne (i := 0) (j := 0) (ev_ixL (ev_var 7 rfl) (ev_var 6 rfl) (by rw [List.getElem?_map, d.goal]; rfl)) ev_c)).ok ⟨fun n => (by cases n), fun _ => ?_⟩
      rw [ok_nx]
      exact ⟨rfl, rfl⟩
    rintro _ rfl
    refine ok_seqI (fun ρ => ∃ x9 x10 x11, ρ = [some (.d (.scr ns)), rowS none ns a b c, some (.d (.int n)), some (.d (.tup (as.map arcD))), some (.d (wsD ws)), some (.d (graphD n as)), some (.d (.int g)), some (.d (.lst (ds.map oD))), none, x9, x10, x11, none, none, none]) ?_ ?_
    · rw [ok_for]
      refine @ok_range1e _ _ _ ?_
      refine (ea_cons (ev_cb (z := .int (as.length : Nat)) (ea_cons (ev_var 3 rfl) ea_nil) ?_) ea_nil).ok ⟨(as.length : Nat), rfl, by omega, by omega, ?_⟩
      · show some (S.d (.int ((as.map arcD).length : Nat))) = _
        rw [List.length_map]
      rw [Int.toNat_natCast]
      refine @ok_loop _ _ (fun _ ρ => ∃ x9 x10 x11, ρ = [some (.d (.scr ns)), rowS none ns a b c, some (.d (.int n)), some (.d (.tup (as.map arcD))), some (.d (wsD ws)), some (.d (graphD n as)), some (.d (.int g)), some (.d (.lst (ds.map oD))), none, x9, x10, x11, none, none, none]) _ _ 0 _ ⟨_, _, _, rfl⟩ ?_ ?_
      · rintro i x ρ hx ⟨x9, x10, x11, rfl⟩
        obtain ⟨rfl, hi⟩ := intsFrom_at hx
        obtain ⟨⟨t, hh⟩, ei⟩ : ∃ p, as[i]? = some p := ⟨_, List.getElem?_eq_getElem hi⟩
        obtain ⟨w, ew⟩ : ∃ w, ws[i]? = some w := ⟨_, List.getElem?_eq_getElem (by rw [hw.len]; exact hi)⟩
        have hzm : ((t, hh), w) ∈ as.zip ws := List.mem_of_getElem? (i := i) (by rw [List.getElem?_zip_eq_some]; exact ⟨ei, ew⟩)
        obtain ⟨ht, hhn, _, w1, w2⟩ := zip_rng o hw hzm
        obtain ⟨oh, eh⟩ := dat hh hhn
        obtain ⟨ot, et⟩ := dat t ht
        simp only [ok_gname, List.set_cons_succ, List.set_cons_zero]
        refine ok_seqI (fun ρ => ρ = [some (.d (.scr ns)), rowS none ns a b c, some (.d (.int n)), some (.d (.tup (as.map arcD))), some (.d (wsD ws)), some (.d (graphD n as)), some (.d (.int g)), some (.d (.lst (ds.map oD))), none, some (.d (.int (i : Nat))), some (.d (.int (t : Nat))), some (.d (.int (hh : Nat))), none, none, none]) ?_ ?_
        · rw [ok_asg]
          refine (ev_ixT (x := arcD (t, hh)) (i := i) (ev_var 3 rfl) (ev_var 9 rfl) (by rw [List.getElem?_map, ei]; rfl)).dv ?_
          refine ok_gtup2 ?_
          exact ⟨rfl, rfl⟩
        rintro _ rfl
        have ixh : Ev (mOp gIx (mVar 7) (mVar 11)) [some (.d (.scr ns)), rowS none ns a b c, some (.d (.int n)), some (.d (.tup (as.map arcD))), some (.d (wsD ws)), some (.d (graphD n as)), some (.d (.int g)), some (.d (.lst (ds.map oD))), none, some (.d (.int (i : Nat))), some (.d (.int (t : Nat))), some (.d (.int (hh : Nat))), none, none, none] (oD oh) := ev_ixL (ev_var 7 rfl) (ev_var 11 rfl) (by rw [List.getElem?_map, eh]; rfl)
        have ixt : Ev (mOp gIx (mVar 7) (mVar 10)) [some (.d (.scr ns)), rowS none ns a b c, some (.d (.int n)), some (.d (.tup (as.map arcD))), some (.d (wsD ws)), some (.d (graphD n as)), some (.d (.int g)), some (.d (.lst (ds.map oD))), none, some (.d (.int (i : Nat))), some (.d (.int (t : Nat))), some (.d (.int (hh : Nat))), none, none, none] (oD ot) := ev_ixL (ev_var 7 rfl) (ev_var 10 rfl) (by rw [List.getElem?_map, et]; rfl)
        have ixw : Ev (mOp gIx (mVar 4) (mVar 9)) [some (.d (.scr ns)), rowS none ns a b c, some (.d (.int n)), some (.d (.tup (as.map arcD))), some (.d (wsD ws)), some (.d (graphD n as)), some (.d (.int g)), some (.d (.lst (ds.map oD))), none, some (.d (.int (i : Nat))), some (.d (.int (t : Nat))), some (.d (.int (hh : Nat))), none, none, none] (.int w) := ev_ixT (ev_var 4 rfl) (ev_var 9 rfl) (by rw [List.getElem?_map, ew]; rfl)
        rw [ok_ifS]
        cases oh with
        | none =>
          refine (eb_and (p := false) (q := false) (eb_test (ev_notN ixh)) fun z => (by cases z)).ok ⟨fun z => (by cases z), fun _ => ?_⟩
          rw [ok_nx]
          exact ⟨fun _ => ⟨_, _, _, rfl⟩, fun n => (by cases n), fun s n => (by cases n)⟩
        | some x =>
          obtain ⟨y, ey, hy⟩ := d.fix t hh w hzm x eh
          rw [et] at ey
          cases ey
          refine (eb_and (p := true) (q := false) (eb_test (ev_notN ixh)) fun _ => eb_or (p := false) (q := false) (eb_test (ev_isN ixt)) fun _ => ?_).ok ⟨fun z => (by cases z), fun _ => ?_⟩
          · have := eb_test (ev_gt ixt (ev_add ixh ixw))
            rw [decide_eq_false (by omega)] at this
            exact this
          · rw [ok_nx]
            exact ⟨fun _ => ⟨_, _, _, rfl⟩, fun n => (by cases n), fun s n => (by cases n)⟩
      · rintro ρ ⟨x9, x10, x11, rfl⟩
        exact ⟨rfl, _, _, _, rfl⟩
    rintro _ ⟨x9, x10, x11, rfl⟩
    refine ok_seqI (fun ρ => ∃ x8 x9 x12, ρ = [some (.d (.scr ns)), rowS none ns a b c, some (.d (.int n)), some (.d (.tup (as.map arcD))), some (.d (wsD ws)), some (.d (graphD n as)), some (.d (.int g)), some (.d (.lst (ds.map oD))), x8, x9, x10, x11, x12, none, none]) ?_ ?_
    · rw [ok_for]
      refine @ok_range1e _ _ _ ?_
      refine (ea_cons (ev_var 2 rfl) ea_nil).ok ⟨(n : Nat), rfl, by omega, by omega, ?_⟩
      rw [Int.toNat_natCast]
      refine @ok_loop _ _ (fun _ ρ => ∃ x8 x9 x12, ρ = [some (.d (.scr ns)), rowS none ns a b c, some (.d (.int n)), some (.d (.tup (as.map arcD))), some (.d (wsD ws)), some (.d (graphD n as)), some (.d (.int g)), some (.d (.lst (ds.map oD))), x8, x9, x10, x11, x12, none, none]) _ _ 0 _ ⟨_, _, _, rfl⟩ ?_ ?_
      · rintro v x ρ hx ⟨x8, x9, x12, rfl⟩
        obtain ⟨rfl, hv⟩ := intsFrom_at hx
        obtain ⟨on, en⟩ := dat v hv
        simp only [ok_gname, List.set_cons_succ, List.set_cons_zero]
        refine ok_seqI (fun ρ => ∃ x9, ρ = [some (.d (.scr ns)), rowS none ns a b c, some (.d (.int n)), some (.d (.tup (as.map arcD))), some (.d (wsD ws)), some (.d (graphD n as)), some (.d (.int g)), some (.d (.lst (ds.map oD))), some (.d (.int (v : Nat))), x9, x10, x11, some (.d (natsD (hd (tightArcs as ws ds) v))), none, none]) ?_ ?_
        · rw [ok_asg, ok_dv, ok_lc]
          refine @ok_range1e _ _ _ ?_
          refine (ea_cons (ev_cb (z := .int (as.length : Nat)) (ea_cons (ev_var 3 rfl) ea_nil) ?_) ea_nil).ok ⟨(as.length : Nat), rfl, by omega, by omega, ?_⟩
          · show some (S.d (.int ((as.map arcD).length : Nat))) = _
            rw [List.length_map]
          rw [Int.toNat_natCast]
          show OK (mComp (gmName 9) _ _ [9] (intsFrom 0 as.length) [] [some (.d (.scr ns)), rowS none ns a b c, some (.d (.int n)), some (.d (.tup (as.map arcD))), some (.d (wsD ws)), some (.d (graphD n as)), some (.d (.int g)), some (.d (.lst (ds.map oD))), some (.d (.int (v : Nat))), none, x10, x11, x12, none, none]) _
          have one : ∀ x ∈ intsFrom 0 as.length, ∃ (i t hh : Nat) (w : Int), x = .int (i : Nat) ∧ as[i]? = some (t, hh) ∧ ws[i]? = some w ∧ t < n ∧ hh < n ∧ zs as ws x = some ((t, hh), w) ∧ ((t, hh), w) ∈ as.zip ws := fun x hx => by
            obtain ⟨i, hi0⟩ := List.getElem?_of_mem hx
            obtain ⟨rfl, hi2⟩ := intsFrom_at hi0
            obtain ⟨⟨t, hh⟩, ei⟩ : ∃ p, as[i]? = some p := ⟨_, List.getElem?_eq_getElem hi2⟩
            obtain ⟨w, ew⟩ : ∃ w, ws[i]? = some w := ⟨_, List.getElem?_eq_getElem (by rw [hw.len]; exact hi2)⟩
            have hze : (as.zip ws)[i]? = some ((t, hh), w) := by rw [List.getElem?_zip_eq_some]; exact ⟨ei, ew⟩
            obtain ⟨ht, hhn, _⟩ := zip_rng o hw (List.mem_of_getElem? hze)
            refine ⟨i, t, hh, w, rfl, ei, ew, ht, hhn, ?_, List.mem_of_getElem? hze⟩
            show (as.zip ws)[((i : Nat) : Int).toNat]? = _
            rw [Int.toNat_natCast, hze]
          refine ok_fm (t := fun x => tP ds v (zs as ws x)) (f := fun x => tQ (zs as ws x)) (by show 9 < 15; omega) rfl (fun x hx => ?_) (fun x hx _ => ?_) (by rw [intsFrom_length]; omega) ⟨_, rfl, ?_⟩
          · obtain ⟨i, t, hh, w, rfl, ei, ew, ht, hhn, hz', hzm⟩ := one x hx
            obtain ⟨oh, eh⟩ := dat hh hhn
            show EvB _ [some (.d (.scr ns)), rowS none ns a b c, some (.d (.int n)), some (.d (.tup (as.map arcD))), some (.d (wsD ws)), some (.d (graphD n as)), some (.d (.int g)), some (.d (.lst (ds.map oD))), some (.d (.int (v : Nat))), some (.d (.int (i : Nat))), x10, x11, x12, none, none] _
            rw [hz']
            have ia : Ev (mOp gIx (mVar 3) (mVar 9)) [some (.d (.scr ns)), rowS none ns a b c, some (.d (.int n)), some (.d (.tup (as.map arcD))), some (.d (wsD ws)), some (.d (graphD n as)), some (.d (.int g)), some (.d (.lst (ds.map oD))), some (.d (.int (v : Nat))), some (.d (.int (i : Nat))), x10, x11, x12, none, none] (arcD (t, hh)) := ev_ixT (ev_var 3 rfl) (ev_var 9 rfl) (by rw [List.getElem?_map, ei]; rfl)
            have i0 := ev_ixT (i := 0) (x := .int (t : Nat)) (fb := mC (.int 0)) ia ev_c rfl
            have i1 := ev_ixT (i := 1) (x := .int (hh : Nat)) (fb := mC (.int 1)) ia ev_c rfl
            have ixh := ev_ixL (fa := mVar 7) (ds := ds.map oD) (x := oD oh) (ev_var 7 rfl) i1 (by rw [List.getElem?_map, eh]; rfl)
            have ixv := ev_ixL (fa := mVar 7) (fb := mVar 8) (ds := ds.map oD) (x := oD on) (i := v) (ρ := [some (.d (.scr ns)), rowS none ns a b c, some (.d (.int n)), some (.d (.tup (as.map arcD))), some (.d (wsD ws)), some (.d (graphD n as)), some (.d (.int g)), some (.d (.lst (ds.map oD))), some (.d (.int (v : Nat))), some (.d (.int (i : Nat))), x10, x11, x12, none, none]) (ev_var 7 rfl) (ev_var 8 rfl) (by rw [List.getElem?_map, en]; rfl)
            have ixw := ev_ixT (fa := mVar 4) (fb := mVar 9) (ds := ws.map D.int) (x := .int w) (i := i) (ρ := [some (.d (.scr ns)), rowS none ns a b c, some (.d (.int n)), some (.d (.tup (as.map arcD))), some (.d (wsD ws)), some (.d (graphD n as)), some (.d (.int g)), some (.d (.lst (ds.map oD))), some (.d (.int (v : Nat))), some (.d (.int (i : Nat))), x10, x11, x12, none, none]) (ev_var 4 rfl) (ev_var 9 rfl) (by rw [List.getElem?_map, ew]; rfl)
            show EvB _ _ (decide (t = v) && tight ds ((t, hh), w))
            have e0 := eb_test (ev_eq i0 (ev_var 8 rfl))
            rw [nat_ne_iff] at e0
            refine eb_and e0 fun hv' => ?_
            rw [decide_eq_true_eq] at hv'
            subst hv'
            cases oh with
            | none =>
              have et : tight ds ((t, hh), w) = (false && false) := by
                unfold tight
                dsimp only
                rw [eh]
                rfl
              rw [et]
              exact eb_and (eb_test (ev_notN ixh)) fun z => (by cases z)
            | some x =>
              have et : tight ds ((t, hh), w) = (true && decide (on = some (x + w))) := by
                unfold tight
                dsimp only
                rw [eh, en, Bool.true_and, decide_eq_decide]
                simp
              rw [et]
              exact eb_and (eb_test (ev_notN ixh)) fun _ => eb_test (ev_eqO ixv (ev_add ixh ixw))
          · obtain ⟨i, t, hh, w, rfl, ei, ew, ht, hhn, hz', _⟩ := one x hx
            rw [hz']
            show Ev _ [some (.d (.scr ns)), rowS none ns a b c, some (.d (.int n)), some (.d (.tup (as.map arcD))), some (.d (wsD ws)), some (.d (graphD n as)), some (.d (.int g)), some (.d (.lst (ds.map oD))), some (.d (.int (v : Nat))), some (.d (.int (i : Nat))), x10, x11, x12, none, none] (.int (hh : Nat))
            have ia : Ev (mOp gIx (mVar 3) (mVar 9)) [some (.d (.scr ns)), rowS none ns a b c, some (.d (.int n)), some (.d (.tup (as.map arcD))), some (.d (wsD ws)), some (.d (graphD n as)), some (.d (.int g)), some (.d (.lst (ds.map oD))), some (.d (.int (v : Nat))), some (.d (.int (i : Nat))), x10, x11, x12, none, none] (arcD (t, hh)) := ev_ixT (ev_var 3 rfl) (ev_var 9 rfl) (by rw [List.getElem?_map, ei]; rfl)
            exact ev_ixT (i := 1) ia ev_c rfl
          · rw [ok_gname, tight_list hw]
            exact ⟨rfl, none, rfl⟩
        rintro _ ⟨x9, rfl⟩
        have htl : (hd (tightArcs as ws ds) v).length ≤ 1000 := by
          refine Nat.le_trans hd_len ?_
          unfold tightArcs
          rw [List.length_map]
          refine Nat.le_trans (List.length_filter_le _ _) ?_
          rw [List.length_zip]
          omega
        have hpl : pl60 (natsD (hd (tightArcs as ws ds) v)) = true := fit_60 (n := 1) (fit_lst (by rw [List.length_map]; omega) fun x hx => by
          obtain ⟨q, _, rfl⟩ := List.mem_map.mp hx
          exact fit_int) (by decide)
        have neg : Ev (mOp gNe (mVar 8) (mVar 6)) [some (.d (.scr ns)), rowS none ns a b c, some (.d (.int n)), some (.d (.tup (as.map arcD))), some (.d (wsD ws)), some (.d (graphD n as)), some (.d (.int g)), some (.d (.lst (ds.map oD))), some (.d (.int (v : Nat))), x9, x10, x11, some (.d (natsD (hd (tightArcs as ws ds) v))), none, none] (.bl (!decide (v = g))) := by
          have := ev_ne (i := (v : Int)) (j := (g : Int)) (ρ := [some (.d (.scr ns)), rowS none ns a b c, some (.d (.int n)), some (.d (.tup (as.map arcD))), some (.d (wsD ws)), some (.d (graphD n as)), some (.d (.int g)), some (.d (.lst (ds.map oD))), some (.d (.int (v : Nat))), x9, x10, x11, some (.d (natsD (hd (tightArcs as ws ds) v))), none, none]) (ev_var 8 rfl) (ev_var 6 rfl)
          rw [nat_ne_iff] at this
          exact this
        refine ok_seqI (fun ρ => ρ = [some (.d (.scr ns)), rowS none ns a b c, some (.d (.int n)), some (.d (.tup (as.map arcD))), some (.d (wsD ws)), some (.d (graphD n as)), some (.d (.int g)), some (.d (.lst (ds.map oD))), some (.d (.int (v : Nat))), x9, x10, x11, some (.d (natsD (hd (tightArcs as ws ds) v))), none, none]) ?_ ?_
        · rw [ok_ifS]
          have ixv := ev_ixL (fa := mVar 7) (fb := mVar 8) (ds := ds.map oD) (x := oD on) (i := v) (ρ := [some (.d (.scr ns)), rowS none ns a b c, some (.d (.int n)), some (.d (.tup (as.map arcD))), some (.d (wsD ws)), some (.d (graphD n as)), some (.d (.int g)), some (.d (.lst (ds.map oD))), some (.d (.int (v : Nat))), x9, x10, x11, some (.d (natsD (hd (tightArcs as ws ds) v))), none, none]) (ev_var 7 rfl) (ev_var 8 rfl) (by rw [List.getElem?_map, en]; rfl)
          have fin : EvB (mAnd (mTest (mOp gNe (mVar 8) (mVar 6))) (mAnd (mTest (mOp gNotN (mOp gIx (mVar 7) (mVar 8)) (mC .non))) (mTest (mOp gEq (mVar 12) (mLst aNil))))) [some (.d (.scr ns)), rowS none ns a b c, some (.d (.int n)), some (.d (.tup (as.map arcD))), some (.d (wsD ws)), some (.d (graphD n as)), some (.d (.int g)), some (.d (.lst (ds.map oD))), some (.d (.int (v : Nat))), x9, x10, x11, some (.d (natsD (hd (tightArcs as ws ds) v))), none, none] false := by
            have := eb_and (q := !isN (oD on) && ((hd (tightArcs as ws ds) v).map fun i : Nat => D.int i).isEmpty) (eb_test neg) fun _ => eb_and (eb_test (ev_notN ixv)) fun _ => eb_test (ev_eqNil (ev_var 12 rfl) hpl)
            have e : (!decide (v = g) && (!isN (oD on) && ((hd (tightArcs as ws ds) v).map fun i : Nat => D.int i).isEmpty)) = false := by
              by_cases hvg : v = g
              · simp [hvg]
              · cases on with
                | none => simp [isN, oD]
                | some x =>
                  have := tight_some d hvg en
                  cases e : hd (tightArcs as ws ds) v with
                  | nil => exact absurd e this
                  | cons _ _ => simp
            rw [e] at this
            exact this
          refine fin.ok ⟨fun n => (by cases n), fun _ => ?_⟩
          rw [ok_nx]
          exact ⟨rfl, rfl⟩
        rintro _ rfl
        rw [ok_ifS]
        have e1 := ev_call (F := Lib.f_next_hops) (ρ := [some (.d (.scr ns)), rowS none ns a b c, some (.d (.int n)), some (.d (.tup (as.map arcD))), some (.d (wsD ws)), some (.d (graphD n as)), some (.d (.int g)), some (.d (.lst (ds.map oD))), some (.d (.int (v : Nat))), x9, x10, x11, some (.d (natsD (hd (tightArcs as ws ds) v))), none, none]) (ea_cons (ev_var 5 rfl) (ea_cons (ev_var 4 rfl) (ea_cons (ev_var 8 rfl) (ea_cons (ev_var 6 rfl) ea_nil)))) (next_hops o hw n2 hg d hv)
        have e2 : Ev (mIf (mTest (mOp gNe (mVar 8) (mVar 6))) (mCB gTuple (aCons (mVar 12) aNil)) (mTup aNil)) [some (.d (.scr ns)), rowS none ns a b c, some (.d (.int n)), some (.d (.tup (as.map arcD))), some (.d (wsD ws)), some (.d (graphD n as)), some (.d (.int g)), some (.d (.lst (ds.map oD))), some (.d (.int (v : Nat))), x9, x10, x11, some (.d (natsD (hd (tightArcs as ws ds) v))), none, none] (pathD (hd (tightArcs as ws ds) v)) := by
          refine ev_if (eb_test neg) (fun _ => ev_cb (ea_cons (ev_var 12 rfl) ea_nil) rfl) fun hb => ?_
          have hvg : v = g := by simpa using hb
          rw [hvg, tight_goal o hw d]
          exact ev_tup ea_nil
        refine (eb_not (eb_test (ev_call (x := .bl true) (ea_cons e1 (ea_cons e2 ea_nil)) (alike_self 5 _ (fit_path (by omega)) rfl)))).ok ⟨fun n => (by cases n), fun _ => ?_⟩
        rw [ok_nx]
        exact ⟨fun _ => ⟨_, _, _, rfl⟩, fun n => (by cases n), fun s n => (by cases n)⟩
      · rintro ρ ⟨x8, x9, x12, rfl⟩
        exact ⟨rfl, _, _, _, rfl⟩
    rintro _ ⟨x8, x9, x12, rfl⟩
    refine ok_seqI (fun ρ => True) ?_ ?_
    · have hpa : pl60 (.tup (as.map arcD)) = true := fit_60 (n := 2) (fit_tup (by rw [List.length_map]; omega) fun x hx => by
        obtain ⟨q, _, rfl⟩ := List.mem_map.mp hx
        exact fit_arc) (by decide)
      rw [ok_ifS]
      refine (eb_test (ev_neT (ev_var 3 rfl) hpa)).ok ⟨fun hne => ?_, fun _ => ?_⟩
      · have hpos : 0 < as.length := by
          cases as with
          | nil => cases hne
          | cons _ _ => simp
        refine ok_seqI (fun ρ => ∃ (u : Nat) (a b c : Int), u < as.length ∧ RowOk a b c ∧ ρ = [some (.d (.scr ns)), rowS none ns a b c, some (.d (.int n)), some (.d (.tup (as.map arcD))), some (.d (wsD ws)), some (.d (graphD n as)), some (.d (.int g)), some (.d (.lst (ds.map oD))), x8, some (.d (.int (u : Nat))), x10, x11, x12, none, none]) ?_ ?_
        · rw [ok_asg, ok_dv]
          refine ok_taken (m := (as.length : Nat)) (a := a) (b := b) (c := c) (ns := ns) (o := none) rfl h ((ev_cb (z := .int (as.length : Nat)) (ea_cons (ev_var 3 rfl) ea_nil) ?_).dv ⟨rfl, rfl⟩) (by omega) (by omega) fun u a b c u0 u1 h => ?_
          · show some (S.d (.int ((as.map arcD).length : Nat))) = _
            rw [List.length_map]
          refine ⟨_, rfl, ?_⟩
          rw [ok_gname]
          refine ⟨rfl, u.toNat, a, b, c, by omega, h, ?_⟩
          rw [Int.toNat_of_nonneg u0]
          rfl
        clear h a b c
        rintro _ ⟨u, a, b, c, hu, h, rfl⟩
        obtain ⟨w, ew⟩ : ∃ w, ws[u]? = some w := ⟨_, List.getElem?_eq_getElem (by rw [hw.len]; exact hu)⟩
        obtain ⟨w1, w2⟩ := hw.rng w (List.mem_of_getElem? ew)
        refine ok_seqI (fun ρ => ∃ (y : Int) (a b c : Int), w ≤ y ∧ y ≤ 100 ∧ RowOk a b c ∧ ρ = [some (.d (.scr ns)), rowS none ns a b c, some (.d (.int n)), some (.d (.tup (as.map arcD))), some (.d (wsD ws)), some (.d (graphD n as)), some (.d (.int g)), some (.d (.lst (ds.map oD))), x8, some (.d (.int (u : Nat))), x10, x11, x12, some (.d (wsD (ws.set u y))), none]) ?_ ?_
        · rw [ok_asg, ok_dv, ok_op, ok_dv, ok_op, ok_dv]
          refine ok_slTo ((ev_var 4 rfl).dv ((ev_var 9 rfl).dv ⟨_, _, rfl, rfl, by omega, _, rfl, ?_⟩))
          rw [ok_dv, ok_tup, ok_cons, ok_dv, ok_cb, ok_cons]
          refine ev_c.dv ?_
          rw [ok_cons, ok_dv, ok_op]
          refine (ev_add (ev_ixT (x := .int w) (ev_var 4 rfl) (ev_var 9 rfl) (by rw [List.getElem?_map, ew]; rfl)) ev_c).dv ?_
          rw [ok_dv]
          refine ok_taken (m := 9) (a := a) (b := b) (c := c) (ns := ns) (o := none) rfl h (ev_c.dv ⟨rfl, rfl⟩) (by decide) (by decide) fun v a b c v0 v1 h => ?_
          refine ⟨_, rfl, _, rfl, _, rfl, ?_⟩
          rw [ok_nil]
          refine ⟨_, rfl, _, rfl, ?_⟩
          rw [ok_nil]
          generalize hy : (if w + 1 + v < 100 then w + 1 + v else (100 : Int)) = y
          have hy1 : w ≤ y ∧ y ≤ 100 := by
            rw [← hy]
            split <;> omega
          refine ⟨rfl, _, rfl, .d (.tup ((ws.map D.int).take u ++ [.int y])), ?_, _, rfl, ?_⟩
          · rw [Int.toNat_natCast]
            have hs : small (((ws.map D.int).take u).length + [D.int y].length) = true := by
              rw [List.length_take, List.length_map, List.length_singleton]
              have := hw.len
              exact decide_eq_true (by omega)
            show (if small (((ws.map D.int).take u).length + [D.int y].length) then some (S.d (.tup (((ws.map D.int).take u) ++ [.int y]))) else none) = _
            rw [if_pos hs]
          rw [ok_dv]
          refine ok_slFrom ((ev_var 4 rfl).dv ((ev_add (i := (u : Int)) (j := 1) (ev_var 9 rfl) ev_c).dv ⟨_, _, rfl, rfl, by omega, _, rfl, ?_⟩))
          refine ⟨.d (wsD (ws.set u y)), ?_, _, rfl, ?_⟩
          · have et : ((u : Int) + 1).toNat = u + 1 := by omega
            rw [et]
            have hu' : u < ws.length := by rw [hw.len]; exact hu
            have hs : small (((ws.map D.int).take u ++ [D.int y]).length + ((ws.map D.int).drop (u + 1)).length) = true := by
              rw [List.length_append, List.length_take, List.length_map, List.length_singleton, List.length_drop, List.length_map]
              have := hw.len
              exact decide_eq_true (by omega)
            show (if small (((ws.map D.int).take u ++ [D.int y]).length + ((ws.map D.int).drop (u + 1)).length) then some (S.d (.tup (((ws.map D.int).take u ++ [D.int y]) ++ ((ws.map D.int).drop (u + 1))))) else none) = _
            rw [if_pos hs, List.set_eq_take_append_cons_drop, if_pos hu']
            show _ = some (S.d (.tup ((ws.take u ++ y :: ws.drop (u + 1)).map D.int)))
            rw [List.map_append, List.map_cons, List.append_assoc, List.map_take, List.map_drop]
            rfl
          · rw [ok_gname]
            exact ⟨rfl, y, a, b, c, hy1.1, hy1.2, h, rfl⟩
        clear h a b c
        rintro _ ⟨y, a, b, c, hy1, hy2, h, rfl⟩
        have hw' : OkW as (ws.set u y) := ⟨by rw [List.length_set]; exact hw.len, fun z hz => by
          rcases List.mem_or_eq_of_mem_set hz with hz | rfl
          · exact hw.rng z hz
          · exact ⟨by omega, hy2⟩⟩
        have hm : More as ws (ws.set u y) := more_set ew hy1
        obtain ⟨ds', d'⟩ := dist_ex o hw' n2 hg
        rw [ok_for]
        refine @ok_range1e _ _ _ ?_
        refine (ea_cons (ev_var 2 rfl) ea_nil).ok ⟨(n : Nat), rfl, by omega, by omega, ?_⟩
        rw [Int.toNat_natCast]
        refine @ok_loop _ _ (fun _ ρ => ∃ x8 x14, ρ = [some (.d (.scr ns)), rowS none ns a b c, some (.d (.int n)), some (.d (.tup (as.map arcD))), some (.d (wsD ws)), some (.d (graphD n as)), some (.d (.int g)), some (.d (.lst (ds.map oD))), x8, some (.d (.int (u : Nat))), x10, x11, x12, some (.d (wsD (ws.set u y))), x14]) _ _ 0 _ ⟨_, _, rfl⟩ ?_ ?_
        · rintro v x ρ hx ⟨x8, x14, rfl⟩
          obtain ⟨rfl, hv⟩ := intsFrom_at hx
          obtain ⟨on, en⟩ := dat v hv
          obtain ⟨om, em⟩ : ∃ x, ds'[v]? = some x := ⟨_, List.getElem?_eq_getElem (by rw [d'.len]; exact hv)⟩
          obtain ⟨m1, m2⟩ := more_none hm d d' en em
          simp only [ok_gname, List.set_cons_succ, List.set_cons_zero]
          refine ok_seqI (fun ρ => ρ = [some (.d (.scr ns)), rowS none ns a b c, some (.d (.int n)), some (.d (.tup (as.map arcD))), some (.d (wsD ws)), some (.d (graphD n as)), some (.d (.int g)), some (.d (.lst (ds.map oD))), some (.d (.int (v : Nat))), some (.d (.int (u : Nat))), x10, x11, x12, some (.d (wsD (ws.set u y))), some (.d (oD om))]) ?_ ?_
          · rw [ok_asg]
            refine (ev_call (ea_cons (ev_var 5 rfl) (ea_cons (ev_var 13 rfl) (ea_cons (ev_var 8 rfl) (ea_cons (ev_var 6 rfl) ea_nil)))) (distance o hw' n2 hg d' hv em)).dv ?_
            rw [ok_gname]
            exact ⟨rfl, rfl⟩
          rintro _ rfl
          have ixv := ev_ixL (fa := mVar 7) (fb := mVar 8) (ds := ds.map oD) (x := oD on) (i := v) (ρ := [some (.d (.scr ns)), rowS none ns a b c, some (.d (.int n)), some (.d (.tup (as.map arcD))), some (.d (wsD ws)), some (.d (graphD n as)), some (.d (.int g)), some (.d (.lst (ds.map oD))), some (.d (.int (v : Nat))), some (.d (.int (u : Nat))), x10, x11, x12, some (.d (wsD (ws.set u y))), some (.d (oD om))]) (ev_var 7 rfl) (ev_var 8 rfl) (by rw [List.getElem?_map, en]; rfl)
          have v14 : Ev (mVar 14) [some (.d (.scr ns)), rowS none ns a b c, some (.d (.int n)), some (.d (.tup (as.map arcD))), some (.d (wsD ws)), some (.d (graphD n as)), some (.d (.int g)), some (.d (.lst (ds.map oD))), some (.d (.int (v : Nat))), some (.d (.int (u : Nat))), x10, x11, x12, some (.d (wsD (ws.set u y))), some (.d (oD om))] (oD om) := ev_var 14 rfl
          have nb : ∀ {p q : Bool}, Ev (mOp gNe (mOp gIsN (mVar 14) (mC .non)) (mOp gIsN (mOp gIx (mVar 7) (mVar 8)) (mC .non))) [some (.d (.scr ns)), rowS none ns a b c, some (.d (.int n)), some (.d (.tup (as.map arcD))), some (.d (wsD ws)), some (.d (graphD n as)), some (.d (.int g)), some (.d (.lst (ds.map oD))), some (.d (.int (v : Nat))), some (.d (.int (u : Nat))), x10, x11, x12, some (.d (wsD (ws.set u y))), some (.d (oD om))] (.bl (isN (oD om) != isN (oD on))) := ev_op (ev_isN v14) (ev_isN ixv) (by cases isN (oD om) <;> cases isN (oD on) <;> rfl)
          rw [ok_ifS]
          have fin : EvB (mOr (mTest (mOp gNe (mOp gIsN (mVar 14) (mC .non)) (mOp gIsN (mOp gIx (mVar 7) (mVar 8)) (mC .non)))) (mAnd (mTest (mOp gNotN (mVar 14) (mC .non))) (mTest (mOp gLt (mVar 14) (mOp gIx (mVar 7) (mVar 8)))))) [some (.d (.scr ns)), rowS none ns a b c, some (.d (.int n)), some (.d (.tup (as.map arcD))), some (.d (wsD ws)), some (.d (graphD n as)), some (.d (.int g)), some (.d (.lst (ds.map oD))), some (.d (.int (v : Nat))), some (.d (.int (u : Nat))), x10, x11, x12, some (.d (wsD (ws.set u y))), some (.d (oD om))] false := by
            cases om with
            | none =>
              have := m1.mp rfl
              subst this
              exact eb_or (p := false) (q := false) (eb_test (nb (p := true) (q := true))) fun _ => eb_and (p := false) (q := false) (eb_test (ev_notN v14)) fun z => (by cases z)
            | some k =>
              cases on with
              | none => cases m1.mpr rfl
              | some j =>
                have hjk := m2 j k rfl rfl
                refine eb_or (p := false) (q := false) (eb_test (nb (p := true) (q := true))) fun _ => eb_and (p := true) (q := false) (eb_test (ev_notN v14)) fun _ => ?_
                have := eb_test (ev_lt v14 ixv)
                rw [decide_eq_false (by omega)] at this
                exact this
          refine fin.ok ⟨fun n => (by cases n), fun _ => ?_⟩
          rw [ok_nx]
          exact ⟨fun _ => ⟨_, _, rfl⟩, fun n => (by cases n), fun s n => (by cases n)⟩
        · exact fun _ _ => ⟨rfl, trivial⟩
      · rw [ok_nx]
        exact ⟨rfl, trivial⟩
    rintro ρ _
    rw [ok_ret, ok_c]
    exact .inl ⟨_, rfl, rfl⟩
  rw [ok_eq] at key
  obtain ⟨s, ρ, e, rfl⟩ := R.OKr.at key
  exact ⟨ρ, e⟩
end Fx.K04

/-! the end of routeweb_k04_whole_cuts_of_distances -/
namespace Fx.K04
open PySem PySem.Spec PyProof.Rows L2
open C8 (Cal Mak pe_c pe_mk)
open LamX (Tabs TabS TabB ExtN CodeO codeO_ne)

abbrev s_p_nodes : Stmt := inClass (topS 14) 1
theorem sc_p_nodes : FnScope ["self"] ["self"] (defScope s_p_nodes) := ⟨rfl, rfl, rfl, by decide +kernel, rfl, by decide +kernel, by decide +kernel⟩
abbrev s_p_arcs : Stmt := inClass (topS 14) 2
theorem sc_p_arcs : FnScope ["self"] ["self"] (defScope s_p_arcs) := ⟨rfl, rfl, rfl, by decide +kernel, rfl, by decide +kernel, by decide +kernel⟩
/-- what is known of the text -/
def clsF (C0 : Addr) : String → Addr := fun n => if n = "Graph" then C0 else 0
def cfg (K : PySem.W.Frag) (C0 : Addr) (T : List (Addr × Str)) : Cfg := ⟨K, (clsF C0), fun n => if n = "Graph" then ["_nodes", "_arcs"] else [], T, fun _ _ _ _ => False, fun k => match k with
  | _ => lamQ "" noE⟩
section
theorem all_mk {l : PySem.W.OpenLaw} {w : World} {K : PySem.W.Frag} {h : Heap} {mg : Str → Option Value} {fa : Addr} (X : K.In h) (G : h.Ns mainGlobals mg) (hfa : mg "law" = some (.ref fa))
    {C0 : Addr} {f0 : Addr} {od0 an0 : Option Addr} {sl0 : Array (Option Value)} {oc0 kV0 dc0 pm0 cd0 ct0 : Value} {p1 : Addr} {q1 : List Value} {f1 : Addr} {od1 an1 : Option Addr} {sl1 : Array (Option Value)} {oc1 kV1 dc1 pm1 cd1 ct1 : Value} {p2 : Addr} {q2 : List Value} {f2 : Addr} {od2 an2 : Option Addr} {sl2 : Array (Option Value)} {oc2 kV2 dc2 pm2 cd2 ct2 : Value} {tk0 : Tok} {tk1 : Tok} {tk2 : Tok} {f3 : Addr} {od3 an3 : Option Addr} {sl3 : Array (Option Value)} {oc3 kV3 dc3 pm3 cd3 ct3 : Value} {f4 : Addr} {od4 an4 : Option Addr} {sl4 : Array (Option Value)} {oc4 kV4 dc4 pm4 cd4 ct4 : Value} {f5 : Addr} {od5 an5 : Option Addr} {sl5 : Array (Option Value)} {oc5 kV5 dc5 pm5 cd5 ct5 : Value} {f6 : Addr} {od6 an6 : Option Addr} {sl6 : Array (Option Value)} {oc6 kV6 dc6 pm6 cd6 ct6 : Value} {f7 : Addr} {od7 an7 : Option Addr} {sl7 : Array (Option Value)} {oc7 kV7 dc7 pm7 cd7 ct7 : Value} {f8 : Addr} {od8 an8 : Option Addr} {sl8 : Array (Option Value)} {oc8 kV8 dc8 pm8 cd8 ct8 : Value} {f9 : Addr} {od9 an9 : Option Addr} {sl9 : Array (Option Value)} {oc9 kV9 dc9 pm9 cd9 ct9 : Value} {f10 : Addr} {od10 an10 : Option Addr} {sl10 : Array (Option Value)} {oc10 kV10 dc10 pm10 cd10 ct10 : Value} {f11 : Addr} {od11 an11 : Option Addr} {sl11 : Array (Option Value)} {oc11 kV11 dc11 pm11 cd11 ct11 : Value} {f12 : Addr} {od12 an12 : Option Addr} {sl12 : Array (Option Value)} {oc12 kV12 dc12 pm12 cd12 ct12 : Value} {f13 : Addr} {od13 an13 : Option Addr} {sl13 : Array (Option Value)} {oc13 kV13 dc13 pm13 cd13 ct13 : Value} {f14 : Addr} {od14 an14 : Option Addr} {sl14 : Array (Option Value)} {oc14 kV14 dc14 pm14 cd14 ct14 : Value} {f15 : Addr} {od15 an15 : Option Addr} {sl15 : Array (Option Value)} {oc15 kV15 dc15 pm15 cd15 ct15 : Value} {f16 : Addr} {od16 an16 : Option Addr} {sl16 : Array (Option Value)} {oc16 kV16 dc16 pm16 cd16 ct16 : Value} {f17 : Addr} {od17 an17 : Option Addr} {sl17 : Array (Option Value)} {oc17 kV17 dc17 pm17 cd17 ct17 : Value} {f18 : Addr} {od18 an18 : Option Addr} {sl18 : Array (Option Value)} {oc18 kV18 dc18 pm18 cd18 ct18 : Value} {f19 : Addr} {od19 an19 : Option Addr} {sl19 : Array (Option Value)} {oc19 kV19 dc19 pm19 cd19 ct19 : Value} {f20 : Addr} {od20 an20 : Option Addr} {sl20 : Array (Option Value)} {oc20 kV20 dc20 pm20 cd20 ct20 : Value}
    (aC0 : PySem.W.nsIn K mainGlobals "Graph" = some (some (.ref C0)))
    (pg0C : PySem.W.plainGet K C0 Str.empty = true)
    (hd0C : PySem.W.hasDictIn K C0 = true)
    (po0C : PySem.W.plainOver K C0 = true)
    (sa0C : PySem.W.findIn K (.ref C0) "__setattr__" = some (some (.builtin "object.__setattr__")))
    (mk0C : PySem.W.makesIn K C0 = true)
    (kc0C : PySem.W.keepIn K (.ref C0) = true)
    (xa0C : PySem.W.findIn K (.ref C0) "__class__" = some (some (.builtin "object.__class__")))
    (xb0C : PySem.W.specialIn K (.builtin "object.__class__") "__get__" = some (some (.builtin "getset_descriptor.__get__")))
    (xc0C : PySem.W.takesIn K (.builtin "object.__class__") = some true)
    (xd0C : PySem.W.mroIn K C0 (.type "object") = some true)
    (n0_0 : PySem.W.findIn K (.ref C0) "_nodes" = some none)
    (n0_1 : PySem.W.findIn K (.ref C0) "_arcs" = some none)
    (a0 : PySem.W.findIn K (.ref C0) "__init__" = some (some (.ref f0)))
    (i0 : PySem.W.isFn K (.ref f0) = true)
    (l0 : K.lookup f0 = some ⟨oc0, od0, .func (PySem.W.fnOf "__init__" "Graph.__init__" (defArgs s_Graph_init) (defBody s_Graph_init) (defScope s_Graph_init) .none kV0 dc0 pm0 an0 cd0 ct0), sl0⟩)
    (c0 : PySem.W.codeIn K cd0 "Graph.__init__" = true)
    (k0 : PySem.W.keepIn K (.ref f0) = true)
    (a1 : PySem.W.findIn K (.ref C0) "nodes" = some (some (.ref p1)))
    (g1 : PySem.W.specialIn K (.ref p1) "__get__" = some (some (.builtin "property.__get__")))
    (t1 : PySem.W.takesIn K (.ref p1) = some true)
    (r1 : PySem.W.recIn K p1 "property" = some (.ref f1 :: q1))
    (l1 : K.lookup f1 = some ⟨oc1, od1, .func (PySem.W.fnOf "nodes" "Graph.nodes" (defArgs s_p_nodes) (defBody s_p_nodes) (defScope s_p_nodes) .none kV1 dc1 pm1 an1 cd1 ct1), sl1⟩)
    (c1 : PySem.W.codeIn K cd1 "Graph.nodes" = true)
    (k1 : PySem.W.keepIn K (.ref f1) = true)
    (a2 : PySem.W.findIn K (.ref C0) "arcs" = some (some (.ref p2)))
    (g2 : PySem.W.specialIn K (.ref p2) "__get__" = some (some (.builtin "property.__get__")))
    (t2 : PySem.W.takesIn K (.ref p2) = some true)
    (r2 : PySem.W.recIn K p2 "property" = some (.ref f2 :: q2))
    (l2 : K.lookup f2 = some ⟨oc2, od2, .func (PySem.W.fnOf "arcs" "Graph.arcs" (defArgs s_p_arcs) (defBody s_p_arcs) (defScope s_p_arcs) .none kV2 dc2 pm2 an2 cd2 ct2), sl2⟩)
    (c2 : PySem.W.codeIn K cd2 "Graph.arcs" = true)
    (k2 : PySem.W.keepIn K (.ref f2) = true)
    (m0 : PySem.W.nsIn K mainGlobals "MOST_ARCS" = some (some (Value.int 64 tk0)))
    (m1 : PySem.W.nsIn K mainGlobals "MOST_NODES" = some (some (Value.int 8 tk1)))
    (m2 : PySem.W.nsIn K mainGlobals "MOST_WEIGHT" = some (some (Value.int 100 tk2)))
    (z_all : PySem.W.nsIn K mainGlobals "all" = some none)
    (z_bool : PySem.W.nsIn K mainGlobals "bool" = some none)
    (z_enumerate : PySem.W.nsIn K mainGlobals "enumerate" = some none)
    (z_int : PySem.W.nsIn K mainGlobals "int" = some none)
    (z_isinstance : PySem.W.nsIn K mainGlobals "isinstance" = some none)
    (z_len : PySem.W.nsIn K mainGlobals "len" = some none)
    (z_list : PySem.W.nsIn K mainGlobals "list" = some none)
    (z_min : PySem.W.nsIn K mainGlobals "min" = some none)
    (z_range : PySem.W.nsIn K mainGlobals "range" = some none)
    (z_sorted : PySem.W.nsIn K mainGlobals "sorted" = some none)
    (z_str : PySem.W.nsIn K mainGlobals "str" = some none)
    (z_tuple : PySem.W.nsIn K mainGlobals "tuple" = some none)
    (z_zip : PySem.W.nsIn K mainGlobals "zip" = some none)
    (a3 : PySem.W.nsIn K mainGlobals "is_number" = some (some (.ref f3)))
    (l3 : K.lookup f3 = some ⟨oc3, od3, .func (PySem.W.fnOf "is_number" "is_number" (defArgs s_is_number) (defBody s_is_number) (defScope s_is_number) .none kV3 dc3 pm3 an3 cd3 ct3), sl3⟩)
    (c3 : PySem.W.codeIn K cd3 "is_number" = true)
    (k3 : PySem.W.keepIn K (.ref f3) = true)
    (a4 : PySem.W.nsIn K mainGlobals "is_tuple" = some (some (.ref f4)))
    (l4 : K.lookup f4 = some ⟨oc4, od4, .func (PySem.W.fnOf "is_tuple" "is_tuple" (defArgs s_is_tuple) (defBody s_is_tuple) (defScope s_is_tuple) .none kV4 dc4 pm4 an4 cd4 ct4), sl4⟩)
    (c4 : PySem.W.codeIn K cd4 "is_tuple" = true)
    (k4 : PySem.W.keepIn K (.ref f4) = true)
    (a5 : PySem.W.nsIn K mainGlobals "are_numbers" = some (some (.ref f5)))
    (l5 : K.lookup f5 = some ⟨oc5, od5, .func (PySem.W.fnOf "are_numbers" "are_numbers" (defArgs s_are_numbers) (defBody s_are_numbers) (defScope s_are_numbers) .none kV5 dc5 pm5 an5 cd5 ct5), sl5⟩)
    (c5 : PySem.W.codeIn K cd5 "are_numbers" = true)
    (k5 : PySem.W.keepIn K (.ref f5) = true)
    (a6 : PySem.W.nsIn K mainGlobals "_is_arc" = some (some (.ref f6)))
    (l6 : K.lookup f6 = some ⟨oc6, od6, .func (PySem.W.fnOf "_is_arc" "_is_arc" (defArgs s_is_arc) (defBody s_is_arc) (defScope s_is_arc) .none kV6 dc6 pm6 an6 cd6 ct6), sl6⟩)
    (c6 : PySem.W.codeIn K cd6 "_is_arc" = true)
    (k6 : PySem.W.keepIn K (.ref f6) = true)
    (a7 : PySem.W.nsIn K mainGlobals "check_graph" = some (some (.ref f7)))
    (l7 : K.lookup f7 = some ⟨oc7, od7, .func (PySem.W.fnOf "check_graph" "check_graph" (defArgs s_check_graph) (defBody s_check_graph) (defScope s_check_graph) .none kV7 dc7 pm7 an7 cd7 ct7), sl7⟩)
    (c7 : PySem.W.codeIn K cd7 "check_graph" = true)
    (k7 : PySem.W.keepIn K (.ref f7) = true)
    (a8 : PySem.W.nsIn K mainGlobals "check_node" = some (some (.ref f8)))
    (l8 : K.lookup f8 = some ⟨oc8, od8, .func (PySem.W.fnOf "check_node" "check_node" (defArgs s_check_node) (defBody s_check_node) (defScope s_check_node) .none kV8 dc8 pm8 an8 cd8 ct8), sl8⟩)
    (c8 : PySem.W.codeIn K cd8 "check_node" = true)
    (k8 : PySem.W.keepIn K (.ref f8) = true)
    (a9 : PySem.W.nsIn K mainGlobals "check_weights" = some (some (.ref f9)))
    (l9 : K.lookup f9 = some ⟨oc9, od9, .func (PySem.W.fnOf "check_weights" "check_weights" (defArgs s_check_weights) (defBody s_check_weights) (defScope s_check_weights) .none kV9 dc9 pm9 an9 cd9 ct9), sl9⟩)
    (c9 : PySem.W.codeIn K cd9 "check_weights" = true)
    (k9 : PySem.W.keepIn K (.ref f9) = true)
    (a10 : PySem.W.nsIn K mainGlobals "check_weighted" = some (some (.ref f10)))
    (l10 : K.lookup f10 = some ⟨oc10, od10, .func (PySem.W.fnOf "check_weighted" "check_weighted" (defArgs s_check_weighted) (defBody s_check_weighted) (defScope s_check_weighted) .none kV10 dc10 pm10 an10 cd10 ct10), sl10⟩)
    (c10 : PySem.W.codeIn K cd10 "check_weighted" = true)
    (k10 : PySem.W.keepIn K (.ref f10) = true)
    (a11 : PySem.W.nsIn K mainGlobals "distances_to" = some (some (.ref f11)))
    (l11 : K.lookup f11 = some ⟨oc11, od11, .func (PySem.W.fnOf "distances_to" "distances_to" (defArgs s_distances_to) (defBody s_distances_to) (defScope s_distances_to) .none kV11 dc11 pm11 an11 cd11 ct11), sl11⟩)
    (c11 : PySem.W.codeIn K cd11 "distances_to" = true)
    (k11 : PySem.W.keepIn K (.ref f11) = true)
    (a12 : PySem.W.nsIn K mainGlobals "nearest_heads" = some (some (.ref f12)))
    (l12 : K.lookup f12 = some ⟨oc12, od12, .func (PySem.W.fnOf "nearest_heads" "nearest_heads" (defArgs s_nearest_heads) (defBody s_nearest_heads) (defScope s_nearest_heads) .none kV12 dc12 pm12 an12 cd12 ct12), sl12⟩)
    (c12 : PySem.W.codeIn K cd12 "nearest_heads" = true)
    (k12 : PySem.W.keepIn K (.ref f12) = true)
    (a13 : PySem.W.nsIn K mainGlobals "distance" = some (some (.ref f13)))
    (l13 : K.lookup f13 = some ⟨oc13, od13, .func (PySem.W.fnOf "distance" "distance" (defArgs s_distance) (defBody s_distance) (defScope s_distance) .none kV13 dc13 pm13 an13 cd13 ct13), sl13⟩)
    (c13 : PySem.W.codeIn K cd13 "distance" = true)
    (k13 : PySem.W.keepIn K (.ref f13) = true)
    (a14 : PySem.W.nsIn K mainGlobals "next_hops" = some (some (.ref f14)))
    (l14 : K.lookup f14 = some ⟨oc14, od14, .func (PySem.W.fnOf "next_hops" "next_hops" (defArgs s_next_hops) (defBody s_next_hops) (defScope s_next_hops) .none kV14 dc14 pm14 an14 cd14 ct14), sl14⟩)
    (c14 : PySem.W.codeIn K cd14 "next_hops" = true)
    (k14 : PySem.W.keepIn K (.ref f14) = true)
    (a15 : PySem.W.nsIn K mainGlobals "_law_taken" = some (some (.ref f15)))
    (l15 : K.lookup f15 = some ⟨oc15, od15, .func (PySem.W.fnOf "_law_taken" "_law_taken" (defArgs s_law_taken) (defBody s_law_taken) (defScope s_law_taken) .none kV15 dc15 pm15 an15 cd15 ct15), sl15⟩)
    (c15 : PySem.W.codeIn K cd15 "_law_taken" = true)
    (k15 : PySem.W.keepIn K (.ref f15) = true)
    (a16 : PySem.W.nsIn K mainGlobals "_law_pick" = some (some (.ref f16)))
    (l16 : K.lookup f16 = some ⟨oc16, od16, .func (PySem.W.fnOf "_law_pick" "_law_pick" (defArgs s_law_pick) (defBody s_law_pick) (defScope s_law_pick) .none kV16 dc16 pm16 an16 cd16 ct16), sl16⟩)
    (c16 : PySem.W.codeIn K cd16 "_law_pick" = true)
    (k16 : PySem.W.keepIn K (.ref f16) = true)
    (a17 : PySem.W.nsIn K mainGlobals "_law_alike" = some (some (.ref f17)))
    (l17 : K.lookup f17 = some ⟨oc17, od17, .func (PySem.W.fnOf "_law_alike" "_law_alike" (defArgs s_law_alike) (defBody s_law_alike) (defScope s_law_alike) .none kV17 dc17 pm17 an17 cd17 ct17), sl17⟩)
    (c17 : PySem.W.codeIn K cd17 "_law_alike" = true)
    (k17 : PySem.W.keepIn K (.ref f17) = true)
    (a18 : PySem.W.nsIn K mainGlobals "_law_arcs" = some (some (.ref f18)))
    (l18 : K.lookup f18 = some ⟨oc18, od18, .func (PySem.W.fnOf "_law_arcs" "_law_arcs" (defArgs s_law_arcs) (defBody s_law_arcs) (defScope s_law_arcs) .none kV18 dc18 pm18 an18 cd18 ct18), sl18⟩)
    (c18 : PySem.W.codeIn K cd18 "_law_arcs" = true)
    (k18 : PySem.W.keepIn K (.ref f18) = true)
    (a19 : PySem.W.nsIn K mainGlobals "_law_graph" = some (some (.ref f19)))
    (l19 : K.lookup f19 = some ⟨oc19, od19, .func (PySem.W.fnOf "_law_graph" "_law_graph" (defArgs s_law_graph) (defBody s_law_graph) (defScope s_law_graph) .none kV19 dc19 pm19 an19 cd19 ct19), sl19⟩)
    (c19 : PySem.W.codeIn K cd19 "_law_graph" = true)
    (k19 : PySem.W.keepIn K (.ref f19) = true)
    (a20 : PySem.W.nsIn K mainGlobals "law" = some (some (.ref f20)))
    (l20 : K.lookup f20 = some ⟨oc20, od20, .func (PySem.W.fnOf "law" "law" (defArgs s_law) (defBody s_law) (defScope s_law) .none kV20 dc20 pm20 an20 cd20 ct20), sl20⟩)
    (c20 : PySem.W.codeIn K cd20 "law" = true)
    (k20 : PySem.W.keepIn K (.ref f20) = true) :
    LamX.LawAtS l w K CX0 8 63 "script" mg fa h := by
  have e := hfa.symm.trans (PySem.W.mg_of X G a20)
  cases e
  have cl0 : Cls K C0 := ⟨pg0C, hd0C, po0C, sa0C⟩
  have gC0 := PySem.W.mg_of X G aC0
  have F0 := fun_mk (st := s_Graph_init) l0 c0 k0
  have b0 := F0.binds (ps := ["self", "size", "arcs"]) fun _ _ _ _ _ _ us hl => match us, hl with | [_, _, _], _ => rfl
  have F1 := fun_mk (st := s_p_nodes) l1 c1 k1
  have b1 := F1.binds (ps := ["self"]) fun _ _ _ _ _ _ us hl => match us, hl with | [_], _ => rfl
  have F2 := fun_mk (st := s_p_arcs) l2 c2 k2
  have b2 := F2.binds (ps := ["self"]) fun _ _ _ _ _ _ us hl => match us, hl with | [_], _ => rfl
  have F3 := fun_mk (st := s_is_number) l3 c3 k3
  have b3 := F3.binds (ps := ["value", "low", "high"]) fun _ _ _ _ _ _ us hl => match us, hl with | [_, _, _], _ => rfl
  have F4 := fun_mk (st := s_is_tuple) l4 c4 k4
  have b4 := F4.binds (ps := ["value", "least", "most"]) fun _ _ _ _ _ _ us hl => match us, hl with | [_, _, _], _ => rfl
  have F5 := fun_mk (st := s_are_numbers) l5 c5 k5
  have b5 := F5.binds (ps := ["value", "low", "high"]) fun _ _ _ _ _ _ us hl => match us, hl with | [_, _, _], _ => rfl
  have F6 := fun_mk (st := s_is_arc) l6 c6 k6
  have b6 := F6.binds (ps := ["size", "value"]) fun _ _ _ _ _ _ us hl => match us, hl with | [_, _], _ => rfl
  have F7 := fun_mk (st := s_check_graph) l7 c7 k7
  have b7 := F7.binds (ps := ["graph"]) fun _ _ _ _ _ _ us hl => match us, hl with | [_], _ => rfl
  have F8 := fun_mk (st := s_check_node) l8 c8 k8
  have b8 := F8.binds (ps := ["graph", "node"]) fun _ _ _ _ _ _ us hl => match us, hl with | [_, _], _ => rfl
  have F9 := fun_mk (st := s_check_weights) l9 c9 k9
  have b9 := F9.binds (ps := ["graph", "weights"]) fun _ _ _ _ _ _ us hl => match us, hl with | [_, _], _ => rfl
  have F10 := fun_mk (st := s_check_weighted) l10 c10 k10
  have b10 := F10.binds (ps := ["graph", "weights", "nodes"]) fun _ _ _ _ _ _ us hl => match us, hl with | [_, _, _], _ => rfl
  have F11 := fun_mk (st := s_distances_to) l11 c11 k11
  have b11 := F11.binds (ps := ["graph", "weights", "goal"]) fun _ _ _ _ _ _ us hl => match us, hl with | [_, _, _], _ => rfl
  have F12 := fun_mk (st := s_nearest_heads) l12 c12 k12
  have b12 := F12.binds (ps := ["graph", "weights", "goal"]) fun _ _ _ _ _ _ us hl => match us, hl with | [_, _, _], _ => rfl
  have F13 := fun_mk (st := s_distance) l13 c13 k13
  have b13 := F13.binds (ps := ["graph", "weights", "node", "goal"]) fun _ _ _ _ _ _ us hl => match us, hl with | [_, _, _, _], _ => rfl
  have F14 := fun_mk (st := s_next_hops) l14 c14 k14
  have b14 := F14.binds (ps := ["graph", "weights", "node", "goal"]) fun _ _ _ _ _ _ us hl => match us, hl with | [_, _, _, _], _ => rfl
  have F15 := fun_mk (st := s_law_taken) l15 c15 k15
  have b15 := F15.binds (ps := ["row", "many"]) fun _ _ _ _ _ _ us hl => match us, hl with | [_, _], _ => rfl
  have F16 := fun_mk (st := s_law_pick) l16 c16 k16
  have b16 := F16.binds (ps := ["row", "things"]) fun _ _ _ _ _ _ us hl => match us, hl with | [_, _], _ => rfl
  have F17 := fun_mk (st := s_law_alike) l17 c17 k17
  have b17 := F17.binds (ps := ["found", "due"]) fun _ _ _ _ _ _ us hl => match us, hl with | [_, _], _ => rfl
  have F18 := fun_mk (st := s_law_arcs) l18 c18 k18
  have b18 := F18.binds (ps := ["row", "size", "dense"]) fun _ _ _ _ _ _ us hl => match us, hl with | [_, _, _], _ => rfl
  have F19 := fun_mk (st := s_law_graph) l19 c19 k19
  have b19 := F19.binds (ps := ["row", "most"]) fun _ _ _ _ _ _ us hl => match us, hl with | [_, _], _ => rfl
  have F20 := fun_mk (st := s_law) l20 c20 k20
  refine ⟨PySem.W.fnOf "law" "law" (defArgs s_law) (defBody s_law) (defScope s_law) .none kV20 dc20 pm20 an20 cd20 ct20, [], spLawX (cfg K C0 []), fun p hp => by simp at hp, fun p hp => by simp at hp, fun p hp => by simp at hp, fun s v => .of_eq rfl, fun H a ns hl hz hT hS => ⟨a, ns, rfl, hl, hS, fun p hp => by simp [cfg] at hp, fun _ => rfl⟩, fun base _ _ hB => ?_⟩
  have hC0 : (cfg K C0 []).cls "Graph" = C0 := by
    show (if ("Graph" : String) = "Graph" then C0 else (0 : Addr)) = C0
    exact if_pos rfl
  have hf0 : (cfg K C0 []).flds "Graph" = (["_nodes", "_arcs"] : List Str) := by
    show (if ("Graph" : String) = "Graph" then (["_nodes", "_arcs"] : List Str) else ([] : List Str)) = (["_nodes", "_arcs"] : List Str)
    exact if_pos rfl
  have FL0_0 : FldOk (cfg K C0 []) "Graph" "_nodes" 0 := ⟨by rw [hC0]; exact cl0, by rw [hC0]; exact n0_0, by rw [hf0]; rfl, by rw [hf0]; decide⟩
  have FL0_1 : FldOk (cfg K C0 []) "Graph" "_arcs" 1 := ⟨by rw [hC0]; exact cl0, by rw [hC0]; exact n0_1, by rw [hf0]; rfl, by rw [hf0]; decide⟩
  have T : Tx l.prog w (cfg K C0 []) mg base := {
    b_all := PySem.W.mg_none_of X G z_all,
    b_bool := PySem.W.mg_none_of X G z_bool,
    b_enumerate := PySem.W.mg_none_of X G z_enumerate,
    b_int := PySem.W.mg_none_of X G z_int,
    b_isinstance := PySem.W.mg_none_of X G z_isinstance,
    b_len := PySem.W.mg_none_of X G z_len,
    b_list := PySem.W.mg_none_of X G z_list,
    b_min := PySem.W.mg_none_of X G z_min,
    b_range := PySem.W.mg_none_of X G z_range,
    b_sorted := PySem.W.mg_none_of X G z_sorted,
    b_str := PySem.W.mg_none_of X G z_str,
    b_tuple := PySem.W.mg_none_of X G z_tuple,
    b_zip := PySem.W.mg_none_of X G z_zip,
    c_MOST_ARCS := ⟨_, PySem.W.mg_of X G m0⟩,
    c_MOST_NODES := ⟨_, PySem.W.mg_of X G m1⟩,
    c_MOST_WEIGHT := ⟨_, PySem.W.mg_of X G m2⟩,
    f_Graph_nodes := FL0_0,
    f_Graph_arcs := FL0_1,
    l_Graph := by rw [hf0]; decide,
    n_Graph := by rw [hf0]; rfl,
    i_Graph := ⟨by rw [hC0]; exact cl0, by rw [hC0]; exact xa0C, xb0C, xc0C, by rw [hC0]; exact xd0C, if_pos (beq_self_eq_true _)⟩,
    g_Graph := by rw [hC0]; exact gC0,
    p_Graph_nodes := ⟨FL0_0, p1, f1, _, _, by rw [hC0]; exact ⟨a1, g1, t1, ⟨_, r1⟩⟩, by rw [hC0]; exact fn_getter l1 c1 sc_p_nodes rfl rfl cl0 n0_0, b1⟩,
    p_Graph_arcs := ⟨FL0_1, p2, f2, _, _, by rw [hC0]; exact ⟨a2, g2, t2, ⟨_, r2⟩⟩, by rw [hC0]; exact fn_getter l2 c2 sc_p_arcs rfl rfl cl0 n0_1, b2⟩}
  have C_is_number : Cal l.prog w K mg base 1 "is_number" (spF (cfg K C0 []) f_is_number) [] := cal_mk F3 (PySem.W.mg_of X G a3) b3 (ok_is_number T F3 )
  have C_is_tuple : Cal l.prog w K mg base 1 "is_tuple" (spF (cfg K C0 []) f_is_tuple) [] := cal_mk F4 (PySem.W.mg_of X G a4) b4 (ok_is_tuple T F4 )
  have C_are_numbers : Cal l.prog w K mg base 2 "are_numbers" (spF (cfg K C0 []) f_are_numbers) [] := cal_mk F5 (PySem.W.mg_of X G a5) b5 (ok_are_numbers T F5 C_is_number)
  have C_is_arc : Cal l.prog w K mg base 3 "_is_arc" (spF (cfg K C0 []) f_is_arc) [] := cal_mk F6 (PySem.W.mg_of X G a6) b6 (ok_is_arc T F6 C_are_numbers)
  have C_check_graph : Cal l.prog w K mg base 1 "check_graph" (spF (cfg K C0 []) f_check_graph) [] := cal_mk F7 (PySem.W.mg_of X G a7) b7 (ok_check_graph T F7 )
  have C_check_node : Cal l.prog w K mg base 3 "check_node" (spF (cfg K C0 []) f_check_node) [] := cal_mk F8 (PySem.W.mg_of X G a8) b8 (ok_check_node T F8 C_is_number)
  have C_check_weights : Cal l.prog w K mg base 3 "check_weights" (spF (cfg K C0 []) f_check_weights) [] := cal_mk F9 (PySem.W.mg_of X G a9) b9 (ok_check_weights T F9 C_is_number C_is_tuple)
  have C_check_weighted : Cal l.prog w K mg base 4 "check_weighted" (spF (cfg K C0 []) f_check_weighted) [] := cal_mk F10 (PySem.W.mg_of X G a10) b10 (ok_check_weighted T F10 C_check_graph C_check_node C_check_weights)
  have C_distances_to : Cal l.prog w K mg base 3 "distances_to" (spF (cfg K C0 []) f_distances_to) [] := cal_mk F11 (PySem.W.mg_of X G a11) b11 (ok_distances_to T F11 )
  have C_nearest_heads : Cal l.prog w K mg base 4 "nearest_heads" (spF (cfg K C0 []) f_nearest_heads) [] := cal_mk F12 (PySem.W.mg_of X G a12) b12 (ok_nearest_heads T F12 C_distances_to)
  have C_distance : Cal l.prog w K mg base 5 "distance" (spF (cfg K C0 []) f_distance) [] := cal_mk F13 (PySem.W.mg_of X G a13) b13 (ok_distance T F13 C_check_weighted C_distances_to)
  have C_next_hops : Cal l.prog w K mg base 5 "next_hops" (spF (cfg K C0 []) f_next_hops) [] := cal_mk F14 (PySem.W.mg_of X G a14) b14 (ok_next_hops T F14 C_check_weighted C_nearest_heads)
  have C_law_taken : Cal l.prog w K mg base 1 "_law_taken" (spF (cfg K C0 []) f_law_taken) [] := cal_mk F15 (PySem.W.mg_of X G a15) b15 (ok_law_taken T F15 )
  have C_law_pick : Cal l.prog w K mg base 2 "_law_pick" (spF (cfg K C0 []) f_law_pick) [] := cal_mk F16 (PySem.W.mg_of X G a16) b16 (ok_law_pick T F16 C_law_taken)
  have C_law_alike : Cal l.prog w K mg base 7 "_law_alike" (spF (cfg K C0 []) (f_law_alike 6)) [] := cal_mk F17 (PySem.W.mg_of X G a17) b17 (ok_law_alike T F17 (PySem.W.mg_of X G a17) b17  6)
  have C_law_arcs : Cal l.prog w K mg base 2 "_law_arcs" (spF (cfg K C0 []) f_law_arcs) [] := cal_mk F18 (PySem.W.mg_of X G a18) b18 (ok_law_arcs T F18 C_law_taken)
  have C_law_graph : Cal l.prog w K mg base 3 "_law_graph" (spF (cfg K C0 []) f_law_graph) [] := cal_mk F19 (PySem.W.mg_of X G a19) b19 (ok_law_graph T F19 C_law_taken C_law_pick C_law_arcs)
  have M_Graph : Mak l.prog w K mg base 4 "Graph" ((cfg K C0 []).cls "Graph") (spF (cfg K C0 []) f_Graph_init) [] := by rw [hC0]; exact ⟨f0, _, _, [], ⟨mk0C, a0, i0, kc0C⟩, ok_Graph_init T F0 C_is_number C_is_tuple C_is_arc, gC0, b0, .nil⟩
  exact law_ok law_pure (ok_law T F20 C_distance C_next_hops C_law_taken C_law_alike C_law_graph M_Graph)
theorem walk {l : PySem.W.OpenLaw} {q : Program} {loose : List Str} {XP : (Str → Option Value) → Heap → Prop} {YP : World → Heap → Prop} {d : DefRec} {K : Params → PySem.W.Frag} (hn : l.most = some 63) (hdf : d.params.defaults = [])
    (hY : ∀ (w : World) (h : Heap), YP w h → (K w.params).In h)
    (F : ∀ (w : World) (mg : Str → Option Value) (fa : Addr) (h : Heap), YP w h → (K w.params).In h → h.Ns mainGlobals mg → mg d.name = some (.ref fa) → LamX.LawAtS l w (K w.params) CX0 8 63 "script" mg fa h) :
    PySem.W.WalkO q loose XP YP l.row.toRowW d [] (fun f vs => PySem.call f vs) :=
  LamX.walk_ofTs (n := 63) (k := 8) (x := "script") (CX := fun _ => CX0) hn (by decide) hdf ⟨rfl, by decide, by decide⟩ hY F fun _ _ _ _ _ z => z
end
end Fx.K04

open PySem PySem.W PyProof.Rows in
set_option maxRecDepth 100000 in
set_option maxHeartbeats 0 in
theorem PySem.Challenge.cw_routeweb_k04_whole_cuts_of_distances_holds : PySem.Challenge.rw_routeweb_k04_whole_cuts_of_distances.Holds := by
  w_on; o_law; k_head; (case hw => w_witness2)
  k_fill
  refine Fx.K04.walk (l := PySem.Challenge.rw_routeweb_k04_whole_cuts_of_distances) rfl rfl (fun w h Y => PySem.W.kIn_of Y) ?F
  case F =>
    intro w mg fa h Y KX G hmg
    skip
    refine' Fx.K04.all_mk KX G hmg ?aC0 ?pg0C ?hd0C ?po0C ?sa0C ?mk0C ?kc0C ?xa0C ?xb0C ?xc0C ?xd0C ?n0_0 ?n0_1 ?a0 ?i0 ?l0 ?c0 ?k0 ?a1 ?g1 ?t1 ?r1 ?l1 ?c1 ?k1 ?a2 ?g2 ?t2 ?r2 ?l2 ?c2 ?k2 ?m0 ?m1 ?m2 ?z_all ?z_bool ?z_enumerate ?z_int ?z_isinstance ?z_len ?z_list ?z_min ?z_range ?z_sorted ?z_str ?z_tuple ?z_zip ?a3 ?l3 ?c3 ?k3 ?a4 ?l4 ?c4 ?k4 ?a5 ?l5 ?c5 ?k5 ?a6 ?l6 ?c6 ?k6 ?a7 ?l7 ?c7 ?k7 ?a8 ?l8 ?c8 ?k8 ?a9 ?l9 ?c9 ?k9 ?a10 ?l10 ?c10 ?k10 ?a11 ?l11 ?c11 ?k11 ?a12 ?l12 ?c12 ?k12 ?a13 ?l13 ?c13 ?k13 ?a14 ?l14 ?c14 ?k14 ?a15 ?l15 ?c15 ?k15 ?a16 ?l16 ?c16 ?k16 ?a17 ?l17 ?c17 ?k17 ?a18 ?l18 ?c18 ?k18 ?a19 ?l19 ?c19 ?k19 ?a20 ?l20 ?c20 ?k20
    (case aC0 => k_is)
    (case pg0C => k_is)
    (case hd0C => k_is)
    (case po0C => k_is)
    (case sa0C => k_is)
    (case mk0C => k_is)
    (case kc0C => k_is)
    (case xa0C => k_is)
    (case xb0C => k_is)
    (case xc0C => k_is)
    (case xd0C => k_is)
    (case n0_0 => k_is)
    (case n0_1 => k_is)
    (case a0 => k_is)
    (case i0 => k_is)
    (case l0 => k_is)
    (case c0 => k_is)
    (case k0 => k_is)
    (case a1 => k_is)
    (case g1 => k_is)
    (case t1 => k_is)
    (case r1 => k_is)
    (case l1 => k_is)
    (case c1 => k_is)
    (case k1 => k_is)
    (case a2 => k_is)
    (case g2 => k_is)
    (case t2 => k_is)
    (case r2 => k_is)
    (case l2 => k_is)
    (case c2 => k_is)
    (case k2 => k_is)
    (case m0 => k_is)
    (case m1 => k_is)
    (case m2 => k_is)
    (case z_all => k_is)
    (case z_bool => k_is)
    (case z_enumerate => k_is)
    (case z_int => k_is)
    (case z_isinstance => k_is)
    (case z_len => k_is)
    (case z_list => k_is)
    (case z_min => k_is)
    (case z_range => k_is)
    (case z_sorted => k_is)
    (case z_str => k_is)
    (case z_tuple => k_is)
    (case z_zip => k_is)
    (case a3 => k_is)
    (case l3 => k_is)
    (case c3 => k_is)
    (case k3 => k_is)
    (case a4 => k_is)
    (case l4 => k_is)
    (case c4 => k_is)
    (case k4 => k_is)
    (case a5 => k_is)
    (case l5 => k_is)
    (case c5 => k_is)
    (case k5 => k_is)
    (case a6 => k_is)
    (case l6 => k_is)
    (case c6 => k_is)
    (case k6 => k_is)
    (case a7 => k_is)
    (case l7 => k_is)
    (case c7 => k_is)
    (case k7 => k_is)
    (case a8 => k_is)
    (case l8 => k_is)
    (case c8 => k_is)
    (case k8 => k_is)
    (case a9 => k_is)
    (case l9 => k_is)
    (case c9 => k_is)
    (case k9 => k_is)
    (case a10 => k_is)
    (case l10 => k_is)
    (case c10 => k_is)
    (case k10 => k_is)
    (case a11 => k_is)
    (case l11 => k_is)
    (case c11 => k_is)
    (case k11 => k_is)
    (case a12 => k_is)
    (case l12 => k_is)
    (case c12 => k_is)
    (case k12 => k_is)
    (case a13 => k_is)
    (case l13 => k_is)
    (case c13 => k_is)
    (case k13 => k_is)
    (case a14 => k_is)
    (case l14 => k_is)
    (case c14 => k_is)
    (case k14 => k_is)
    (case a15 => k_is)
    (case l15 => k_is)
    (case c15 => k_is)
    (case k15 => k_is)
    (case a16 => k_is)
    (case l16 => k_is)
    (case c16 => k_is)
    (case k16 => k_is)
    (case a17 => k_is)
    (case l17 => k_is)
    (case c17 => k_is)
    (case k17 => k_is)
    (case a18 => k_is)
    (case l18 => k_is)
    (case c18 => k_is)
    (case k18 => k_is)
    (case a19 => k_is)
    (case l19 => k_is)
    (case c19 => k_is)
    (case k19 => k_is)
    (case a20 => k_is)
    (case l20 => k_is)
    (case c20 => k_is)
    (case k20 => k_is)
