import PyProof.Rows.All
import Wide.All
import OpenK.AllK
import Wide.FinOn
import KE.GoesEnum
import HandS.ForMost
import HandS.Walk
import HandS.Codes
import HandS.IsInst
import HandS.SortInts
import HandS.Strs
import HandS.SetFor
import HandS.Property
import HandS.TupMul
import HandS.TupAny
import HandS.Style
import HandS.Lambda
import HandS.Words
import PySem.Challenge.RW_routeweb_k09_whole_lexicographic_product
import HandS.Conv
set_option Elab.async false
set_option linter.all false
set_option maxRecDepth 100000
set_option maxHeartbeats 8000000
/-! what stays, data, rules of our own -/
namespace Rw
open PySem PySem.Spec PyProof.Rows L2

/-! ### what stays -/
/-- an object that nobody changes -/
def Fixed : HO → Prop
  | .tup _ => True
  | .frz _ _ => True
  | .ins _ _ _ => True
  | _ => False
def Stay (H H' : Hp) : Prop := ∀ a o, Fixed o → H a = some o → H' a = some o
theorem Stay.refl (H : Hp) : Stay H H := fun _ _ _ h => h
theorem Stay.trans {H H1 H2 : Hp} (p : Stay H H1) (q : Stay H1 H2) : Stay H H2 := fun a o f h => q a o f (p a o f h)
theorem Stay.same {H H' : Hp} (p : Same H H') : Stay H H' := fun a o _ h => p a o h
theorem Stay.new {H : Hp} {p : Addr} {o : HO} (h : H p = none) : Stay H (upd H p o) := fun a u _ e => by
  rw [upd_ne (ne_of_none e h)]
  exact e
theorem Stay.put {H : Hp} {p : Addr} {u o : HO} (h : H p = some u) (n : ¬ Fixed u) : Stay H (upd H p o) := fun a v f e => by
  have : a ≠ p := fun z => by
    rw [z, h] at e
    cases e
    exact n f
  rw [upd_ne this]
  exact e
theorem Same.new {H : Hp} {p : Addr} {o : HO} (h : H p = none) : Same H (upd H p o) := fun a u e => by
  rw [upd_ne (ne_of_none e h)]
  exact e
/-- all but what stands at r -/
def Ext (r : Addr) (H H' : Hp) : Prop := ∀ a o, a ≠ r → H a = some o → H' a = some o
theorem Ext.refl (r : Addr) (H : Hp) : Ext r H H := fun _ _ _ h => h
theorem Ext.trans {r : Addr} {H H1 H2 : Hp} (p : Ext r H H1) (q : Ext r H1 H2) : Ext r H H2 := fun a o n h => q a o n (p a o n h)
theorem Ext.same {r : Addr} {H H' : Hp} (p : Same H H') : Ext r H H' := fun a o _ h => p a o h
theorem Ext.put {r : Addr} {H : Hp} {o : HO} : Ext r H (upd H r o) := fun a u n e => by
  rw [upd_ne n]
  exact e
theorem Ext.stay {r : Addr} {H H' : Hp} {u : HO} (p : Ext r H H') (h : H r = some u) (n : ¬ Fixed u) : Stay H H' := fun a o f e =>
  p a o (fun z => by
    rw [z, h] at e
    cases e
    exact n f) e
theorem Ext.free {r p : Addr} {H H' : Hp} (x : Ext r H H') (n : p ≠ r) (h : H' p = none) : H p = none := by
  cases q : H p with
  | none => rfl
  | some o =>
    rw [x p o n q] at h
    cases h

/-! ### data -/
mutual
def flatL : PyData → Bool
  | .list _ => false
  | .dict _ => false
  | .tuple ds => flatLs ds
  | _ => true
def flatLs : List PyData → Bool
  | [] => true
  | d :: ds => flatL d && flatLs ds
end
theorem SqT.stay {K : PySem.W.Frag} {H H' : Hp} {a : Addr} {xs : List V} (s : Stay H H') (h : SqT K H a xs) : SqT K H' a xs := by
  rcases h with (h | ⟨o, h⟩) | h
  · exact .inl (.inl (s a _ trivial h))
  · exact .inl (.inr ⟨o, s a _ trivial h⟩)
  · exact .inr h
theorem SqT.sameT {K : PySem.W.Frag} {H H' : Hp} {a : Addr} {xs : List V} (s : Same H H') (h : SqT K H a xs) : SqT K H' a xs := SqT.stay (Stay.same s) h
mutual
theorem Dp.stay {K : PySem.W.Frag} {H H' : Hp} (s : Stay H H') : ∀ {v : V} {d : PyData}, Dp K H v d → flatL d = true → Dp K H' v d
  | _, _, .non, _ => .non
  | _, _, .bl b, _ => .bl b
  | _, _, .int i, _ => .int i
  | _, _, .str x, _ => .str x
  | _, _, .lst _ _, f => by simp [flatL] at f
  | _, _, .tup h k, f => .tup (SqT.stay s h) (DpAll.stay s k (by simpa [flatL] using f))
theorem DpAll.stay {K : PySem.W.Frag} {H H' : Hp} (s : Stay H H') : ∀ {vs : List V} {ds : List PyData}, DpAll K H vs ds → flatLs ds = true → DpAll K H' vs ds
  | _, _, .nil, _ => .nil
  | _, _, .cons h k, f => by
    simp only [flatLs, Bool.and_eq_true] at f
    exact .cons (Dp.stay s h f.1) (DpAll.stay s k f.2)
end
mutual
theorem Dp.sameD {K : PySem.W.Frag} {H H' : Hp} (s : Same H H') : ∀ {v : V} {d : PyData}, Dp K H v d → Dp K H' v d
  | _, _, .non => .non
  | _, _, .bl b => .bl b
  | _, _, .int i => .int i
  | _, _, .str x => .str x
  | _, _, .lst h k => .lst (Same.seq s h) (DpAll.sameD s k)
  | _, _, .tup h k => .tup (SqT.sameT s h) (DpAll.sameD s k)
theorem DpAll.sameD {K : PySem.W.Frag} {H H' : Hp} (s : Same H H') : ∀ {vs : List V} {ds : List PyData}, DpAll K H vs ds → DpAll K H' vs ds
  | _, _, .nil => .nil
  | _, _, .cons h k => .cons (Dp.sameD s h) (DpAll.sameD s k)
end
theorem DpAll.length {K : PySem.W.Frag} {H : Hp} : ∀ {vs : List V} {ds : List PyData}, DpAll K H vs ds → vs.length = ds.length
  | _, _, .nil => rfl
  | _, _, .cons _ k => by rw [List.length_cons, List.length_cons, DpAll.length k]
theorem DpAll.get {K : PySem.W.Frag} {H : Hp} : ∀ {vs : List V} {ds : List PyData} {i : Nat} {d : PyData}, DpAll K H vs ds → ds[i]? = some d → ∃ v, vs[i]? = some v ∧ Dp K H v d
  | _, _, _, _, .nil, e => by simp at e
  | _, _, 0, _, .cons h _, e => by simp at e; subst e; exact ⟨_, rfl, h⟩
  | _, _, i + 1, _, .cons _ k, e => by
    obtain ⟨v, e1, e2⟩ := DpAll.get (i := i) k (by simpa using e)
    exact ⟨v, by simpa using e1, e2⟩
theorem DpAll.getV {K : PySem.W.Frag} {H : Hp} : ∀ {vs : List V} {ds : List PyData} {i : Nat} {v : V}, DpAll K H vs ds → vs[i]? = some v → ∃ d, ds[i]? = some d ∧ Dp K H v d
  | _, _, _, _, .nil, e => by simp at e
  | _, _, 0, _, .cons h _, e => by simp at e; subst e; exact ⟨_, rfl, h⟩
  | _, _, i + 1, _, .cons _ k, e => by
    obtain ⟨d, e1, e2⟩ := DpAll.getV (i := i) k (by simpa using e)
    exact ⟨d, by simpa using e1, e2⟩
theorem DpAll.app {K : PySem.W.Frag} {H : Hp} : ∀ {vs ws : List V} {ds es : List PyData}, DpAll K H vs ds → DpAll K H ws es → DpAll K H (vs ++ ws) (ds ++ es)
  | _, _, _, _, .nil, q => q
  | _, _, _, _, .cons h k, q => .cons h (DpAll.app k q)
theorem Dp.tupE {K : PySem.W.Frag} {H : Hp} {v : V} {ds : List PyData} (h : Dp K H v (.tuple ds)) : ∃ a xs, v = .ref a ∧ SqT K H a xs ∧ DpAll K H xs ds := by
  cases h with
  | tup h k => exact ⟨_, _, rfl, h, k⟩
theorem Dp.lstE {K : PySem.W.Frag} {H : Hp} {v : V} {ds : List PyData} (h : Dp K H v (.list ds)) : ∃ a xs, v = .ref a ∧ SqL K H a xs ∧ DpAll K H xs ds := by
  cases h with
  | lst h k => exact ⟨_, _, rfl, h, k⟩
theorem Dp.intE {K : PySem.W.Frag} {H : Hp} {v : V} {i : Int} (h : Dp K H v (.int i)) : v = .int i := by cases h; rfl
theorem Dp.nonE {K : PySem.W.Frag} {H : Hp} {v : V} (h : Dp K H v .none) : v = .non := by cases h; rfl
theorem DpAll.ints {K : PySem.W.Frag} {H : Hp} : ∀ {ns : List Int} {vs : List V}, DpAll K H vs (ns.map PyData.int) → vs = ns.map V.int
  | [], _, h => by cases h; rfl
  | n :: ns, _, h => by
    cases h with
    | cons h k => rw [Dp.intE h, DpAll.ints k]; rfl
theorem DpAll.ofInts {K : PySem.W.Frag} {H : Hp} : ∀ (ns : List Int), DpAll K H (ns.map V.int) (ns.map PyData.int)
  | [] => .nil
  | n :: ns => .cons (.int n) (DpAll.ofInts ns)
def optD : Option Int → PyData
  | some i => .int i
  | none => .none
def optV : Option Int → V
  | some i => .int i
  | none => .non
theorem DpAll.opts {K : PySem.W.Frag} {H : Hp} : ∀ {ns : List (Option Int)} {vs : List V}, DpAll K H vs (ns.map optD) → vs = ns.map optV
  | [], _, h => by cases h; rfl
  | some n :: ns, _, h => by
    cases h with
    | cons h k => rw [Dp.intE h, DpAll.opts k]; rfl
  | none :: ns, _, h => by
    cases h with
    | cons h k => rw [Dp.nonE h, DpAll.opts k]; rfl
theorem DpAll.ofOpts {K : PySem.W.Frag} {H : Hp} : ∀ (ns : List (Option Int)), DpAll K H (ns.map optV) (ns.map optD)
  | [] => .nil
  | some n :: ns => .cons (.int n) (DpAll.ofOpts ns)
  | none :: ns => .cons .non (DpAll.ofOpts ns)

/-! ### isinstance -/
def tyN : PyData → String
  | .none => "NoneType"
  | .bool _ => "bool"
  | .int _ => "int"
  | .str _ => "str"
  | .list _ => "list"
  | .tuple _ => "tuple"
  | .dict _ => "dict"
theorem dpTy {K : PySem.W.Frag} {H : Hp} : ∀ {v : V} {d : PyData}, Dp K H v d → TyX K H v (.type (tyN d))
  | _, _, .non => .base .non
  | _, _, .bl b => .base (.bl b)
  | _, _, .int i => .base (.int i)
  | _, _, .str x => .base (.str x)
  | _, _, .lst h _ => by
    rcases h with (h | ⟨o, h⟩) | ⟨o, its, n, hk, hc, _⟩
    · exact .base (.lst h)
    · exact .base (.frz h)
    · exact .kList hk hc
  | _, _, .tup h _ => by
    rcases h with (h | ⟨o, h⟩) | ⟨o, its, n, hk, hc, _⟩
    · exact .base (.tup h)
    · exact .fTuple h
    · exact .kTuple hk hc
def isInt : PyData → Bool
  | .int _ => true
  | .bool _ => true
  | _ => false
def isBool : PyData → Bool
  | .bool _ => true
  | _ => false
def isTup : PyData → Bool
  | .tuple _ => true
  | _ => false
def isStrD : PyData → Bool
  | .str _ => true
  | _ => false
def isLst : PyData → Bool
  | .list _ => true
  | _ => false
theorem kb_int : ∀ d : PyData, kitB (tyN d) "int" = some (isInt d)
  | .none => (by decide +kernel : kitB "NoneType" "int" = some false)
  | .bool _ => (by decide +kernel : kitB "bool" "int" = some true)
  | .int _ => (by decide +kernel : kitB "int" "int" = some true)
  | .str _ => (by decide +kernel : kitB "str" "int" = some false)
  | .list _ => (by decide +kernel : kitB "list" "int" = some false)
  | .tuple _ => (by decide +kernel : kitB "tuple" "int" = some false)
  | .dict _ => (by decide +kernel : kitB "dict" "int" = some false)
theorem kb_bool : ∀ d : PyData, kitB (tyN d) "bool" = some (isBool d)
  | .none => (by decide +kernel : kitB "NoneType" "bool" = some false)
  | .bool _ => (by decide +kernel : kitB "bool" "bool" = some true)
  | .int _ => (by decide +kernel : kitB "int" "bool" = some false)
  | .str _ => (by decide +kernel : kitB "str" "bool" = some false)
  | .list _ => (by decide +kernel : kitB "list" "bool" = some false)
  | .tuple _ => (by decide +kernel : kitB "tuple" "bool" = some false)
  | .dict _ => (by decide +kernel : kitB "dict" "bool" = some false)
theorem kb_tuple : ∀ d : PyData, kitB (tyN d) "tuple" = some (isTup d)
  | .none => (by decide +kernel : kitB "NoneType" "tuple" = some false)
  | .bool _ => (by decide +kernel : kitB "bool" "tuple" = some false)
  | .int _ => (by decide +kernel : kitB "int" "tuple" = some false)
  | .str _ => (by decide +kernel : kitB "str" "tuple" = some false)
  | .list _ => (by decide +kernel : kitB "list" "tuple" = some false)
  | .tuple _ => (by decide +kernel : kitB "tuple" "tuple" = some true)
  | .dict _ => (by decide +kernel : kitB "dict" "tuple" = some false)
theorem kb_list : ∀ d : PyData, kitB (tyN d) "list" = some (isLst d)
  | .none => (by decide +kernel : kitB "NoneType" "list" = some false)
  | .bool _ => (by decide +kernel : kitB "bool" "list" = some false)
  | .int _ => (by decide +kernel : kitB "int" "list" = some false)
  | .str _ => (by decide +kernel : kitB "str" "list" = some false)
  | .list _ => (by decide +kernel : kitB "list" "list" = some true)
  | .tuple _ => (by decide +kernel : kitB "tuple" "list" = some false)
  | .dict _ => (by decide +kernel : kitB "dict" "list" = some false)
theorem kb_str : ∀ d : PyData, kitB (tyN d) "str" = some (isStrD d)
  | .none => (by decide +kernel : kitB "NoneType" "str" = some false)
  | .bool _ => (by decide +kernel : kitB "bool" "str" = some false)
  | .int _ => (by decide +kernel : kitB "int" "str" = some false)
  | .str _ => (by decide +kernel : kitB "str" "str" = some true)
  | .list _ => (by decide +kernel : kitB "list" "str" = some false)
  | .tuple _ => (by decide +kernel : kitB "tuple" "str" = some false)
  | .dict _ => (by decide +kernel : kitB "dict" "str" = some false)
section
variable {K : PySem.W.Frag} {H : Hp} {v : V} {d : PyData} {Q : VK}
theorem isi_int (h : Dp K H v d) (q : Q (.bl (isInt d)) H) : rIsi K [v, .ty "int"] H Q := by
  refine ⟨v, .ty "int", .type (tyN d), .type "int", isInt d, rfl, .ty _, dpTy h, kit_ty (kb_int d), q⟩
theorem isi_bool (h : Dp K H v d) (q : Q (.bl (isBool d)) H) : rIsi K [v, .ty "bool"] H Q := by
  refine ⟨v, .ty "bool", .type (tyN d), .type "bool", isBool d, rfl, .ty _, dpTy h, kit_ty (kb_bool d), q⟩
theorem isi_tup (h : Dp K H v d) (q : Q (.bl (isTup d)) H) : rIsi K [v, .ty "tuple"] H Q := by
  refine ⟨v, .ty "tuple", .type (tyN d), .type "tuple", isTup d, rfl, .ty _, dpTy h, kit_ty (kb_tuple d), q⟩
theorem isi_lst (h : Dp K H v d) (q : Q (.bl (isLst d)) H) : rIsi K [v, .ty "list"] H Q := by
  refine ⟨v, .ty "list", .type (tyN d), .type "list", isLst d, rfl, .ty _, dpTy h, kit_ty (kb_list d), q⟩
theorem isi_str (h : Dp K H v d) (q : Q (.bl (isStrD d)) H) : rIsi K [v, .ty "str"] H Q := by
  refine ⟨v, .ty "str", .type (tyN d), .type "str", isStrD d, rfl, .ty _, dpTy h, kit_ty (kb_str d), q⟩
end

/-! ### the checks' answers -/
def numD : PyData → Int → Int → Bool
  | .int i, lo, hi => decide (lo ≤ i) && decide (i ≤ hi)
  | _, _, _ => false
def tupD : PyData → Int → Int → Bool
  | .tuple ds, lo, hi => decide (lo ≤ (ds.length : Int)) && decide ((ds.length : Int) ≤ hi)
  | _, _, _ => false
def numsD : PyData → Int → Int → Bool
  | .tuple ds, lo, hi => ds.all fun d => numD d lo hi
  | _, _, _ => false
/-- a pure def's answer: what was tracked stands -/
def gives (H : Hp) (v : V) (Q : VK) : Prop := ∀ H', Same H H' → Q v H'
def spNum (K : PySem.W.Frag) : Sp := fun vs H Q _ => ∃ v d lo hi, vs = [v, .int lo, .int hi] ∧ Dp K H v d ∧ Q (.bl (numD d lo hi)) H
def spTup (K : PySem.W.Frag) : Sp := fun vs H Q _ => ∃ v d lo hi, vs = [v, .int lo, .int hi] ∧ Dp K H v d ∧ Q (.bl (tupD d lo hi)) H
def spNums (K : PySem.W.Frag) : Sp := fun vs H Q _ => ∃ v d lo hi, vs = [v, .int lo, .int hi] ∧ Dp K H v d ∧ gives H (.bl (numsD d lo hi)) Q

/-! ### readings, opened -/
section
variable {CX : CXT} {P : Program} {w : World} {K : PySem.W.Frag} {mg : Str → Option Value} {base : Heap} {N : List Str} {qual : Str} {scope : Scope} {f : Addr} {cd : Value} {A : Around} {outer : List Env} {s : Shared} {H : Hp} {E : XK}
theorem nox_K : (cxOf CX P w K mg base N qual scope f cd A outer s H E).nox.K = K := rfl
theorem nox_w : (cxOf CX P w K mg base N qual scope f cd A outer s H E).nox.w = w := rfl
end
theorem ex_rfl {α : Type} {a : α} {p : α → Prop} : (∃ x, a = x ∧ p x) ↔ p a := ⟨fun ⟨_, e, h⟩ => e ▸ h, fun h => ⟨a, rfl, h⟩⟩
theorem ex_rfl' {α : Type} {a : α} {p : α → Prop} : (∃ x, x = a ∧ p x) ↔ p a := ⟨fun ⟨_, e, h⟩ => e ▸ h, fun h => ⟨a, rfl, h⟩⟩
theorem ex_some {α : Type} {a : α} {p : α → Prop} : (∃ x, some (some a) = some (some x) ∧ p x) ↔ p a :=
  ⟨fun ⟨_, e, h⟩ => by cases e; exact h, fun h => ⟨a, rfl, h⟩⟩
theorem ex_bl {b : Bool} {p : Bool → Prop} : (∃ c, V.bl b = V.bl c ∧ p c) ↔ p b := ⟨fun ⟨_, e, h⟩ => by cases e; exact h, fun h => ⟨b, rfl, h⟩⟩
theorem ex_ii {i j : Int} {p : Int → Int → Prop} : (∃ a b, V.int i = V.int a ∧ V.int j = V.int b ∧ p a b) ↔ p i j :=
  ⟨fun ⟨_, _, e1, e2, h⟩ => by cases e1; cases e2; exact h, fun h => ⟨i, j, rfl, rfl, h⟩⟩
theorem ex_i {i : Int} {p : Int → Prop} : (∃ a, V.int i = V.int a ∧ p a) ↔ p i := ⟨fun ⟨_, e, h⟩ => by cases e; exact h, fun h => ⟨i, rfl, h⟩⟩

section
variable {CX : CXT} {P : Program} {w : World} {K : PySem.W.Frag} {mg : Str → Option Value} {base : Heap} {N : List Str} {qual : Str} {scope : Scope} {f : Addr} {cd : Value} {A : Around} {outer : List Env} {s : Shared} {H : Hp} {E : XK}
theorem cx_K : (cxOf CX P w K mg base N qual scope f cd A outer s H E).K = K := rfl
theorem cx_w : (cxOf CX P w K mg base N qual scope f cd A outer s H E).w = w := rfl
theorem cx_P : (cxOf CX P w K mg base N qual scope f cd A outer s H E).prog = P := rfl
end

/-! ### comprehensions whose elements are data, nothing else changes -/
section
variable {K : PySem.W.Frag} {J : It} {n : Nat} {G : Hp → Prop} {Y : Nat → Hp → V → Hp → Prop} {g : TG} {tt : TT} {te : TE} {vs : List Nat} {σ : L2.St} {H : Hp} {Q : VK}
theorem getE {α : Type} {l : List α} {k : Nat} (h : k < l.length) : ∃ x, l[k]? = some x := ⟨l[k], List.getElem?_eq_getElem h⟩
theorem DpAll.snoc {H : Hp} {acc : List V} {ds : List PyData} {k : Nat} {v : V} {d : PyData} (h : DpAll K H acc (ds.take k)) (e : ds[k]? = some d) (hv : Dp K H v d) : DpAll K H (acc ++ [v]) (ds.take (k + 1)) := by
  rw [List.take_succ, e]
  exact DpAll.app h (.cons hv .nil)
theorem flatLs_get : ∀ {ds : List PyData} {k : Nat} {d : PyData}, flatLs ds = true → ds[k]? = some d → flatL d = true
  | [], _, _, _, e => by simp at e
  | d :: ds, 0, _, f, e => by
    simp only [flatLs, Bool.and_eq_true] at f
    simp at e
    subst e
    exact f.1
  | d :: ds, k + 1, _, f, e => by
    simp only [flatLs, Bool.and_eq_true] at f
    exact flatLs_get (k := k) f.2 (by simpa using e)
theorem flatLs_take : ∀ {ds : List PyData}, flatLs ds = true → ∀ k, flatLs (ds.take k) = true
  | [], _, k => by simp [flatLs]
  | d :: ds, _, 0 => by simp [flatLs]
  | d :: ds, f, k + 1 => by
    simp only [flatLs, Bool.and_eq_true] at f
    simp only [List.take_succ_cons, flatLs, Bool.and_eq_true]
    exact ⟨f.1, flatLs_take f.2 k⟩
/-- the walk's turns give data ds -/
theorem lc_data (w : Walk J n G Y) (hG : ∀ H', Same H H' → G H') (ds : List PyData) (fl : flatLs ds = true) (hl : ds.length = n) (hz : n ≤ sizeLine)
    (hs : ∀ k x d H' H'' (Z : V → Hp → Prop) (F : Hp → Prop), k < n → ds[k]? = some d → Same H H' → Y k H' x H'' → (∀ y H4, Same H' H4 → Dp K H4 y d → Z y H4) →
      g x (wipe σ vs) H'' fun σ2 H2 => wipe σ2 vs = wipe σ vs ∧ tt σ2 H2 fun b H3 => if b = true then te σ2 H3 Z else F H3)
    (hd : ∀ D acc H', H D = none → Same H H' → H' D = some (.lst acc) → DpAll K H' acc ds → Q (.ref D) H') :
    ∀ D, H D = none → ∃ W : Nat → Nat → Hp → Prop, (∃ m, W 0 m (upd H D (.lst []))) ∧ ∀ i m H, W i m H →
      (J.stop i H ∧ Q (.ref D) H) ∨ (J.go i H ∧ ∃ Nx : Hp → Prop, (∀ H', Nx H' → ∃ m', m' < m ∧ W (i + 1) m' H') ∧ ∀ x H', J.yld i H x H' → g x (wipe σ vs) H' fun σ2 H2 => wipe σ2 vs = wipe σ vs ∧ tt σ2 H2 fun b H3 =>
        if b = true then te σ2 H3 fun y H4 => ∃ acc, H4 D = some (.lst acc) ∧ acc.length < sizeLine ∧ Nx (upd H4 D (.lst (acc ++ [y]))) else Nx H3) := by
  intro D hD
  refine lc_it w (fun k H' => Same H H' ∧ ∃ acc, H' D = some (.lst acc) ∧ DpAll K H' acc (ds.take k)) ⟨Same.new hD, [], upd_same, .nil⟩ (fun i H' _ h => hG H' h.1) ?_ ?_
  · rintro k x H1 H2 hk ⟨s1, acc, e1, a1⟩ y1
    obtain ⟨d, ed⟩ := getE (l := ds) (k := k) (by omega)
    refine hs k x d H1 H2 _ _ hk ed s1 y1 fun y H4 s2 hy => ⟨acc, s2 _ _ e1, ?_, fun b o e => ?_, acc ++ [y], upd_same, ?_⟩
    · have := DpAll.length a1
      rw [List.length_take] at this
      omega
    · rw [upd_ne (ne_of_none e hD)]
      exact s2 b o (s1 b o e)
    · have st : Stay H4 (upd H4 D (.lst (acc ++ [y]))) := Stay.put (s2 _ _ e1) id
      have fd := flatLs_get fl ed
      refine DpAll.snoc (DpAll.stay st (DpAll.sameD s2 a1) (flatLs_take fl k)) ed (Dp.stay st hy fd)
  · rintro H1 ⟨s1, acc, e1, a1⟩
    rw [← hl, List.take_length] at a1
    exact hd D acc H1 hD s1 e1 a1
end

section
variable {K : PySem.W.Frag} {J : It} {n : Nat} {G : Hp → Prop} {Y : Nat → Hp → V → Hp → Prop} {wi : TI} {g : TG} {tt : TT} {te : TE} {vs : List Nat} {σ : L2.St} {H H1 : Hp} {Q : VK}
theorem tlc (hwi : ∀ R : It → Hp → Prop, R J H1 → wi σ H R) (w : Walk J n G Y) (hG : ∀ H', Same H1 H' → G H') (ds : List PyData) (fl : flatLs ds = true) (hl : ds.length = n) (hz : n ≤ sizeLine)
    (hs : ∀ k x d H' H'' (Z : V → Hp → Prop) (F : Hp → Prop), k < n → ds[k]? = some d → Same H1 H' → Y k H' x H'' → (∀ y H4, Same H' H4 → Dp K H4 y d → Z y H4) →
      g x (wipe σ vs) H'' fun σ2 H2 => wipe σ2 vs = wipe σ vs ∧ tt σ2 H2 fun b H3 => if b = true then te σ2 H3 Z else F H3)
    (hd : ∀ D acc H', H1 D = none → Same H1 H' → H' D = some (.lst acc) → DpAll K H' acc ds → Q (.ref D) H') : tLc wi g tt te vs σ H Q :=
  hwi _ (lc_data w hG ds fl hl hz hs hd)
end
section
variable {K : PySem.W.Frag} {J : It} {n : Nat} {G : Hp → Prop} {Y : Nat → Hp → V → Hp → Prop} {wi : TI} {g : TG} {tt : TT} {te : TE} {vs : List Nat} {σ : L2.St} {H H1 : Hp} {Q : VK}
/-- no turn passes the test -/
theorem tlcNone (hwi : ∀ R : It → Hp → Prop, R J H1 → wi σ H R) (w : Walk J n G Y) (hG : ∀ H', Same H1 H' → G H')
    (hs : ∀ k x H' H'' (Z : V → Hp → Prop) (F : Hp → Prop), k < n → Same H1 H' → Y k H' x H'' → (∀ H4, Same H' H4 → F H4) →
      g x (wipe σ vs) H'' fun σ2 H2 => wipe σ2 vs = wipe σ vs ∧ tt σ2 H2 fun b H3 => if b = true then te σ2 H3 Z else F H3)
    (hd : ∀ D H', H1 D = none → Same H1 H' → H' D = some (.lst []) → Q (.ref D) H') : tLc wi g tt te vs σ H Q := by
  refine hwi _ fun D hD => ?_
  refine lc_it w (fun k H' => Same H1 H' ∧ H' D = some (.lst [])) ⟨Same.new hD, upd_same⟩ (fun i H' _ h => hG H' h.1) ?_ ?_
  · rintro k x H2 H3 hk ⟨s1, e1⟩ y1
    exact hs k x H2 H3 _ _ hk s1 y1 fun H4 s2 => ⟨Same.trans s1 s2, s2 _ _ e1⟩
  · rintro H2 ⟨s1, e1⟩
    exact hd D H2 hD s1 e1
end
def small : PyData → Prop
  | .tuple ds => ds.length ≤ 4000
  | .list ds => ds.length ≤ 4000
  | _ => True
theorem small_line {n : Nat} (h : n ≤ 4000) : n ≤ sizeLine := Nat.le_trans h (by decide)
theorem DpAll.bools {K : PySem.W.Frag} {H : Hp} : ∀ {ns : List Bool} {vs : List V}, DpAll K H vs (ns.map PyData.bool) → vs = ns.map V.bl
  | [], _, h => by cases h; rfl
  | n :: ns, _, h => by
    cases h with
    | cons h k =>
      cases h
      rw [DpAll.bools k]
      rfl
theorem flat_bools : ∀ ns : List Bool, flatLs (ns.map PyData.bool) = true
  | [] => rfl
  | _ :: ns => by simp [flatLs, flatL, flat_bools ns]
theorem flat_ints : ∀ ns : List Int, flatLs (ns.map PyData.int) = true
  | [] => rfl
  | _ :: ns => by simp [flatLs, flatL, flat_ints ns]
theorem flat_opts : ∀ ns : List (Option Int), flatLs (ns.map optD) = true
  | [] => rfl
  | none :: ns => by simp [flatLs, flatL, optD, flat_opts ns]
  | some _ :: ns => by simp [flatLs, flatL, optD, flat_opts ns]
def spNums' (K : PySem.W.Frag) : Sp := fun vs H Q _ => ∃ v d lo hi, vs = [v, .int lo, .int hi] ∧ Dp K H v d ∧ small d ∧ gives H (.bl (numsD d lo hi)) Q
/-- what a table's check answers -/
def optIn (m : Int) : PyData → Bool
  | .none => true
  | d => numD d 0 (m - 1)
def tableD : PyData → Int → Bool
  | .tuple ds, m => decide (m = (ds.length : Int)) && ds.all (optIn m)
  | _, _ => false
def spTable (K : PySem.W.Frag) : Sp := fun vs H Q _ => ∃ v d m, vs = [v, .int m] ∧ Dp K H v d ∧ small d ∧ gives H (.bl (tableD d m)) Q

/-! ### the rules, the written part told by name (so that a reading does not hang on the block's context) -/
section
variable {X : Cx}
theorem ixT (K : PySem.W.Frag) (e : X.K = K := by rfl) : IxR X (rIxT K) := by subst e; exact ix_tup
theorem ixL (K : PySem.W.Frag) (e : X.K = K := by rfl) : IxR X (rIxL K) := by subst e; exact ix_list
def rIxA (K : PySem.W.Frag) : R2 := fun x y H Q => rIxL K x y H Q ∨ rIxT K x y H Q
theorem ixA (K : PySem.W.Frag) (e : X.K = K := by rfl) : IxR X (rIxA K) := IxR.or (ixL K e) (ixT K e)
theorem slT (K : PySem.W.Frag) (e : X.K = K := by rfl) : SlR X (rSlA K) := by subst e; exact sl_tupA
theorem slL (K : PySem.W.Frag) (e : X.K = K := by rfl) : SlR X (rSlL K) := by subst e; exact sl_list
theorem cIsi (K : PySem.W.Frag) (e : X.K = K := by rfl) : CallR X (.builtin "isinstance") (rIsi K) := by subst e; exact call_isi
theorem cIsiT (K : PySem.W.Frag) (e : X.K = K := by rfl) : CallR X (.builtin "isinstance") (rIsiT K) := by subst e; exact call_isiT
theorem cAll (K : PySem.W.Frag) (hc : X.calm = true := by rfl) (e : X.K = K := by rfl) : CallR X (.builtin "all") (rAll K) := by subst e; exact cr_all hc
def rLen (K : PySem.W.Frag) : List V → Hp → VK → Prop := fun xs H Q => ∃ p ys, xs = [.ref p] ∧ (SqL K H p ys ∨ SqT K H p ys) ∧ Q (.int ys.length) H
theorem cLen (K : PySem.W.Frag) (e : X.K = K := by rfl) : CallR X (.builtin "len") (rLen K) := by subst e; exact call_len_seq
def rTupOf (K : PySem.W.Frag) : List V → Hp → VK → Prop := fun xs H Q => ∃ p ys, xs = [.ref p] ∧ ((SqL K H p ys ∧ ∀ l, H l = none → Q (.ref l) (upd H l (.tup ys))) ∨ (SqT K H p ys ∧ Q (.ref p) H))
theorem cTup (K : PySem.W.Frag) (e : X.K = K := by rfl) : CallR X (.type "tuple") (rTupOf K) := by subst e; exact call_tuple_of
def rLstOf (K : PySem.W.Frag) : List V → Hp → VK → Prop := fun xs H Q => ∃ p ys, xs = [.ref p] ∧ (SqL K H p ys ∨ SqT K H p ys) ∧ ∀ l, H l = none → Q (.ref l) (upd H l (.lst ys))
theorem cLst (K : PySem.W.Frag) (e : X.K = K := by rfl) : CallR X (.type "list") (rLstOf K) := by subst e; exact call_list_of
theorem cSortI (K : PySem.W.Frag) (e : X.K = K := by rfl) : CallR X (.builtin "sorted") (rSortedI K) := by subst e; exact cr_sortedI
theorem mIndex (K : PySem.W.Frag) (e : X.K = K := by rfl) : MtR X "list.index" (rIndex K) := by subst e; exact mt_index
theorem piT {tg l : Expr} {tl : TE} (K : PySem.W.Frag) (hl : PE X l tl) (e : X.K = K := by rfl) : PI X tg l (iTup K tl) := by subst e; exact pi_tup hl
theorem piL {tg l : Expr} {tl : TE} (K : PySem.W.Frag) (hl : PE X l tl) (e : X.K = K := by rfl) : PI X tg l (iList K tl) := by subst e; exact pi_list hl
theorem pFld {o : Expr} {f : Str} {pos : Pos} {ta : TE} (K : PySem.W.Frag) (he : PE X o ta) (hb : attributeBase o f X.env (eval o X.env) = eval o X.env := by rfl) (e : X.K = K := by rfl) : PE X (.Attribute o f pos) (tFld K ta f) := by subst e; exact pe_fld he hb
theorem pBm {o e : Expr} {es : List Expr} {name : Str} {id T : String} {r : V → List V → Hp → VK → Prop} {to : TE} {t : TA} {apos cpos : Pos} (K : PySem.W.Frag) (pa : PlainAttrs T) (slot : Slot T name id) (hty : typeOf (.builtin id) = pure (.type "method_descriptor")) (hm : MtR X id r) (ho : PE X o to) (ha : PA X (e :: es) t)
    (hbase : attributeBase o name X.env (eval o X.env) = eval o X.env := by rfl) (hfew : ((backTo cpos (starEach (e :: es) X.env)).all (fun y => !y.1) && (backToKw cpos (keywordEach [] X.env)).all (fun y => y.1.isSome) && decide ((e :: es).length + ([] : List Keyword).length + (if ([] : List Keyword).isEmpty then 0 else 1) < 30)) = true := by rfl) (hline : (apos.endLine == cpos.line) = true := by rfl)
    (hs : starEach (e :: es) X.env = (false, eval e X.env) :: starEach es X.env := by rfl) (hplain : (backTo cpos (starEach es X.env)).any (·.1) = false := by rfl) (eK : X.K = K := by rfl) :
    PE X (.Call (.Attribute o name apos) (e :: es) [] cpos) (tBM K T r to t) := by subst eK; exact pe_bm pa slot hty hm ho ha hbase hfew hline hs hplain
theorem pgT {es : List Expr} {kk : Nat} {pos : Pos} {t : TGs} (K : PySem.W.Frag) (n : Nat) (hc : X.calm = true) (h : PGs X es t) (hn : (assignEach es X.env).length = n := by rfl)
    (hst : (assignEach es X.env).findIdx? (·.1) = none := by rfl) (e : X.K = K := by rfl) : PG X (.Tuple es kk pos) (gTup K n t) := by subst e; exact pg_tup hc h hn hst
theorem opEqD (K : PySem.W.Frag) {k : Nat} (hr : Room k X.A) (e : X.K = K := by rfl) : OpR X (compareOp .Eq) (rEqD K) := by
  subst e
  exact op_eqD (by have := hr.un; omega)
theorem opNeD (K : PySem.W.Frag) {k : Nat} (hr : Room k X.A) (e : X.K = K := by rfl) : OpR X (compareOp .NotEq) (rNeD K) := by
  subst e
  exact op_neD (by have := hr.un; omega)
end
end Rw

/-! for i, x in enumerate(t), t a tuple -/
namespace Rw
open PySem PySem.Spec PyProof.Rows L2
open Builtin

theorem enumNew {v : Value} {o : Obj} {G : Heap → Prop} (B : Begins v o G) :
    Meets (Builtin.«enumerate.__new__» ⟨[.type "enumerate", v], []⟩) (fun _ R s =>
      G s.heap ∧ R (.ok (.ret (.ref (s.heap.objs.size + 1))))
        { s with heap := (s.heap.push o).push ⟨.type "enumerate", none, .fields #[.none, .bool false, .ref s.heap.objs.size, rawInt 0, .none, .none], #[]⟩ }) :=
  .of_wp fun prog w A R s both => by
    obtain ⟨hp, g, d, tk, os⟩ := s
    obtain ⟨hg, both⟩ := both
    have isub := sub_enumerate
    have sz : (hp.push o).objs.size = hp.objs.size + 1 := Heap.size_push ..
    have it1 : ∀ {A' : Around} {E : Value → Shared → Prop} {Q : Value → Shared → Prop},
        Q (.ref hp.objs.size) ⟨hp.push o, g, d, tk, os⟩ → wpAny (model prog w) A' (pyIter v) Q E ⟨hp, g, d, tk, os⟩ :=
      fun q => B.iter prog w _ _ ⟨hp, g, d, tk, os⟩ _ hg q
    wp_walk using it1
    refine wpAny_stack_any fun st => wpAny_pure ?_
    split
    · rename_i c _ _ _ _ _
      cases (c == Value.type "enumerate") <;> (wp_walk using it1; exact ⟨_, rfl, by rw [sz]; exact both⟩)
    · wp_walk using it1
      exact ⟨_, rfl, by rw [sz]; exact both⟩

theorem enumCall {prog : Program} {w : World} {A : Around} {E : Value → Shared → Prop} {s : Shared}
    {v : Value} {o : Obj} {G : Heap → Prop} {Q : Value → Shared → Prop} (B : Begins v o G) (hg : G s.heap)
    (h : ∀ h', IsEnum h' (s.heap.objs.size + 1) s.heap.objs.size 0 .none → h'.get? s.heap.objs.size = some o →
      (∀ b ob, s.heap.get? b = some ob → h'.get? b = some ob) → Q (.ref (s.heap.objs.size + 1)) { s with heap := h' }) :
    wpAny (model prog w) A (call (.type "enumerate") [v]) Q E s := by
  have sz : (s.heap.push o).objs.size = s.heap.objs.size + 1 := Heap.size_push ..
  have at1 : IsEnum ((s.heap.push o).push ⟨.type "enumerate", none, .fields #[.none, .bool false, .ref s.heap.objs.size, rawInt 0, .none, .none], #[]⟩)
      (s.heap.objs.size + 1) s.heap.objs.size 0 .none := by
    have z := Heap.get?_push_size (s.heap.push o) (o := ⟨.type "enumerate", none, .fields #[.none, .bool false, .ref s.heap.objs.size, rawInt 0, .none, .none], #[]⟩) rfl
    rw [sz] at z
    exact z
  refine callType_new F.called_enumerate (by decide) (F.typeCall_enumerate_1 _) (F.newCall_enumerate_1 _) (fun obj => F.args_object_init_2 obj _)
    F.entry_enumerate_new (enumNew B) ⟨hg, ⟨_, at1, rfl⟩, h _ at1 ?_ ?_⟩
  · exact Heap.get?_push_of_some _ (Heap.get?_push_size _ B.free)
  · exact fun b ob x => Heap.get?_push_of_some _ (Heap.get?_push_of_some _ x)

/-- the tuple at a, each item in a new pair with its place -/
def ItE (K : PySem.W.Frag) (a : Addr) : It where
  go := fun i H => ∃ xs x, SqT K H a xs ∧ xs[i]? = some x
  yld := fun i H v H' => ∃ T x, v = .ref T ∧ H T = none ∧ H' = upd H T (.tup [.int (i : Nat), x]) ∧ ∀ xs, SqT K H a xs → xs[i]? = some x
  stop := fun i H => ∃ xs : List V, SqT K H a xs ∧ xs.length = i

theorem turnE {P : Program} {w : World} {K : PySem.W.Frag} {elts : List Expr} {kk : Nat} {tpos : Pos} (a e it : Addr) (hai : a ≠ it) (hea : e ≠ a) :
    Turn P w K (.Tuple elts kk tpos) (ItE K a) [e, it] e
      (fun i h => (∃ old, IsEnum h e it ((i : Nat) : Int) old) ∧ h.IsTupleIter it a i ∧ e ≠ it) where
  mem := List.mem_cons_self
  obj := by
    rintro i h ⟨⟨old, he⟩, ⟨o, ho, _, hd⟩, _⟩ b hb
    rcases List.mem_cons.mp hb with rfl | hb
    · exact ⟨_, he, fun v q => nomatch q⟩
    · obtain rfl := List.mem_singleton.mp hb
      exact ⟨o, ho, fun v q => by rw [hd] at q; cases q⟩
  keep := by
    rintro i h h' ⟨⟨old, he⟩, hi, hne⟩ k
    exact ⟨⟨old, k e List.mem_cons_self _ he⟩, hi.at fun o q => k it (List.mem_cons_of_mem _ List.mem_cons_self) o q, hne⟩
  item := by
    rintro X rfl rfl rfl hc i pins s σ H E I hf ⟨⟨old, he⟩, hit, hne⟩ ⟨xs, x, hq, hx⟩
    obtain ⟨its, rv, p, hz⟩ := I.tuple hq
    obtain ⟨u, hu, ru⟩ := rv.get hx
    have hel : e < s.heap.objs.size := Heap.lt_size he
    have hil : it < s.heap.objs.size := by
      obtain ⟨_, q, _⟩ := hit
      exact Heap.lt_size q
    have hlt : i < its.toArray.size := by
      have := (List.getElem?_eq_some_iff.mp hu).1
      simpa using this
    have D := Draws.tuple (prog := X.prog) (w := X.w) (A := X.A.in1) (I.ok.hd hc) it a hai its.toArray
    refine wpAny_pyNext_enum_itemD D he ⟨hit, p⟩ hlt hne (by simp [hne, hea]) fun y h' tk hy ho hit' hT hsz hk => ?_
    have yu : y = u := by
      have hy' : its[i]? = some y := by simpa using hy
      rw [hu] at hy'
      exact (Option.some.inj hy').symm
    subst yu
    refine ⟨_, rfl, wpAny_letOwnedTupleGo_enum (s := { s with heap := h', toks := tk + 1 }) ho fun h'' he' sb => ?_⟩
    have hT2 : h''.get? s.heap.objs.size = some { cls := .type "tuple", data := .seq #[.int i tk, y] } := (sb.2 _ (Nat.ne_of_gt hel)).trans hT
    have new : ObjOk X.prog X.w (upd H s.heap.objs.size (.tup [.int (i : Nat), x])) h'' s.heap.objs.size (.tup [.int (i : Nat), x]) :=
      ⟨(by decide : 2 ≤ sizeLine), [.int i tk, y], .cons ⟨_, rfl⟩ (.cons ru .nil), ⟨_, hT2, rfl, _, rfl⟩⟩
    have nin : ∀ b, b ∉ [e, it] → b ≠ e ∧ b ≠ it := fun b hb => ⟨fun z => hb (z ▸ List.mem_cons_self), fun z => hb (z ▸ List.mem_cons_of_mem _ List.mem_cons_self)⟩
    have I1 : Inv X pins σ (upd H s.heap.objs.size (.tup [.int (i : Nat), x])) { s with heap := h'', toks := tk + 1 } :=
      I.turnedNew (ch := [e, it]) (fun b ob hb q => (sb.2 b (nin b hb).1).trans (hk b ob (nin b hb).1 (nin b hb).2 q)) hf (Nat.le_refl _) new
    refine ⟨.ref s.heap.objs.size, _, I1, rfl, ⟨_, x, rfl, I.hok.fresh (Nat.le_refl _), rfl, fun ys hy2 => by rw [I.tuple_inj hy2 hq]; exact hx⟩, ⟨⟨y, ?_⟩, hit'.1.at fun o q => (sb.2 it (Ne.symm hne)).trans q, hne⟩, fun b hb => ?_⟩
    · have e1 : ((i + 1 : Nat) : Int) = (i : Int) + 1 := by omega
      rw [e1]
      exact he'
    · have hb' : b < s.heap.objs.size := by
        rcases List.mem_cons.mp hb with rfl | hb
        · exact hel
        · obtain rfl := List.mem_singleton.mp hb
          exact hil
      rw [upd_ne (Nat.ne_of_lt hb')]
      exact (hf b hb).1
  done := by
    rintro X rfl rfl rfl hc i pins s σ H E I hf ⟨⟨old, he⟩, hit, hne⟩ ⟨xs, hq, hx⟩
    obtain ⟨its, rv, p, hz⟩ := I.tuple hq
    have D := Draws.tuple (prog := X.prog) (w := X.w) (A := X.A.in1) (I.ok.hd hc) it a hai its.toArray
    obtain ⟨f0, f1, f2, f3, f4, f5⟩ := hf it (List.mem_cons_of_mem _ List.mem_cons_self)
    have hl := rv.length
    have e1 : i = its.toArray.size := by simp only [List.size_toArray]; omega
    refine wpAny_pyNext_enum_endD D he (e1 ▸ ⟨hit, p⟩) fun h' eb => ⟨rfl, I.turned (t' := s.toks) (fun b o hb q => eb b o hb q) f0 f1 f3 f4 f5⟩
  self := by
    rintro A i s Q E ⟨⟨_, he⟩, _⟩ h
    exact wpAny_pyIter_enum he h

def iEnumT (K : PySem.W.Frag) (ta : TA) : TI := fun σ H R => ta σ H fun vs H1 => ∃ a xs, vs = [.ref a] ∧ SqT K H1 a xs ∧ R (ItE K a) H1
theorem pi_enumT {X : Cx} {e : Expr} {ta : TA} {p pos tpos : Pos} {elts : List Expr} {kk : Nat} (hg : Gl X "enumerate") (hm : X.mg "enumerate" = none) (ha : PA X [e] ta)
    (hs : starEach [e] X.env = [(false, eval e X.env)] := by rfl) : PI X (.Tuple elts kk tpos) (.Call (.Name "enumerate" p) [e] [] pos) (iEnumT X.K ta) := by
  refine ⟨fun pins s σ H R I h => ?_⟩
  refine Call_ (ld_blt I hg hm boot_enumerate (PyProof.Rows.callWith_type1 (thn (ha.run pos pins s σ H _ I h) ?_) hs rfl))
  rintro us s1 ⟨vs, H1, I1, r1, a, xs, rfl, hq, q⟩
  obtain ⟨u, rfl, ru⟩ := vals1 r1
  cases ru
  obtain ⟨its, rv, p', hz⟩ := I1.tuple hq
  have hal : a < s1.heap.objs.size := by
    obtain ⟨_, q, _⟩ := p'
    exact Heap.lt_size q
  refine enumCall (begins_tuple a its.toArray) p' fun h' he hit hk => wpAny_pyIter_enum he ?_
  have I2 : Inv X pins σ H1 { s1 with heap := h' } := I1.kept (t' := s1.toks) hk
  refine ⟨s1.heap.objs.size + 1, [s1.heap.objs.size + 1, s1.heap.objs.size], _, _, H1, rfl, I2,
    turnE a (s1.heap.objs.size + 1) s1.heap.objs.size (Nat.ne_of_lt hal) (Nat.ne_of_gt (Nat.lt_succ_of_lt hal)),
    ⟨⟨.none, he⟩, ⟨_, hit, rfl, rfl⟩, Nat.succ_ne_self _⟩, fun b hb => ?_, q⟩
  have hle : s1.heap.objs.size ≤ b := by
    rcases List.mem_cons.mp hb with rfl | hb
    · exact Nat.le_succ _
    · exact Nat.le_of_eq (List.mem_singleton.mp hb).symm
  exact I1.fpOk hle (I1.hok.fresh hle)
theorem walkE {K : PySem.W.Frag} {a : Addr} {xs : List V} : Walk (ItE K a) xs.length (fun H => SqT K H a xs) (YPair (fun i => some (.int (i : Nat))) (fun i => xs[i]?)) where
  goes := fun i H hi h => ⟨xs, xs[i], h, by simp [hi]⟩
  stops := fun H h => ⟨xs, h, rfl⟩
  yields := by
    rintro i H x H' hi h ⟨T, y, rfl, hn, rfl, k⟩
    exact ⟨T, _, y, rfl, hn, rfl, rfl, k xs h⟩
end Rw

/-! set(a tuple of ints), its length -/
namespace Rw
open PySem PySem.Spec PyProof.Rows L2
section
variable {X : Cx}
/-- how many unlike ones -/
def Card (ns : List Int) (c : Nat) : Prop := ∃ l : List Int, l.Nodup ∧ (∀ k, k ∈ l ↔ k ∈ ns) ∧ l.length = c
def rSetT (K : PySem.W.Frag) (w : World) : List V → Hp → VK → Prop := fun xs H Q => ∃ (p : Addr) (ns : List Int), xs = [.ref p] ∧ SqT K H p (ns.map V.int) ∧ ns.length ≤ 1000 ∧
  ∀ q c, H q = none → c ≤ ns.length → Card ns c → Q (.ref q) (upd H q (SetO w q (fun j => decide (j ∈ ns)) c))
theorem cr_setT (hc : X.calm = true) : CallR X (.type "set") (rSetT X.K X.w) := by
  rintro pins s σ H xs us Q I r ⟨p, ns, rfl, hS, hn, q⟩
  obtain ⟨u, rfl, ru⟩ := vals1 r
  cases ru
  obtain ⟨its, rv, pt, hz⟩ := I.tuple hS
  have hi : IntsAre its.toArray.toList ns := ints_of_vals rv
  refine call_set_tupI ns (I.ok.hd hc) (show s.heap.IsTuple p its.toArray from pt) hi (by unfold scanBound; omega) fun h' tk c R hcn k => ?_
  have nw : H s.heap.objs.size = none := I.hok.fresh (Nat.le_refl _)
  have cd : Card ns c := by
    obtain ⟨o, es, ep, t, ho, hex, hdt, g, nd, hm, hb, hf, hsz, _⟩ := R
    refine ⟨es.toList.map keyOf, nd, fun j => ?_, ?_⟩
    · rw [← hm j, decide_eq_true_eq]
    · rw [List.length_map, Array.length_toList, hsz]
  exact ⟨.ref s.heap.objs.size, _, I.laid (t' := tk) k (Nat.le_refl _) (setO_new R), rfl, q _ c nw hcn cd⟩
theorem cr_lenSet : CallR X (.builtin "len") (fun xs H Q => ∃ (a : Addr) (S : Int → Bool) (n : Nat), xs = [.ref a] ∧ H a = some (SetO X.w a S n) ∧ n ≤ 1000 ∧ Q (.int n) H) := by
  rintro pins s σ H xs us Q I r ⟨a, S, n, rfl, ha, hn, q⟩
  obtain ⟨u, rfl, ru⟩ := vals1 r
  cases ru
  obtain ⟨o, es, ep, t, ho, hex, hdt, g, nd, hm, hb, hf, hsz, _⟩ := setO_get I ha
  subst hsz
  exact PySem.call_len_set ho hex hdt hf (by omega) ⟨.int es.size, H, I.tok _, ⟨_, rfl⟩, q⟩
end
end Rw

/-! comprehensions of two clauses whose elements are data -/
namespace Rw
open PySem PySem.Spec PyProof.Rows L2
section
variable {K : PySem.W.Frag} {J : It} {n : Nat} {G : Hp → Prop} {Y : Nat → Hp → V → Hp → Prop} {wi1 : TI} {g g1 : TG} {tt tt1 : TT} {te : TE} {vs vs1 : List Nat} {σ : L2.St} {H : Hp} {Q : VK}
theorem flatLs_app : ∀ {ds es : List PyData}, flatLs ds = true → flatLs es = true → flatLs (ds ++ es) = true
  | [], _, _, k => k
  | d :: ds, es, h, k => by
    simp only [flatLs, Bool.and_eq_true] at h
    simp only [List.cons_append, flatLs, Bool.and_eq_true]
    exact ⟨h.1, flatLs_app h.2 k⟩
theorem flatLs_flat : ∀ {dss : List (List PyData)}, (∀ ds ∈ dss, flatLs ds = true) → flatLs dss.flatten = true
  | [], _ => rfl
  | ds :: dss, h => by
    rw [List.flatten_cons]
    exact flatLs_app (h ds List.mem_cons_self) (flatLs_flat fun e he => h e (List.mem_cons_of_mem _ he))
theorem take_flat {dss : List (List PyData)} {i : Nat} {ds : List PyData} (e : dss[i]? = some ds) : (dss.take (i + 1)).flatten = (dss.take i).flatten ++ ds := by
  rw [List.take_succ, e]
  simp
theorem len_take_flat : ∀ (dss : List (List PyData)) (i : Nat), (dss.take i).flatten.length ≤ dss.flatten.length
  | [], i => by simp
  | ds :: dss, 0 => by simp
  | ds :: dss, i + 1 => by
    have := len_take_flat dss i
    simp only [List.take_succ_cons, List.flatten_cons, List.length_append]
    omega
theorem lc2_data (w : Walk J n G Y) (hG : ∀ H', Same H H' → G H') (dss : List (List PyData)) (fl : ∀ ds ∈ dss, flatLs ds = true) (hl : dss.length = n) (hz : dss.flatten.length ≤ 4000)
    (hs : ∀ D a0 i x ds H' H'' (Rr : L2.St → It → Hp → Prop) (F : Hp → Prop), i < n → dss[i]? = some ds → Same H H' → H' D = some (.lst a0) → Y i H' x H'' →
      (∀ σ2 J1 n1 G1 Y1 H4, Same H' H4 → Walk J1 n1 G1 Y1 → (∀ H5, Ext D H4 H5 → G1 H5) → n1 = ds.length →
        (∀ k x1 d H5 H6 a1 (Z : V → Hp → Prop) (F1 : Hp → Prop), k < n1 → ds[k]? = some d → Ext D H4 H5 → H5 D = some (.lst a1) → Y1 k H5 x1 H6 → (∀ y H7, Same H5 H7 → Dp K H7 y d → Z y H7) →
          g1 x1 (wipe σ2 vs1) H6 fun σ3 H7 => wipe σ3 vs1 = wipe σ2 vs1 ∧ tt1 σ3 H7 fun b H8 => if b = true then te σ3 H8 Z else F1 H8) → Rr σ2 J1 H4) →
      g x (wipe σ vs) H'' fun σ2 H2 => wipe σ2 vs = wipe σ vs ∧ tt σ2 H2 fun b H3 => if b = true then wi1 σ2 H3 (Rr σ2) else F H3)
    (hd : ∀ D acc H', H D = none → Same H H' → H' D = some (.lst acc) → DpAll K H' acc dss.flatten → Q (.ref D) H') :
    ∀ D, H D = none → ∃ W : Nat → Nat → Hp → Prop, (∃ m, W 0 m (upd H D (.lst []))) ∧ ∀ i m H, W i m H →
      (J.stop i H ∧ Q (.ref D) H) ∨ (J.go i H ∧ ∃ Nx : Hp → Prop, (∀ H', Nx H' → ∃ m', m' < m ∧ W (i + 1) m' H') ∧ ∀ x H', J.yld i H x H' → g x (wipe σ vs) H' fun σ2 H2 => wipe σ2 vs = wipe σ vs ∧ tt σ2 H2 fun b H3 =>
        if b = true then wi1 σ2 H3 fun J1 H4 => ∃ W1 : Nat → Nat → Hp → Prop, (∃ m, W1 0 m H4) ∧ ∀ j k H, W1 j k H →
          (J1.stop j H ∧ Nx H) ∨ (J1.go j H ∧ ∃ Nx1 : Hp → Prop, (∀ H', Nx1 H' → ∃ k', k' < k ∧ W1 (j + 1) k' H') ∧ ∀ x H', J1.yld j H x H' → g1 x (wipe σ2 vs1) H' fun σ3 H5 => wipe σ3 vs1 = wipe σ2 vs1 ∧ tt1 σ3 H5 fun b H6 =>
            if b = true then te σ3 H6 fun y H7 => ∃ acc, H7 D = some (.lst acc) ∧ acc.length < sizeLine ∧ Nx1 (upd H7 D (.lst (acc ++ [y]))) else Nx1 H6)
        else Nx H3) := by
  intro D hD
  have flat := flatLs_flat fl
  refine ⟨fun i m H' => m = n - i ∧ i ≤ n ∧ Same H H' ∧ ∃ acc, H' D = some (.lst acc) ∧ DpAll K H' acc (dss.take i).flatten, ⟨n, by simp, Nat.zero_le _, Same.new hD, [], upd_same, by simpa using DpAll.nil⟩, ?_⟩
  rintro i m H1 ⟨rfl, hi, s1, acc, e1, a1⟩
  by_cases hlt : i < n
  · obtain ⟨ds, eds⟩ := getE (l := dss) (k := i) (by omega)
    have mds : ds ∈ dss := List.mem_of_getElem? eds
    refine .inr ⟨w.goes i H1 hlt (hG _ s1), fun H' => Same H H' ∧ ∃ acc, H' D = some (.lst acc) ∧ DpAll K H' acc (dss.take (i + 1)).flatten, fun H' h => ⟨n - (i + 1), by omega, rfl, hlt, h⟩, fun x H2 y1 => ?_⟩
    have y1 := w.yields i H1 x H2 hlt (hG _ s1) y1
    refine hs D acc i x ds H1 H2 _ _ hlt eds s1 e1 y1 fun σ2 J1 n1 G1 Y1 H4 s4 w1 hG1 hn1 el => ?_
    have e4 := s4 _ _ e1
    have a4 := DpAll.sameD s4 a1
    have lt : (dss.take i).flatten.length + ds.length ≤ 4000 := by
      have := len_take_flat dss (i + 1)
      rw [take_flat eds, List.length_append] at this
      omega
    refine ⟨fun j k H5 => k = n1 - j ∧ j ≤ n1 ∧ Ext D H4 H5 ∧ Same H H5 ∧ ∃ acc, H5 D = some (.lst acc) ∧ DpAll K H5 acc ((dss.take i).flatten ++ ds.take j), ⟨n1, by simp, Nat.zero_le _, Ext.refl _ _, Same.trans s1 s4, acc, e4, by simpa using a4⟩, ?_⟩
    rintro j k H5 ⟨rfl, hj, x5, s5, acc5, e5, a5⟩
    by_cases hlt1 : j < n1
    · obtain ⟨d, ed⟩ := getE (l := ds) (k := j) (by omega)
      refine .inr ⟨w1.goes j H5 hlt1 (hG1 _ x5), fun H' => Ext D H4 H' ∧ Same H H' ∧ ∃ acc, H' D = some (.lst acc) ∧ DpAll K H' acc ((dss.take i).flatten ++ ds.take (j + 1)), fun H' h => ⟨n1 - (j + 1), by omega, rfl, hlt1, h⟩, fun x6 H6 y6 => ?_⟩
      have y6 := w1.yields j H5 x6 H6 hlt1 (hG1 _ x5) y6
      refine el j x6 d H5 H6 acc5 _ _ hlt1 ed x5 e5 y6 fun y H7 s7 hy => ?_
      have e7 := s7 _ _ e5
      have a7 := DpAll.sameD s7 a5
      have st : Stay H7 (upd H7 D (.lst (acc5 ++ [y]))) := Stay.put e7 id
      have fd := flatLs_get (fl ds mds) ed
      refine ⟨acc5, e7, ?_, fun b o nb e => ?_, fun b o e => ?_, acc5 ++ [y], upd_same, ?_⟩
      · have l7 := DpAll.length a7
        rw [List.length_append, List.length_take] at l7
        have : acc5.length ≤ 4000 := by omega
        exact Nat.lt_of_le_of_lt this (by decide)
      · rw [upd_ne nb]
        exact s7 b o (x5 b o nb e)
      · rw [upd_ne (ne_of_none e hD)]
        exact s7 b o (s5 b o e)
      · rw [List.take_succ, ed, ← List.append_assoc]
        exact DpAll.app (DpAll.stay st a7 (flatLs_app (flatLs_flat fun e he => fl e (List.mem_of_mem_take he)) (flatLs_take (fl ds mds) j))) (.cons (Dp.stay st hy fd) .nil)
    · have ej : j = n1 := by omega
      subst ej
      refine .inl ⟨w1.stops H5 (hG1 _ x5), s5, acc5, e5, ?_⟩
      rw [take_flat eds]
      rw [hn1, List.take_length] at a5
      exact a5
  · have ei : i = n := by omega
    subst ei
    refine .inl ⟨w.stops H1 (hG _ s1), ?_⟩
    rw [← hl, List.take_length] at a1
    exact hd D acc H1 hD s1 e1 a1
theorem tlc2 {wi : TI} {H1 : Hp} (hwi : ∀ R : It → Hp → Prop, R J H1 → wi σ H R) (w : Walk J n G Y) (hG : ∀ H', Same H1 H' → G H') (dss : List (List PyData)) (fl : ∀ ds ∈ dss, flatLs ds = true) (hl : dss.length = n) (hz : dss.flatten.length ≤ 4000)
    (hs : ∀ D a0 i x ds H' H'' (Rr : L2.St → It → Hp → Prop) (F : Hp → Prop), i < n → dss[i]? = some ds → Same H1 H' → H' D = some (.lst a0) → Y i H' x H'' →
      (∀ σ2 J1 n1 G1 Y1 H4, Same H' H4 → Walk J1 n1 G1 Y1 → (∀ H5, Ext D H4 H5 → G1 H5) → n1 = ds.length →
        (∀ k x1 d H5 H6 a1 (Z : V → Hp → Prop) (F1 : Hp → Prop), k < n1 → ds[k]? = some d → Ext D H4 H5 → H5 D = some (.lst a1) → Y1 k H5 x1 H6 → (∀ y H7, Same H5 H7 → Dp K H7 y d → Z y H7) →
          g1 x1 (wipe σ2 vs1) H6 fun σ3 H7 => wipe σ3 vs1 = wipe σ2 vs1 ∧ tt1 σ3 H7 fun b H8 => if b = true then te σ3 H8 Z else F1 H8) → Rr σ2 J1 H4) →
      g x (wipe σ vs) H'' fun σ2 H2 => wipe σ2 vs = wipe σ vs ∧ tt σ2 H2 fun b H3 => if b = true then wi1 σ2 H3 (Rr σ2) else F H3)
    (hd : ∀ D acc H', H1 D = none → Same H1 H' → H' D = some (.lst acc) → DpAll K H' acc dss.flatten → Q (.ref D) H') : tLc2 wi g tt wi1 g1 tt1 te vs vs1 σ H Q :=
  hwi _ (lc2_data w hG dss fl hl hz hs hd)
end
end Rw

/-! sorted lists without repetition, the products' mirrors -/
namespace Rw
/-- u is what is in ls, ascending, once each -/
def Srt (u ls : List Int) : Prop := u.Pairwise (· < ·) ∧ ∀ k, k ∈ u ↔ k ∈ ls
theorem pw_nodup : ∀ {u : List Int}, u.Pairwise (· < ·) → u.Nodup
  | [], _ => List.nodup_nil
  | a :: u, h => by
    rw [List.pairwise_cons] at h
    rw [List.nodup_cons]
    exact ⟨fun m => Int.lt_irrefl _ (h.1 a m), pw_nodup h.2⟩
theorem srt_inj : ∀ {u v : List Int}, u.Pairwise (· < ·) → v.Pairwise (· < ·) → (∀ k, k ∈ u ↔ k ∈ v) → u = v
  | [], [], _, _, _ => rfl
  | [], b :: v, _, _, h => by have := (h b).mpr List.mem_cons_self; cases this
  | a :: u, [], _, _, h => by have := (h a).mp List.mem_cons_self; cases this
  | a :: u, b :: v, p, q, h => by
    rw [List.pairwise_cons] at p q
    have ab : a = b := by
      have h1 := (h a).mp List.mem_cons_self
      have h2 := (h b).mpr List.mem_cons_self
      rcases List.mem_cons.mp h1 with e | m1
      · exact e
      · rcases List.mem_cons.mp h2 with e | m2
        · exact e.symm
        · have := q.1 a m1
          have := p.1 b m2
          omega
    subst ab
    have : u = v := srt_inj p.2 q.2 fun k => by
      constructor
      · intro m
        rcases List.mem_cons.mp ((h k).mp (List.mem_cons_of_mem _ m)) with e | m'
        · have := p.1 k m
          omega
        · exact m'
      · intro m
        rcases List.mem_cons.mp ((h k).mpr (List.mem_cons_of_mem _ m)) with e | m'
        · have := q.1 k m
          omega
        · exact m'
    rw [this]
theorem Srt.inj {u v ls : List Int} (p : Srt u ls) (q : Srt v ls) : u = v := srt_inj p.1 q.1 fun k => (p.2 k).trans (q.2 k).symm
theorem len_sub : ∀ {l m : List Int}, l.Nodup → (∀ k ∈ l, k ∈ m) → l.length ≤ m.length
  | [], m, _, _ => Nat.zero_le _
  | a :: l, m, nd, h => by
    rw [List.nodup_cons] at nd
    have ha := h a List.mem_cons_self
    have := len_sub (l := l) (m := m.erase a) nd.2 fun k hk => by
      have ne : k ≠ a := fun e => nd.1 (e ▸ hk)
      exact (List.mem_erase_of_ne ne).mpr (h k (List.mem_cons_of_mem _ hk))
    have e := List.length_erase_of_mem ha
    have : 0 < m.length := List.length_pos_of_mem ha
    simp only [List.length_cons]
    omega
theorem Srt.card {u ls : List Int} {c : Nat} (p : Srt u ls) (q : Card ls c) : c = u.length := by
  obtain ⟨l, nd, m, rfl⟩ := q
  have h1 := len_sub nd fun k hk => (p.2 k).mpr ((m k).mp hk)
  have h2 := len_sub (pw_nodup p.1) fun k hk => (m k).mpr ((p.2 k).mp hk)
  omega
def ins (x : Int) : List Int → List Int
  | [] => [x]
  | y :: l => if x < y then x :: y :: l else if x = y then y :: l else y :: ins x l
theorem mem_ins {x k : Int} : ∀ {l : List Int}, k ∈ ins x l ↔ k = x ∨ k ∈ l
  | [] => by simp [ins]
  | y :: l => by
    unfold ins
    split
    · simp
    · split
      · rename_i e
        subst e
        simp
      · simp only [List.mem_cons, mem_ins]
        constructor
        · rintro (h | h | h) <;> simp [h]
        · rintro (h | h | h) <;> simp [h]
theorem pw_ins {x : Int} : ∀ {l : List Int}, l.Pairwise (· < ·) → (ins x l).Pairwise (· < ·)
  | [], _ => by simp [ins]
  | y :: l, h => by
    rw [List.pairwise_cons] at h
    unfold ins
    split
    · rename_i c
      rw [List.pairwise_cons, List.pairwise_cons]
      refine ⟨fun k hk => ?_, h⟩
      rcases List.mem_cons.mp hk with e | m
      · rw [e]; exact c
      · have := h.1 k m
        omega
    · split
      · rw [List.pairwise_cons]
        exact h
      · rw [List.pairwise_cons]
        refine ⟨fun k hk => ?_, pw_ins h.2⟩
        rcases mem_ins.mp hk with e | m
        · omega
        · exact h.1 k m
def uniq : List Int → List Int
  | [] => []
  | x :: l => ins x (uniq l)
theorem srt_uniq : ∀ ls, Srt (uniq ls) ls
  | [] => ⟨List.Pairwise.nil, fun _ => Iff.rfl⟩
  | x :: l => by
    obtain ⟨p, m⟩ := srt_uniq l
    refine ⟨pw_ins p, fun k => ?_⟩
    show k ∈ ins x (uniq l) ↔ _
    rw [mem_ins, m k, List.mem_cons]
theorem Srt.len {u ls : List Int} (p : Srt u ls) : u.length ≤ ls.length := len_sub (pw_nodup p.1) fun k hk => (p.2 k).mp hk
/-- the place of a level among the unlike ones -/
def plc (u : List Int) (x : Int) : Nat := u.idxOf x
theorem plc_lt {u : List Int} {x : Int} (h : x ∈ u) : plc u x < u.length := List.idxOf_lt_length_of_mem h
theorem plc_get {u : List Int} {x : Int} (h : x ∈ u) : u[plc u x]? = some x := by
  rw [List.getElem?_eq_getElem (plc_lt h)]
  simp [plc]
theorem plc_first {u : List Int} {x z : Int} {m : Nat} (h : m < plc u x) (e : u[m]? = some z) : z ≠ x := by
  intro zx
  subst zx
  have hm : m < u.length := (List.getElem?_eq_some_iff.mp e).1
  have e2 : u[m] = z := (List.getElem?_eq_some_iff.mp e).2
  have := List.not_of_lt_findIdx (p := fun y => y == z) (xs := u) (i := m) (by simpa [plc, List.idxOf] using h)
  simp [e2] at this
def places (u ls : List Int) : List Int := ls.map fun x => ((plc u x : Nat) : Int)
/-- the levels of the pairs -/
def pairLevels (u v ls ms : List Int) : List Int := (places u ls).flatMap fun a => (places v ms).map fun b => a * (v.length : Int) + b
def pairOf (m : Int) : Option Int → Option Int → Option Int
  | some a, some b => some (a * m + b)
  | _, _ => none
def pairTable (t u : List (Option Int)) : List (Option Int) := t.flatMap fun a => u.map fun b => pairOf (u.length : Int) a b
end Rw

/-! a tuple, once or more often -/
namespace Rw
open PySem PySem.Spec PyProof.Rows L2
theorem tupOnce (l : Addr) (items : Array Value) (n : Nat) (dd : Option Addr) (sl : Array (Option Value)) (u : Tok) :
    Meets (Builtin.«tuple.__mul__» ⟨[.ref l, .int 1 u], []⟩) (fun _ R s =>
      s.heap.get? l = some ⟨.type "tuple", dd, .seq items n, sl⟩ ∧ R (.ok (.ret (Value.ref l))) s) :=
  .of_wp fun prog w A R s both => by
    obtain ⟨hp, g, d, tk, os⟩ := s
    obtain ⟨at1, both⟩ := both
    have i1 := AutoSeq1.idx_int
    have c1 : (items.isEmpty || (1 : Int) == 1) = true := by simp
    wp_walk using wpAny_loadPart' at1
    repeat (first
      | (refine wpAny_ite_true (decide_eq_true c1) ?_; wp_walk using wpAny_loadPart' at1)
      | (refine wpAny_ite_false (decide_eq_false (by decide)) ?_; wp_walk using wpAny_loadPart' at1))
    exact ⟨_, rfl, both⟩

section
variable {X : Cx}
/-- t * k, t not empty, k at least 1: some tuple of the items k times -/
def rRepA (K : PySem.W.Frag) : R2 := fun x y H Q => ∃ l k xs, x = .ref l ∧ y = .int k ∧ SqT K H l xs ∧ xs ≠ [] ∧ 1 ≤ k ∧ k ≤ 1000 ∧ xs.length ≤ 1000 ∧
  ∀ q H', Same H H' → SqT K H' q (List.replicate k.toNat xs).flatten → Q (.ref q) H'
theorem opRepA (K : PySem.W.Frag) (e : X.K = K := by rfl) : OpR X (binaryOp .Mult) (rRepA K) := by
  subst e
  rintro pins s σ H x y v u Q I rx ry ⟨l, k, xs, rfl, rfl, hT, hne, h1, h2, hz, q⟩
  by_cases hk : k = 1
  · subst hk
    cases rx
    obtain ⟨t, rfl⟩ := ry
    obtain ⟨its, r, ⟨⟨cls, dd, data, sl⟩, ho, hc, n, hd⟩, hs⟩ := I.tuple hT
    simp only at hc hd
    subst hc hd
    refine wpAny_binaryOp_repeat_ref (T := "tuple") (U := "int") (by decide) ⟨_, ho, rfl⟩ (fun s' => typeIs_int s' 1 t) noFill_tuple_mul F.fills_int_mul F.slot_int_rmul repeat_tuple F.slot_int_index.lookup
      (call_meets F.slot_int_rmul (typeIs_int s 1 t) F.entry_int_rmul (F.args_int_rmul_2 _ _) (int_rmul_tuple 1 t l its.toArray n dd sl)
        ⟨ho, rfl, ⟨_, ho, rfl⟩, call_meets F.slot_tuple_mul ⟨_, ho, rfl⟩ F.entry_tuple_mul (F.args_tuple_mul_2 _ _) (tupOnce l its.toArray n dd sl t) ⟨ho, ?_⟩⟩)
    refine ⟨.ref l, H, I, rfl, q l H (Same.refl _) ?_⟩
    simpa using hT
  · exact op_repT pins s σ H _ _ v u Q I rx ry ⟨l, k, xs, rfl, rfl, hT, hne, by omega, h2, hz, fun p hp => q p _ (Same.new hp) (.inl (.inl upd_same))⟩
end
end Rw

/-! a lambda with parameters that captures nothing: made, handed on, called -/
namespace Rw
open PySem PySem.Spec PyProof.Rows L2
open LamX (Tabs TabS TabB ExtN CodeO codeO_ne inv_table among_app)
theorem clo_nil {cells : List (Str × Addr)} : ∀ {names : List (Str × NameKind)} {acc : List (Str × Addr)}, (∀ y ∈ names, y.2 ≠ .free) → cloFrom cells names acc = acc
  | [], _, _ => rfl
  | (n, k) :: r, acc, h => by
    have hk : k ≠ .free := h (n, k) List.mem_cons_self
    have e : (k == NameKind.free) = false := by cases k <;> first | rfl | exact absurd rfl hk
    unfold cloFrom
    rw [e]
    exact clo_nil fun y hy => h y (List.mem_cons_of_mem _ hy)
/-- the object of the lambda at f is o -/
def LamO (f : Addr) (o : Obj) : HO := .ext fun h => h.get? f = some o
theorem lamO_ne {f : Addr} {o : Obj} (ps : Array Value) : LamO f o ≠ .tbl ps := fun z => by
  unfold LamO at z
  cases z
theorem lamO_at {P : Program} {w : World} {H : Hp} {h : Heap} {f : Addr} {o : Obj} (k : HOk P w H h) (e : H f = some (LamO f o)) : h.get? f = some o := (k f _ e).1
/-- what a lambda's making asks and gives -/
def tLamV (T : List (Addr × Str)) (q : Str) (params : Arguments) (body : Expr) (scope : Scope) : TE := fun _ H Q => Tabs T H ∧ ∀ (f c' : Addr) (pm ctv : Value) (H1 : Hp), ExtN H H1 → Tabs T H1 → H1 f = none → H1 c' = some (CodeO c' q) →
  Q (.ref f) (upd H1 f (LamO f (PySem.W.kla_obj "<lambda>" q params body scope [] pm c' ctv)))
/-- a table with one code object more -/
def moreAt (H : Hp) (P c : Addr) (q : Str) (ps : Array Value) (pos : Pos) : Hp := upd (upd H P (.tbl (ps ++ #[rawInt pos.line, rawInt pos.col, .ref c]))) c (CodeO c q)
theorem more_ext {H : Hp} {P c : Addr} {q : Str} {ps : Array Value} {pos : Pos} (hP : H P = some (.tbl ps)) (new : H c = none) : ExtN H (moreAt H P c q ps pos) := by
  intro b o e keep
  have bP : b ≠ P := by
    rintro rfl
    exact keep ps (Option.some.inj (e.symm.trans hP))
  show upd (upd H P _) c _ b = some o
  rw [upd_ne (ne_of_none e new), upd_ne bP, e]
theorem more_tabs {T : List (Addr × Str)} {H : Hp} {P c : Addr} {q : Str} {ps : Array Value} {pos : Pos} (known : Tabs T H) (hP : H P = some (.tbl ps)) (new : H c = none) (tri : TriplesOk ps.toList)
    (among : ∀ (pos : Pos) (cv : Value), codeAmong pos ps.toList = some cv → ∃ c, cv = .ref c ∧ H c = some (CodeO c q)) (one : ∀ p ∈ T, p.1 = P → p.2 = q) : Tabs T (moreAt H P c q ps pos) := by
  have x := more_ext (q := q) (pos := pos) hP new
  rintro ⟨B, r⟩ mem
  obtain ⟨qs, atB, triB, amB⟩ := known _ mem
  by_cases same : B = P
  · cases same
    obtain rfl : r = q := one _ mem rfl
    refine ⟨ps ++ #[rawInt pos.line, rawInt pos.col, .ref c], (upd_ne (ne_of_none hP new)).trans upd_same, ?_, ?_⟩
    · simpa using PySem.TriplesOk_snoc _ _ _ _ tri
    · intro p2 cv hit
      have hit2 : codeAmong p2 (ps.toList ++ [rawInt pos.line, rawInt pos.col, .ref c]) = some cv := by simpa using hit
      rcases among_app _ tri hit2 with old | rfl
      · obtain ⟨d, rfl, at_⟩ := among _ _ old
        exact ⟨d, rfl, x _ _ at_ codeO_ne⟩
      · exact ⟨c, rfl, upd_same⟩
  · refine ⟨qs, ?_, triB, fun p2 cv hit => ?_⟩
    · show upd (upd H P _) c _ B = some (.tbl qs)
      rw [upd_ne (ne_of_none atB new), upd_ne same]
      exact atB
    · obtain ⟨d, rfl, at_⟩ := amB _ _ hit
      exact ⟨d, rfl, x _ _ at_ codeO_ne⟩
section
variable {X : Cx}
/-- a function object put behind the heap is told -/
theorem inv_fun {pins : List (Addr × Obj)} {σ : L2.St} {H : Hp} {s : Shared} {h : Heap} {tk : Nat} {o : Obj} (I : Inv X pins σ H s) (grown : ∀ b u, s.heap.get? b = some u → h.get? b = some u) (far : s.heap.objs.size ≤ h.objs.size) (alive : o.isFreed = false) :
    Inv X pins σ (upd H h.objs.size (LamO h.objs.size o)) { s with heap := h.push o, toks := tk } := by
  have there : (h.push o).get? h.objs.size = some o := Heap.get?_push_size _ alive
  exact I.laid (fun b u e => Heap.get?_push_of_some _ (grown b u e)) far ⟨there, ⟨o, there⟩, fun _ _ old st => st _ old⟩
theorem pe_lamV {T : List (Addr × Str)} {c P : Addr} {params : Arguments} {body : Expr} {scope : Scope} {pos : Pos} (TB : TabB X.base X.mg c P) (hcode : X.env.code = .ref c) (hm : (P, X.env.qual ++ "<lambda>") ∈ T)
    (hu : ∀ p ∈ T, p.1 = P → p.2 = X.env.qual ++ "<lambda>") (hdef : defaultsOf params X.env = ([], [])) (hnf : ∀ y ∈ scope.names, y.2 ≠ .free) :
    PE X (.Lambda params body scope pos) (tLamV T (X.env.qual ++ "<lambda>") params body scope) := by
  constructor
  rintro pins s σ H Q I ⟨known, go⟩
  have none_free : cloFrom X.env.cells scope.names [] = [] := clo_nil hnf
  have clos := closure_ok (scope := scope) (env := X.env) fun y hy e => absurd e (hnf y hy)
  rw [none_free] at clos
  obtain ⟨ps, atP, tri, among⟩ := known _ hm
  have heapP := I.hok _ _ atP
  have code := TB.code.keeps I.bk
  have blt := TB.bm.keeps I.bk
  have glob := I.mod.glob.keeps I.bk
  apply PySem.W.kla_eval hdef
  rcases hc : codeAmong pos ps.toList with _ | cv
  · refine PySem.W.kla_makeFunction clos I.ok.glob glob hcode code heapP tri hc TB.gP blt ?_
    intro d ctv h tk but lo hi rec_ tab
    obtain ⟨d', oc, vs, t, same, at_, fields, name⟩ := rec_
    cases same
    have new : H d = none := I.hok.fresh lo
    have J := inv_table (t' := tk) I atP but tab lo ⟨oc, vs, t, at_, fields, name⟩
    exact ⟨.ref h.objs.size, _, inv_fun (s := { s with heap := h, toks := tk }) (h := h) (tk := tk) J (fun _ _ e => e) (Nat.le_refl _) rfl, rfl, go _ d _ ctv _ (more_ext atP new) (more_tabs known atP new tri among hu) J.fresh upd_same⟩
  · obtain ⟨d, rfl, at_⟩ := among _ _ hc
    refine PySem.W.kla_makeFunctionHit clos I.ok.glob glob hcode code heapP tri hc blt ?_
    intro ctv h tk grown far
    exact ⟨.ref h.objs.size, _, inv_fun (h := h) (tk := tk) I grown far rfl, rfl, go _ d _ ctv H (LamX.ExtN.refl H) known (I.hok.fresh far) at_⟩
end
/-- the promise of a lambda's body -/
structure LamOk (P : Program) (w : World) (K : PySem.W.Frag) (mg : Str → Option Value) (base : Heap) (k : Nat) (q : Str) (params : Arguments) (body : Expr) (scope : Scope) (ps : List Str) (sp : Sp) : Prop where
  run : ∀ (A : Around) (outer : List Env) (s : Shared) (H : Hp) (f c' : Addr) (pm ctv : Value) (us : List Value) (vs : List V) (Q : VK), Room k A → Env0 P w K mg base A outer s H → H f = some (LamO f (PySem.W.kla_obj "<lambda>" q params body scope [] pm c' ctv)) → H c' = some (CodeO c' q) →
    Vals vs us → vs.length = ps.length → sp vs H Q L2.E0 → codeAny (model P w) A (.call (.ref f) ⟨us, []⟩) (CR L2.CX0 outer P w H s Q L2.E0) s
theorem lam_ok {P : Program} {w : World} {K : PySem.W.Frag} {mg : Str → Option Value} {base : Heap} {k : Nat} {q : Str} {params : Arguments} {body : Expr} {scope : Scope} {N ps : List Str} {sp : Sp} (S : FnScope N ps scope)
    (hbind : ∀ (pm cv ctv : Value) (us : List Value), us.length = ps.length → bindArgs (PySem.W.kla_fn "<lambda>" q params body scope [] pm cv ctv) ⟨us, []⟩ = pure (ps.zip us))
    (hbody : ∀ (A : Around) (outer : List Env) (s : Shared) (H : Hp) (f c' : Addr) (vs : List V) (Q : VK), Room k (A.deeper (envOfC q scope s.heap.objs.size f (.ref c'))) → sp vs H Q L2.E0 →
      ∃ t, PE (cxOf L2.CX0 P w K mg base N q scope f (.ref c') A outer s H L2.E0) body t ∧ t (L2.start N vs) H Q) : LamOk P w K mg base (k + 1) q params body scope ps sp := by
  constructor
  intro A outer s H f c' pm ctv us vs Q hr e0 hf hc r hl h
  have lenU : us.length = ps.length := r.length ▸ hl
  obtain ⟨⟨oc, vc, t, atC, fields, name⟩, _⟩ := e0.hok c' _ hc
  refine PySem.W.kla_callFunE hr.depth (lamO_at e0.hok hf) rfl S.co S.gen rfl ⟨c', oc, vc, t, rfl, atC, fields, name⟩ ?_
  rw [hbind _ _ _ us lenU]
  apply wpAny_pure
  refine wpAny_newFunctionEnv_cells S.kind (fun y hy => ?_) (fun env he s1 x => ?_)
  · have mem := (List.of_mem_zip (show (y.1, y.2) ∈ ps.zip us from hy)).1
    exact (S.par _ mem).imp id fun cell => ⟨cell, PySem.W.cellsFrom_some _ _ _ (.inl cell)⟩
  · subst he
    have roomy : s.heap.NoLimit := e0.mod.nolimit.keeps fun b u e => (e0.bs b u e).1
    obtain ⟨tb, body, reads⟩ := hbody A outer s H f c' vs Q (hr.deeper _) h
    have I := inv_start (CX := L2.CX0) (P := P) (w := w) (K := K) (mg := mg) (base := base) (f := f) (cd := .ref c') (E := L2.E0) S hr.hd e0 hl r x
    refine ⟨roomy.keeps x.toInCall.keep, PySem.W.kla_codeExpr (wpAny_mono (body.run _ _ _ _ _ I reads) ?_ fun _ _ z => z)⟩
    rintro v s2 ⟨u, H2, J, rel, goal⟩
    exact ⟨u, H2, J.os, J.bare, J.base, J.hok, rel, goal⟩
/-- a(e, ..), a a name that holds a lambda -/
def tLCall (P : Program) (w : World) (K : PySem.W.Frag) (mg : Str → Option Value) (base : Heap) (k i : Nat) (t : TA) : TE := fun σ H Q => ∃ f o, σ[i]? = some (some (.ref f)) ∧ (∃ fd, o = ⟨.type "function", none, .func fd, #[]⟩) ∧ H f = some (LamO f o) ∧ t σ H fun vs H1 =>
  ∃ q params body scope pm c' ctv ps sp, H1 f = some (LamO f (PySem.W.kla_obj "<lambda>" q params body scope [] pm c' ctv)) ∧ H1 c' = some (CodeO c' q) ∧ LamOk P w K mg base k q params body scope ps sp ∧ vs.length = ps.length ∧ sp vs H1 Q L2.E0
theorem pe_lcall {X : Cx} {k j i : Nat} {a : Str} {e : Expr} {es : List Expr} {t : TA} {p1 p2 : Pos} (hr : Room j X.A) (hk : k ≤ j) (hN : X.N[i]? = some a) (hv : Vis X.env.scope a) (ha : PA X (e :: es) t)
    (hd : (a == ("__debug__" : Str)) = false := by decide) (hcd : (a == ("__classdict__" : Str)) = false := by decide)
    (he : starEach (e :: es) X.env = (false, eval e X.env) :: starEach es X.env := by rfl) (hpl : (backTo p2 (starEach es X.env)).any (·.1) = false := by rfl) :
    PE X (.Call (.Name a p1) (e :: es) [] p2) (tLCall X.prog X.w X.K X.mg X.base k i t) := by
  constructor
  rintro pins s σ H Q I ⟨f, o, hs, ⟨fd, rfl⟩, hf, h⟩
  have name := (pe_var (pos := p1) (i := i) hN hv hd hcd).run pins s σ H (fun v H1 => v = .ref f ∧ H1 = H) I ⟨.ref f, hs, rfl, rfl⟩
  refine wpAny_Call_Name_kw (thn name ?_)
  rintro u s1 ⟨_, _, I1, rel, rfl, rfl⟩
  cases (show u = Value.ref f from rel)
  refine PySem.W.callWith_F ⟨_, _, _, _, lamO_at I1.hok hf⟩ (thn (ha.run p2 pins s1 σ _ _ I1 h) ?_) he hpl
  rintro us s2 ⟨vs, H2, I2, r, q', params, body, scope, pm, c', ctv, ps, sp, at2, code2, L, len, prom⟩
  refine ⟨⟨_, _, _, _, lamO_at I2.hok at2⟩, wpAny_call (codeAny_mono (L.run X.A X.stack s2 H2 f c' pm ctv us vs Q (hr.mono hk) I2.env0 at2 code2 r len prom) ?_)⟩
  rintro (e | fl) s3 z
  · exact absurd z id
  · cases fl <;> first | exact I2.after z | exact absurd z id
end Rw

/-! no element made -/
namespace Rw
def Deny (ts : List (List (Option Int))) : Bool := ts.all fun t => t.all fun o => decide (o = none)
end Rw

/-! expressions that tell whether something is so, over heaps of which W holds -/
namespace Rw
open PySem PySem.Spec PyProof.Rows L2
def Tells (W : Hp → Prop) (σ : L2.St) (te : TE) (D : Prop) : Prop := ∀ (H : Hp) (U : VK), W H → (∀ (b : Bool) (H' : Hp), (b = true ↔ D) → W H' → U (.bl b) H') → te σ H U
section
variable {W : Hp → Prop} {σ : L2.St} {ta tb : TE} {D E : Prop}
theorem Tells.and (p : Tells W σ ta D) (q : Tells W σ tb E) : Tells W σ (tAndV ta tb) (D ∧ E) := fun H U w k => by
  refine p H _ w fun b H1 hb w1 => ⟨b, rfl, ?_⟩
  cases b with
  | true => exact q H1 U w1 fun c H2 hc w2 => k c H2 (hc.trans ⟨fun e => ⟨hb.mp rfl, e⟩, fun e => e.2⟩) w2
  | false => exact k false H1 ⟨fun e => by (cases e), fun e => hb.mpr e.1⟩ w1
theorem Tells.or (p : Tells W σ ta D) (q : Tells W σ tb E) : Tells W σ (tOrV ta tb) (D ∨ E) := fun H U w k => by
  refine p H _ w fun b H1 hb w1 => ⟨b, rfl, ?_⟩
  cases b with
  | true => exact k true H1 ⟨fun _ => .inl (hb.mp rfl), fun _ => rfl⟩ w1
  | false => exact q H1 U w1 fun c H2 hc w2 => k c H2 (hc.trans ⟨.inr, fun e => e.elim (fun d => by cases hb.mpr d) id⟩) w2
theorem Tells.var {i : Nat} {b : Bool} (h : σ[i]? = some (some (.bl b))) (hb : b = true ↔ D) : Tells W σ (tVar i) D := fun H U w k => ⟨_, h, k b H hb w⟩
theorem Tells.iff (p : Tells W σ ta D) (h : D ↔ E) : Tells W σ ta E := fun H U w k => p H U w fun b H' hb w' => k b H' (hb.trans h) w'
/-- two that tell the same are not unlike -/
theorem Tells.same (p : Tells W σ ta D) (q : Tells W σ tb E) (h : D ↔ E) {H : Hp} {R : Bool → Hp → Prop} (w : W H) (k : ∀ H', W H' → R false H') : tTest (tOp rNe ta tb) σ H R := by
  refine p H _ w fun b H1 hb w1 => q H1 _ w1 fun c H2 hc w2 => ?_
  have e : b = c := by
    rw [Bool.eq_iff_iff, hb, hc, h]
  subst e
  refine ⟨rfl, _, rfl, ?_⟩
  have z : (!decide (V.bl b = V.bl b)) = false := by simp
  rw [z]
  exact k H2 w2
end
end Rw

/-! the checks -/
namespace Rw
open PySem PySem.Spec PyProof.Rows L2
open C8 (Cal Mak pe_c pe_mk)

def topS (i : Nat) : Stmt := PySem.Challenge.pw_routeweb_k09_whole_lexicographic_product.main.body.getD i (.Pass ⟨0, 0, 0, 0⟩)
/-- the built-ins that the text names -/
structure Bl (mg : Str → Option Value) : Prop where
  b_isinstance : mg "isinstance" = none
  b_int : mg "int" = none
  b_bool : mg "bool" = none
  b_tuple : mg "tuple" = none
  b_list : mg "list" = none
  b_all : mg "all" = none
  b_len : mg "len" = none
  b_range : mg "range" = none
  b_enumerate : mg "enumerate" = none
  b_sorted : mg "sorted" = none
  b_set : mg "set" = none
  b_str : mg "str" = none
theorem pe_k {X : Cx} {x : Str} {i : Int} {pos : Pos} (c : ∃ t, X.mg x = some (Value.int i t)) (hg : Gl X x) (hd : (x == ("__debug__" : Str)) = false := by decide) : PE X (.Name x pos) (tC (.int i)) := by
  obtain ⟨t, c⟩ := c
  exact pe_glob hg c ⟨t, rfl⟩ hd

local macro_rules | `(tactic| walk_at "rd") => `(tactic| try simp only [tCB, tCons, tNil, tVar, tC, tOp, tAndV, tOrV, tNotV, tAnd, tOr, tNot, tTest, tB, tIf, tChain, tRet, tSeq, tIfS, tAsg, gName, tDrop, tNext, tCall, rI0, rI, cx_K, cx_w, cx_P, L2.start, List.map_cons, List.map_nil, List.length_cons, List.length_nil, List.replicate_succ, List.replicate_zero, List.cons_append, List.nil_append, List.append_nil,
  List.getElem?_cons_zero, List.getElem?_cons_succ, List.set_cons_zero, List.set_cons_succ, ex_some, ex_bl, ex_ii, ex_i, Nat.reduceAdd, Nat.reduceSub, wipe, tYes, eq_self, true_and, ↓reduceIte])

section
variable {P : Program} {w : World} {K : PySem.W.Frag} {mg : Str → Option Value} {base : Heap} {f : Addr} {fd : FuncData}

abbrev s_is_number : Stmt := topS 6
abbrev n_is_number : List Str := ["value", "low", "high"]
theorem sc_is_number : FnScope n_is_number ["value", "low", "high"] (defScope s_is_number) := ⟨rfl, rfl, rfl, by decide +kernel, rfl, by decide +kernel, by decide +kernel⟩
theorem ok_is_number (T : Bl mg) (F : Fun K "is_number" "is_number" s_is_number f fd) : FnOk P w K mg base CX0 1 f fd ["value", "low", "high"] (spNum K) := by
  refine F.ok sc_is_number (fun vs H Q E h => ?_) (fun cdv A outer s H vs Q E hr h => ?_)
  · obtain ⟨v, d, lo, hi, rfl, _⟩ := h
    rfl
  · obtain ⟨v, d, lo, hi, rfl, hd, q⟩ := h
    refine ⟨_, (pss_one (ps_ret (pe_and (pe_callB (cIsi K) (by rfl) T.b_isinstance (by decide +kernel) (pa_cons (pv 0) (pa_cons (pe_bltn (v := .ty "int") (by rfl) T.b_int (by decide +kernel) rfl) pa_nil))) (pe_and (pe_not (pe_callB (cIsi K) (by rfl) T.b_isinstance (by decide +kernel) (pa_cons (pv 0) (pa_cons (pe_bltn (v := .ty "bool") (by rfl) T.b_bool (by decide +kernel) rfl) pa_nil)))) (pe_one (pe_chain op_le op_le (pv 1) (pv 0) (pv 2))))))), ?_⟩
    walk_at "rd"
    refine isi_int hd ⟨_, rfl, ?_⟩
    cases hd with
    | int i =>
      refine iteT (isi_bool (.int i) ⟨_, rfl, iteT ?_⟩)
      simp only [numD] at q
      simp only [ex_ii]
      by_cases h1 : lo ≤ i
      · simpa [h1] using q
      · simpa [h1] using q
    | bl b => exact iteT (isi_bool (.bl b) ⟨_, rfl, iteF q⟩)
    | non => exact iteF q
    | str x => exact iteF q
    | lst h k => exact iteF q
    | tup h k => exact iteF q

abbrev s_is_tuple : Stmt := topS 7
abbrev n_is_tuple : List Str := ["value", "least", "most"]
theorem sc_is_tuple : FnScope n_is_tuple ["value", "least", "most"] (defScope s_is_tuple) := ⟨rfl, rfl, rfl, by decide +kernel, rfl, by decide +kernel, by decide +kernel⟩
theorem ok_is_tuple (T : Bl mg) (F : Fun K "is_tuple" "is_tuple" s_is_tuple f fd) : FnOk P w K mg base CX0 1 f fd ["value", "least", "most"] (spTup K) := by
  refine F.ok sc_is_tuple (fun vs H Q E h => ?_) (fun cdv A outer s H vs Q E hr h => ?_)
  · obtain ⟨v, d, lo, hi, rfl, _⟩ := h
    rfl
  · obtain ⟨v, d, lo, hi, rfl, hd, q⟩ := h
    refine ⟨_, (pss_one (ps_ret (pe_and (pe_callB (cIsi K) (by rfl) T.b_isinstance (by decide +kernel) (pa_cons (pv 0) (pa_cons (pe_bltn (v := .ty "tuple") (by rfl) T.b_tuple (by decide +kernel) rfl) pa_nil))) (pe_one (pe_chain op_le op_le (pv 1) (pe_callB (cLen K) (by rfl) T.b_len PySem.boot_len (pa_cons (pv 0) pa_nil)) (pv 2)))))), ?_⟩
    walk_at "rd"
    refine isi_tup hd ⟨_, rfl, ?_⟩
    cases hd with
    | tup h k =>
      rename_i ds
      refine iteT ⟨_, _, rfl, .inr h, ?_⟩
      rw [DpAll.length k]
      simp only [tupD] at q
      by_cases h1 : lo ≤ (ds.length : Int)
      · simpa [h1] using q
      · simpa [h1] using q
    | int i => exact iteF q
    | bl b => exact iteF q
    | non => exact iteF q
    | str x => exact iteF q
    | lst h k => exact iteF q

abbrev s_are_numbers : Stmt := topS 8
abbrev n_are_numbers : List Str := ["value", "low", "high", "item"]
theorem sc_are_numbers : FnScope n_are_numbers ["value", "low", "high"] (defScope s_are_numbers) := ⟨rfl, rfl, rfl, by decide +kernel, rfl, by decide +kernel, by decide +kernel⟩
theorem ok_are_numbers (T : Bl mg) (F : Fun K "are_numbers" "are_numbers" s_are_numbers f fd) (C_is_number : Cal P w K mg base 1 "is_number" (spNum K) []) :
    FnOk P w K mg base CX0 2 f fd ["value", "low", "high"] (spNums' K) := by
  refine F.ok sc_are_numbers (fun vs H Q E h => ?_) (fun cdv A outer s H vs Q E hr h => ?_)
  · obtain ⟨v, d, lo, hi, rfl, _⟩ := h
    rfl
  · obtain ⟨v, d, lo, hi, rfl, hd, sm, q⟩ := h
    refine ⟨_, (pss_one (ps_ret (pe_and (pe_callB (cIsi K) (by rfl) T.b_isinstance (by decide +kernel) (pa_cons (pv 0) (pa_cons (pe_bltn (v := .ty "tuple") (by rfl) T.b_tuple (by decide +kernel) rfl) pa_nil))) (pe_one (pe_callB (cAll K) (by rfl) T.b_all (by decide +kernel) (pa_cons (pe_lc (own := [("item", 3)]) rfl sc_are_numbers.nd (piT K (pv 0)) (blkOk_by (own := [("item", 3)]) (N := n_are_numbers) (sc := defScope s_are_numbers) (by decide +kernel)) (fun _ _ _ _ _ => (by exact (pg_name (i := 3) sc_are_numbers.nd rfl (by first | exact Or.inl rfl | exact Or.inr rfl)))) (fun _ _ _ _ _ => (by exact pts_nil)) (fun _ _ _ _ _ => (by exact (pe_c C_is_number hr (by decide) rfl (pa_cons (pv 3) (pa_cons (pv 1) (pa_cons (pv 2) pa_nil))))))) pa_nil)))))), ?_⟩
    walk_at "rd"
    refine isi_tup hd ⟨_, rfl, ?_⟩
    cases hd with
    | tup h k =>
      rename_i a xs ds
      refine iteT ?_
      refine ⟨_, rfl, a, rfl, ⟨_, h⟩, ?_⟩
      refine lc_data (K := K) (Q := fun x H1 => rAll K [x] H1 Q) walk_tup (fun H' s1 => SqT.sameT s1 h) ((ds.map fun d => numD d lo hi).map .bool) (flat_bools _) (by simp [DpAll.length k]) (small_line (by rw [DpAll.length k]; exact sm)) ?_ ?_
      · rintro j x d H1 H2 Z Fz hj ed s1 ⟨rfl, hx⟩ hz
        obtain ⟨d0, e0, hd0⟩ := DpAll.getV k hx
        simp only [List.getElem?_map, e0, Option.map_some, Option.some.injEq] at ed
        subst ed
        walk_at "rd"
        exact ⟨x, d0, lo, hi, rfl, Dp.sameD s1 hd0, hz _ _ (Same.refl _) (.bl _)⟩
      · rintro D acc H1 hD s1 e1 a1
        refine ⟨D, ds.map (fun d => numD d lo hi), rfl, ?_, ?_⟩
        · rw [← DpAll.bools a1]
          exact SqL.of e1
        · have := q H1 s1
          simp only [numsD] at this
          simpa [List.all_map] using this
    | int i => exact iteF (q H (Same.refl _))
    | bl b => exact iteF (q H (Same.refl _))
    | non => exact iteF (q H (Same.refl _))
    | str x => exact iteF (q H (Same.refl _))
    | lst h k => exact iteF (q H (Same.refl _))

abbrev s_is_table : Stmt := topS 13
abbrev n_is_table : List Str := ["value", "many", "item"]
theorem sc_is_table : FnScope n_is_table ["value", "many"] (defScope s_is_table) := ⟨rfl, rfl, rfl, by decide +kernel, rfl, by decide +kernel, by decide +kernel⟩
theorem ok_is_table (T : Bl mg) (F : Fun K "_is_table" "_is_table" s_is_table f fd) (C_is_number : Cal P w K mg base 1 "is_number" (spNum K) []) (C_is_tuple : Cal P w K mg base 1 "is_tuple" (spTup K) []) :
    FnOk P w K mg base CX0 2 f fd ["value", "many"] (spTable K) := by
  refine F.ok sc_is_table (fun vs H Q E h => ?_) (fun cdv A outer s H vs Q E hr h => ?_)
  · obtain ⟨v, d, m, rfl, _⟩ := h
    rfl
  · obtain ⟨v, d, m, rfl, hd, sm, q⟩ := h
    refine ⟨_, (pss_cons (ps_if (pt_not (pt_val (pe_c C_is_tuple hr (by decide) rfl (pa_cons (pv 0) (pa_cons (pv 1) (pa_cons (pv 1) pa_nil)))))) (pss_one (ps_ret (pe_bl))) pss_nil)
      (pss_one (ps_ret (pe_callB (cAll K) (by rfl) T.b_all (by decide +kernel) (pa_cons (pe_lc (own := [("item", 2)]) rfl sc_is_table.nd (piT K (pv 0)) (blkOk_by (own := [("item", 2)]) (N := n_is_table) (sc := defScope s_is_table) (by decide +kernel)) (fun _ _ _ _ _ => (by exact (pg_name (i := 2) sc_is_table.nd rfl (by first | exact Or.inl rfl | exact Or.inr rfl)))) (fun _ _ _ _ _ => (by exact pts_nil)) (fun _ _ _ _ _ => (by exact (pe_or (pe_cmpR op_isN (pv 2) (pe_non) (nomark _)) (pe_one (pe_c C_is_number hr (by decide) rfl (pa_cons (pv 2) (pa_cons (pe_int) (pa_cons (pe_op op_sub (pv 1) (pe_int)) pa_nil))))))))) pa_nil))))), ?_⟩
    walk_at "rd"
    refine ⟨v, d, m, m, rfl, hd, ?_⟩
    walk_at "rd"
    cases hd with
    | tup h k =>
      rename_i a xs ds
      by_cases hm : m = (ds.length : Int)
      · have e1 : tupD (.tuple ds) m m = true := by simp [tupD, hm]
        rw [e1]
        refine iteF ?_
        refine ⟨_, rfl, a, rfl, ⟨_, h⟩, ?_⟩
        refine lc_data (K := K) (Q := fun x H1 => rAll K [x] H1 Q) walk_tup (fun H' s1 => SqT.sameT s1 h) ((ds.map (optIn m)).map .bool) (flat_bools _) (by simp [DpAll.length k]) (small_line (by rw [DpAll.length k]; exact sm)) ?_ ?_
        · rintro j x d H1 H2 Z Fz hj ed s1 ⟨rfl, hx⟩ hz
          obtain ⟨d0, e0, hd0⟩ := DpAll.getV k hx
          simp only [List.getElem?_map, e0, Option.map_some, Option.some.injEq] at ed
          subst ed
          walk_at "rd"
          cases hd0 with
          | non => exact iteT (hz _ _ (Same.refl _) (.bl _))
          | int i => exact iteF ⟨_, .int i, 0, m - 1, rfl, .int i, hz _ _ (Same.refl _) (.bl _)⟩
          | bl b => exact iteF ⟨_, .bool b, 0, m - 1, rfl, .bl b, hz _ _ (Same.refl _) (.bl _)⟩
          | str b => exact iteF ⟨_, .str b, 0, m - 1, rfl, .str b, hz _ _ (Same.refl _) (.bl _)⟩
          | lst h2 k2 => exact iteF ⟨_, .list _, 0, m - 1, rfl, Dp.sameD s1 (.lst h2 k2), hz _ _ (Same.refl _) (.bl _)⟩
          | tup h2 k2 => exact iteF ⟨_, .tuple _, 0, m - 1, rfl, Dp.sameD s1 (.tup h2 k2), hz _ _ (Same.refl _) (.bl _)⟩
        · rintro D acc H1 hD s1 e1 a1
          refine ⟨D, ds.map (optIn m), rfl, ?_, ?_⟩
          · rw [← DpAll.bools a1]
            exact SqL.of e1
          · have := q H1 s1
            simp only [tableD] at this
            simpa [List.all_map, hm] using this
      · have e1 : tupD (.tuple ds) m m = false := by
          simp only [tupD, Bool.and_eq_false_iff, decide_eq_false_iff_not]
          omega
        rw [e1]
        refine iteT ?_
        have := q H (Same.refl _)
        simpa [tableD, hm] using this
    | int i => exact iteT (q H (Same.refl _))
    | bl b => exact iteT (q H (Same.refl _))
    | non => exact iteT (q H (Same.refl _))
    | str x => exact iteT (q H (Same.refl _))
    | lst h k => exact iteT (q H (Same.refl _))
end
end Rw

/-! algebras -/
namespace Rw
open PySem PySem.Spec PyProof.Rows L2
open C8 (Cal Mak pe_c pe_mk)

/-! ### data of an algebra -/
def intsD (ns : List Int) : PyData := .tuple (ns.map .int)
def tabD (t : List (Option Int)) : PyData := .tuple (t.map optD)
def tabsD (ts : List (List (Option Int))) : PyData := .tuple (ts.map tabD)
theorem flat_intsD (ns : List Int) : flatL (intsD ns) = true := flat_ints ns
theorem flat_tabD (t : List (Option Int)) : flatL (tabD t) = true := flat_opts t
theorem flat_tabs : ∀ ts : List (List (Option Int)), flatLs (ts.map tabD) = true
  | [] => rfl
  | t :: ts => by
    simp only [List.map_cons, flatLs, Bool.and_eq_true]
    exact ⟨flat_tabD t, flat_tabs ts⟩
theorem flat_tabsD (ts : List (List (Option Int))) : flatL (tabsD ts) = true := flat_tabs ts
structure OkAlg (ls : List Int) (ts : List (List (Option Int))) : Prop where
  l1 : 1 ≤ ls.length
  l2 : ls.length ≤ 64
  lv : ∀ l ∈ ls, 0 ≤ l ∧ l ≤ 4095
  t1 : 1 ≤ ts.length
  t2 : ts.length ≤ 64
  tb : ∀ t ∈ ts, t.length = ls.length ∧ ∀ i, some i ∈ t → 0 ≤ i ∧ i < (ls.length : Int)
theorem OkAlg.levels {ls : List Int} {ts : List (List (Option Int))} (o : OkAlg ls ts) : tupD (intsD ls) 1 64 = true ∧ numsD (intsD ls) 0 4095 = true := by
  have h1 := o.l1
  have h2 := o.l2
  refine ⟨?_, ?_⟩
  · simp only [intsD, tupD, List.length_map, Bool.and_eq_true, decide_eq_true_eq]
    omega
  · simp only [intsD, numsD, List.all_map, List.all_eq_true, Function.comp, numD, Bool.and_eq_true, decide_eq_true_eq]
    exact o.lv
theorem OkAlg.functions {ls : List Int} {ts : List (List (Option Int))} (o : OkAlg ls ts) : tupD (tabsD ts) 1 64 = true := by
  have h1 := o.t1
  have h2 := o.t2
  simp only [tabsD, tupD, List.length_map, Bool.and_eq_true, decide_eq_true_eq]
  omega
theorem OkAlg.table {ls : List Int} {ts : List (List (Option Int))} (o : OkAlg ls ts) {t : List (Option Int)} (h : t ∈ ts) : tableD (tabD t) (ls.length : Int) = true := by
  obtain ⟨e, k⟩ := o.tb t h
  simp only [tabD, tableD, List.length_map, e, decide_true, Bool.true_and, List.all_map, List.all_eq_true, Function.comp]
  intro x hx
  cases x with
  | none => rfl
  | some i =>
    have := k i hx
    simp only [optD, optIn, numD, Bool.and_eq_true, decide_eq_true_eq]
    omega
/-- an algebra's attributes -/
def af (l f : V) : List (Str × V) := putF "_functions" f (putF "_levels" l [])
theorem lf_ : ¬ (("_levels" : Str) = "_functions") := by decide +kernel
theorem fl_ : ¬ (("_functions" : Str) = "_levels") := by decide +kernel
theorem af_l (l f : V) : (af l f).lookup ("_levels" : Str) = some l := by
  unfold af
  rw [lookup_putF, if_neg lf_, lookup_putF, if_pos rfl]
theorem af_f (l f : V) : (af l f).lookup ("_functions" : Str) = some f := by
  unfold af
  rw [lookup_putF, if_pos rfl]
/-- v is an algebra of the levels ls and the tables ts -/
def AlgAt (K : PySem.W.Frag) (C : Addr) (H : Hp) (v : V) (ls : List Int) (ts : List (List (Option Int))) : Prop :=
  ∃ a dx l f, v = .ref a ∧ H a = some (.ins C dx (af l f)) ∧ Dp K H l (intsD ls) ∧ Dp K H f (tabsD ts)
theorem AlgAt.stay {K : PySem.W.Frag} {C : Addr} {H H' : Hp} {v : V} {ls : List Int} {ts : List (List (Option Int))} (s : Stay H H') (h : AlgAt K C H v ls ts) : AlgAt K C H' v ls ts := by
  obtain ⟨a, dx, l, f, e, h1, h2, h3⟩ := h
  exact ⟨a, dx, l, f, e, s a _ trivial h1, Dp.stay s h2 (flat_intsD _), Dp.stay s h3 (flat_tabsD _)⟩
theorem AlgAt.sameA {K : PySem.W.Frag} {C : Addr} {H H' : Hp} {v : V} {ls : List Int} {ts : List (List (Option Int))} (s : Same H H') (h : AlgAt K C H v ls ts) : AlgAt K C H' v ls ts := AlgAt.stay (Stay.same s) h

/-- what the text tells of a class for isinstance -/
structure ClsI (K : PySem.W.Frag) (C : Addr) : Prop where
  cl : Cls K C
  at_ : PySem.W.findIn K (.ref C) "__class__" = some (some (.builtin "object.__class__"))
  get : PySem.W.specialIn K (.builtin "object.__class__") "__get__" = some (some (.builtin "getset_descriptor.__get__"))
  tk : PySem.W.takesIn K (.builtin "object.__class__") = some true
  mr : PySem.W.mroIn K C (.type "object") = some true
  self : PySem.W.kitOne K (.ref C) (.ref C) = some true

/-- a property of the class at C that hands out the attribute f -/
structure Prp (P : Program) (w : World) (K : PySem.W.Frag) (mg : Str → Option Value) (base : Heap) (k : Nat) (C : Addr) (x f : Str) : Prop where
  cl : Cls K C
  ex : ∃ (p g : Addr) (fd : FuncData) (ps : List Str), PropOf K C x p g ∧ FnOk P w K mg base CX0 k g fd ps (getSp C f) ∧ Binds K fd ps []
theorem pe_pr {X : Cx} {k j : Nat} {C : Addr} {x f : Str} {e : Expr} {pos : Pos} {ta : TE} (c : Prp X.prog X.w X.K X.mg X.base k C x f) (hr : Room j X.A) (hk : k + 1 ≤ j) (he : PE X e ta)
    (hab : attributeBase e x X.env (eval e X.env) = eval e X.env := by rfl) : PE X (.Attribute e x pos) (tProp C (getSp C f) [] E0 ta) := by
  obtain ⟨p, g, fd, ps, hp, F, b⟩ := c.ex
  exact pe_prop he c.cl hp F (hr.mono hk) b .nil pass0 hab

local macro_rules | `(tactic| walk_at "rd") => `(tactic| try simp only [tCB, tCons, tNil, tVar, tC, tOp, tAndV, tOrV, tNotV, tAnd, tOr, tNot, tTest, tB, tIf, tChain, tRet, tSeq, tIfS, tAsg, gName, tDrop, tNext, tCall, rI0, rI, cx_K, cx_w, cx_P, L2.start, List.map_cons, List.map_nil, List.length_cons, List.length_nil, List.replicate_succ, List.replicate_zero, List.cons_append, List.nil_append, List.append_nil,
  List.getElem?_cons_zero, List.getElem?_cons_succ, List.set_cons_zero, List.set_cons_succ, ex_some, ex_bl, ex_ii, ex_i, Nat.reduceAdd, Nat.reduceSub, wipe, tYes, eq_self, true_and, ↓reduceIte])

/-- the constants of the text -/
structure Ks (mg : Str → Option Value) : Prop extends Bl mg where
  c_MOST_ITEMS : ∃ t, mg "MOST_ITEMS" = some (Value.int 64 t)
  c_MOST_LEVEL : ∃ t, mg "MOST_LEVEL" = some (Value.int 4095 t)
/-- Algebra.__init__: the instance at x is new over H0 -/
def spAlgInit (K : PySem.W.Frag) (C : Addr) : Sp := fun vs H Q _ => ∃ x dx l f ls ts H0, vs = [.ref x, l, f] ∧ H x = some (.ins C dx []) ∧ Same H0 H ∧ H0 x = none ∧ Dp K H0 l (intsD ls) ∧ Dp K H0 f (tabsD ts) ∧ OkAlg ls ts ∧
  ∀ H', Same H0 H' → H' x = some (.ins C dx (af l f)) → Q .non H'
section
variable {P : Program} {w : World} {K : PySem.W.Frag} {mg : Str → Option Value} {base : Heap} {f C : Addr} {fd : FuncData}

abbrev s_Algebra_init : Stmt := inClass (topS 12) 0
abbrev n_Algebra_init : List Str := ["self", "levels", "functions", "index", "table"]
theorem sc_Algebra_init : FnScope n_Algebra_init ["self", "levels", "functions"] (defScope s_Algebra_init) := ⟨rfl, rfl, rfl, by decide +kernel, rfl, by decide +kernel, by decide +kernel⟩
theorem ok_Algebra_init (T : Ks mg) (F : Fun K "__init__" "Algebra.__init__" s_Algebra_init f fd) (cl : Cls K C) (nl : NoAttr K C "_levels") (nf : NoAttr K C "_functions")
    (C_is_tuple : Cal P w K mg base 1 "is_tuple" (spTup K) []) (C_are_numbers : Cal P w K mg base 2 "are_numbers" (spNums' K) []) (C_is_table : Cal P w K mg base 2 "_is_table" (spTable K) []) :
    FnOk P w K mg base CX0 3 f fd ["self", "levels", "functions"] (spAlgInit K C) := by
  refine F.ok sc_Algebra_init (fun vs H Q E h => ?_) (fun cdv A outer s H vs Q E hr h => ?_)
  · obtain ⟨x, dx, l, f, ls, ts, H0, rfl, _⟩ := h
    rfl
  · obtain ⟨x, dx, l, g, ls, ts, H0, rfl, hx, s0, n0, hl, hg, ok, q⟩ := h
    refine ⟨_, (pss_cons (ps_if (PW.pt (pw_or (pt_not (pt_val (pe_c C_is_tuple hr (by decide) rfl (pa_cons (pv 1) (pa_cons (pe_int) (pa_cons (pe_k T.c_MOST_ITEMS rfl) pa_nil)))))) (pw_or1 (pt_not (pt_val (pe_c C_are_numbers hr (by decide) rfl (pa_cons (pv 1) (pa_cons (pe_int) (pa_cons (pe_k T.c_MOST_LEVEL rfl) pa_nil))))))))) pss_never pss_nil)
      (pss_cons (ps_if (pt_not (pt_val (pe_c C_is_tuple hr (by decide) rfl (pa_cons (pv 2) (pa_cons (pe_int) (pa_cons (pe_k T.c_MOST_ITEMS rfl) pa_nil)))))) pss_never pss_nil)
      (pss_cons (ps_for PassesOwn.never rfl (pi_enumT (by rfl) T.b_enumerate (pa_cons (pv 2) pa_nil)) (pgT K 2 rfl (pgs_cons (pg_name (i := 3) sc_Algebra_init.nd rfl (by first | exact Or.inl rfl | exact Or.inr rfl)) (pgs_cons (pg_name (i := 4) sc_Algebra_init.nd rfl (by first | exact Or.inl rfl | exact Or.inr rfl)) pgs_nil))) (pss_one (ps_if (pt_not (pt_val (pe_c C_is_table hr (by decide) rfl (pa_cons (pv 4) (pa_cons (pe_callB (cLen K) (by rfl) T.b_len PySem.boot_len (pa_cons (pv 1) pa_nil)) pa_nil))))) pss_never pss_nil)))
      (pss_cons (ps_fld (pv 0) (pv 1) rfl)
      (pss_one (ps_fld (pv 0) (pv 2) rfl)))))), ?_⟩
    walk_at "rd"
    have el := ok.levels
    have hl1 := ok.l2
    refine ⟨l, intsD ls, 1, 64, rfl, Dp.sameD s0 hl, ?_⟩
    walk_at "rd"
    rw [el.1]
    refine iteF ⟨l, intsD ls, 0, 4095, rfl, Dp.sameD s0 hl, by show (ls.map PyData.int).length ≤ 4000; rw [List.length_map]; omega, fun H1 s1 => ?_⟩
    walk_at "rd"
    rw [el.2]
    refine iteF ⟨g, tabsD ts, 1, 64, rfl, Dp.sameD (Same.trans s0 s1) hg, ?_⟩
    walk_at "rd"
    rw [ok.functions]
    refine iteF ?_
    have S1 := Same.trans s0 s1
    obtain ⟨ag, xg, rfl, hG, kG⟩ := Dp.tupE hg
    obtain ⟨al, xl, rfl, hL, kL⟩ := Dp.tupE hl
    have nxl := DpAll.length kL
    rw [List.length_map] at nxl
    refine ⟨_, rfl, ag, xg, rfl, SqT.sameT S1 hG, ?_⟩
    refine for_it (walkE (K := K) (a := ag) (xs := xg)) (fun i σ H' => ∃ a b, σ = [some (.ref x), some (.ref al), some (.ref ag), a, b] ∧ Same H1 H') ⟨_, _, rfl, Same.refl _⟩ (fun i σ H' _ h => by obtain ⟨_, _, _, s2⟩ := h; exact SqT.sameT (Same.trans S1 s2) hG) ?_ ?_
    · rintro i y σ H2 H3 hi ⟨a, b, rfl, s2⟩ ⟨Tp, u, v, rfl, hT, rfl, hu, hv⟩
      cases hu
      have s3 := Same.trans s2 (Same.new (o := .tup [.int (i : Nat), v]) hT)
      refine ⟨Tp, _, rfl, .inl (.inl upd_same), rfl, _, _, rfl, _, _, rfl, rfl, ?_⟩
      obtain ⟨d, ed, hd⟩ := DpAll.getV kG hv
      rw [List.getElem?_map] at ed
      obtain ⟨t, et, rfl⟩ := Option.map_eq_some_iff.mp ed
      have mt : t ∈ ts := List.mem_of_getElem? et
      walk_at "rd"
      refine ⟨_, _, rfl, .inr (SqT.sameT (Same.trans S1 s3) hL), v, tabD t, (ls.length : Int), by rw [nxl], Dp.sameD (Same.trans S1 s3) hd, ?_, fun H4 s4 => ?_⟩
      · show (t.map optD).length ≤ 4000
        rw [List.length_map, (ok.tb t mt).1]
        omega
      · walk_at "rd"
        rw [ok.table mt]
        exact iteF ⟨_, _, rfl, Same.trans s3 s4⟩
    · rintro σ H2 ⟨a, b, rfl, s2⟩
      have hx2 := s2 _ _ (s1 _ _ hx)
      refine ⟨_, rfl, _, rfl, x, C, dx, [], rfl, hx2, cl, nl, by decide, ?_⟩
      refine ⟨_, rfl, _, rfl, x, C, dx, _, rfl, upd_same, cl, nf, by show 1 < 1000; decide, ?_⟩
      refine q _ (fun b o e => ?_) upd_same
      have nb := ne_of_none e n0
      rw [upd_ne nb, upd_ne nb]
      exact s2 b o (S1 b o e)

def spCheck (K : PySem.W.Frag) (C : Addr) : Sp := fun vs H Q _ => ∃ v ls ts, vs = [v] ∧ AlgAt K C H v ls ts ∧ Q .non H
def spCheck2 (K : PySem.W.Frag) (C : Addr) : Sp := fun vs H Q _ => ∃ v ls ts u ms us, vs = [v, u] ∧ AlgAt K C H v ls ts ∧ AlgAt K C H u ms us ∧ Q .non H
def spMany : Sp := fun vs H Q _ => ∃ n : Int, vs = [.int n] ∧ n ≤ 64 ∧ Q .non H
abbrev s_check_algebra : Stmt := topS 14
abbrev n_check_algebra : List Str := ["algebra"]
theorem sc_check_algebra : FnScope n_check_algebra ["algebra"] (defScope s_check_algebra) := ⟨rfl, rfl, rfl, by decide +kernel, rfl, by decide +kernel, by decide +kernel⟩
theorem ok_check_algebra (T : Ks mg) (g_Algebra : mg "Algebra" = some (.ref C)) (F : Fun K "check_algebra" "check_algebra" s_check_algebra f fd) (ci : ClsI K C) : FnOk P w K mg base CX0 1 f fd ["algebra"] (spCheck K C) := by
  refine F.ok sc_check_algebra (fun vs H Q E h => ?_) (fun cdv A outer s H vs Q E hr h => ?_)
  · obtain ⟨v, ls, ts, rfl, _⟩ := h
    rfl
  · obtain ⟨v, ls, ts, rfl, ⟨a, dx, l, g, rfl, ha, _, _⟩, q⟩ := h
    refine ⟨_, (pss_one (ps_if (pt_not (pt_val (pe_callB (cIsi K) (by rfl) T.b_isinstance (by decide +kernel) (pa_cons (pv 0) (pa_cons (pe_glob (v := .ref C) rfl g_Algebra rfl) pa_nil))))) pss_never pss_nil)), ?_⟩
    walk_at "rd"
    refine ⟨.ref a, .ref C, .ref C, .ref C, true, rfl, .own C, .base (.ins ha ci.cl ci.at_ ci.get ci.tk ci.mr), ci.self, _, rfl, ?_⟩
    exact iteF q
abbrev s_check_two : Stmt := topS 15
abbrev n_check_two : List Str := ["one", "other"]
theorem sc_check_two : FnScope n_check_two ["one", "other"] (defScope s_check_two) := ⟨rfl, rfl, rfl, by decide +kernel, rfl, by decide +kernel, by decide +kernel⟩
theorem ok_check_two (T : Ks mg) (F : Fun K "_check_two" "_check_two" s_check_two f fd) (C_check_algebra : Cal P w K mg base 1 "check_algebra" (spCheck K C) []) : FnOk P w K mg base CX0 2 f fd ["one", "other"] (spCheck2 K C) := by
  refine F.ok sc_check_two (fun vs H Q E h => ?_) (fun cdv A outer s H vs Q E hr h => ?_)
  · obtain ⟨v, ls, ts, u, ms, us, rfl, _⟩ := h
    rfl
  · obtain ⟨v, ls, ts, u, ms, us, rfl, h1, h2, q⟩ := h
    refine ⟨_, (pss_cons (ps_expr (pe_c C_check_algebra hr (by decide) rfl (pa_cons (pv 0) pa_nil)))
      (pss_one (ps_expr (pe_c C_check_algebra hr (by decide) rfl (pa_cons (pv 1) pa_nil))))), ?_⟩
    walk_at "rd"
    refine ⟨v, ls, ts, rfl, h1, ?_⟩
    walk_at "rd"
    exact ⟨u, ms, us, rfl, h2, q⟩
abbrev s_check_many : Stmt := topS 16
abbrev n_check_many : List Str := ["many"]
theorem sc_check_many : FnScope n_check_many ["many"] (defScope s_check_many) := ⟨rfl, rfl, rfl, by decide +kernel, rfl, by decide +kernel, by decide +kernel⟩
theorem ok_check_many (T : Ks mg) (F : Fun K "_check_many" "_check_many" s_check_many f fd) : FnOk P w K mg base CX0 1 f fd ["many"] spMany := by
  refine F.ok sc_check_many (fun vs H Q E h => ?_) (fun cdv A outer s H vs Q E hr h => ?_)
  · obtain ⟨n, rfl, _⟩ := h
    rfl
  · obtain ⟨n, rfl, hn, q⟩ := h
    refine ⟨_, (pss_one (ps_if (pt_cmpR op_gt (pv 0) (pe_k T.c_MOST_ITEMS rfl) (nomark _)) pss_never pss_nil)), ?_⟩
    walk_at "rd"
    have e : decide ((64 : Int) < n) = false := decide_eq_false (by omega)
    rw [e]
    exact iteF q
end
end Rw

/-! products -/
namespace Rw
open PySem PySem.Spec PyProof.Rows L2
open C8 (Cal Mak pe_c pe_mk)
local macro_rules | `(tactic| walk_at "rd") => `(tactic| try simp only [tCB, tCons, tNil, tVar, tC, tOp, tAndV, tOrV, tNotV, tAnd, tOr, tNot, tTest, tB, tIf, tChain, tRet, tSeq, tIfS, tAsg, gName, tDrop, tNext, tCall, tProp, tBM, rI0, rI, cx_K, cx_w, cx_P, L2.start, List.map_cons, List.map_nil, List.length_cons, List.length_nil, List.replicate_succ, List.replicate_zero, List.cons_append, List.nil_append, List.append_nil,
  List.getElem?_cons_zero, List.getElem?_cons_succ, List.set_cons_zero, List.set_cons_succ, ex_some, ex_bl, ex_ii, ex_i, Nat.reduceAdd, Nat.reduceSub, wipe, tYes, eq_self, true_and, ↓reduceIte])

def spPlaces (K : PySem.W.Frag) (C : Addr) : Sp := fun vs H Q _ => ∃ v ls ts u, vs = [v] ∧ AlgAt K C H v ls ts ∧ Srt u ls ∧ ls.length ≤ 60 ∧
  ∀ H' a, Same H H' → H a = none → H' a = some (.lst ((places u ls).map V.int)) → Q (.ref a) H'
theorem flat_all (ns : List Int) : (ns.map V.int).all flatV = true := by
  simp [List.all_map, flatV]
theorem eqV_int (a b : Int) : eqV (.int a) (.int b) = decide (a = b) := by
  rw [Bool.eq_iff_iff]
  simp [eqV]

theorem flat_opt (a : Option Int) : flatL (optD a) = true := by cases a <;> rfl
theorem flat_pairs (a : Option Int) : ∀ u : List (Option Int), flatLs (u.map fun b => .tuple [optD a, optD b]) = true
  | [] => rfl
  | b :: u => by
    simp only [List.map_cons, flatLs, flatL, flat_opt, Bool.and_true, Bool.true_and]
    exact flat_pairs a u
theorem dp_opt {K : PySem.W.Frag} {H : Hp} (a : Option Int) : Dp K H (optV a) (optD a) := by
  cases a
  · exact .non
  · exact .int _
theorem dp_optE {K : PySem.W.Frag} {H : Hp} {v : V} {a : Option Int} (h : Dp K H v (optD a)) : v = optV a := by
  cases a
  · exact Dp.nonE h
  · exact Dp.intE h
section
variable {P : Program} {w : World} {K : PySem.W.Frag} {mg : Str → Option Value} {base : Heap} {f C : Addr} {fd : FuncData}
abbrev s_places : Stmt := topS 17
abbrev n_places : List Str := ["algebra", "unlike", "level"]
theorem sc_places : FnScope n_places ["algebra"] (defScope s_places) := ⟨rfl, rfl, rfl, by decide +kernel, rfl, by decide +kernel, by decide +kernel⟩
theorem ok_places (T : Ks mg) (F : Fun K "_places" "_places" s_places f fd) (C_p_levels : Prp P w K mg base 1 C "levels" "_levels") : FnOk P w K mg base CX0 3 f fd ["algebra"] (spPlaces K C) := by
  refine F.ok sc_places (fun vs H Q E h => ?_) (fun cdv A outer s H vs Q E hr h => ?_)
  · obtain ⟨v, ls, ts, u, rfl, _⟩ := h
    rfl
  · obtain ⟨v, ls, ts, u, rfl, ⟨a, dx, l, g, rfl, ha, hl, hg⟩, hu, hn, q⟩ := h
    refine ⟨_, (pss_cons (ps_set (i := 1) sc_places.nd rfl (by first | exact Or.inl rfl | exact Or.inr rfl) (pe_callB (cr_sortedSet rfl) (by rfl) T.b_sorted (by decide +kernel) (pa_cons (pe_callTy (cr_setT rfl) (by rfl) T.b_set (by decide +kernel) (pa_cons (pe_pr C_p_levels hr (by decide) (pv 0)) pa_nil)) pa_nil)))
      (pss_one (ps_ret (pe_lc (own := [("level", 2)]) rfl sc_places.nd (piT K (pe_pr C_p_levels hr (by decide) (pv 0))) (blkOk_by (own := [("level", 2)]) (N := n_places) (sc := defScope s_places) (by decide +kernel)) (fun _ _ _ _ _ => (by exact (pg_name (i := 2) sc_places.nd rfl (by first | exact Or.inl rfl | exact Or.inr rfl)))) (fun _ _ _ _ _ => (by exact pts_nil)) (fun _ _ _ _ _ => (by exact (pBm K PySem.F.plainAttrs_list PySem.F.slot_list_index PySem.F.type_list_index (mIndex K) (pv 1) (pa_cons (pv 2) pa_nil)))))))), ?_⟩
    walk_at "rd"
    obtain ⟨al, xl, rfl, hL, kL⟩ := Dp.tupE hl
    obtain rfl := DpAll.ints kL
    refine ⟨a, dx, _, rfl, ha, a, dx, _, _, rfl, ha, af_l _ _, ?_⟩
    refine ⟨al, ls, rfl, hL, by omega, fun p c hp hc cd => ?_⟩
    have ec := hu.card cd
    have s1 : Same H (upd H p (SetO w p (fun j => decide (j ∈ ls)) c)) := Same.new hp
    have ul := hu.len
    refine ⟨p, _, c, rfl, upd_same, by omega, fun ns b pw mem len hb => ?_⟩
    have en : ns = u := srt_inj pw hu.1 fun k => by rw [mem k, decide_eq_true_eq, hu.2 k]
    subst en
    generalize hH2 : upd (upd H p (SetO w p (fun j => decide (j ∈ ls)) c)) b (.lst (ns.map V.int)) = H2
    have s2 : Same H H2 := hH2 ▸ Same.trans s1 (Same.new hb)
    have e2 : H2 b = some (.lst (ns.map V.int)) := hH2 ▸ upd_same
    refine ⟨.ref a, rfl, a, dx, _, rfl, s2 _ _ ha, a, dx, _, _, rfl, s2 _ _ ha, af_l _ _, al, rfl, ⟨_, SqT.sameT s2 hL⟩, ?_⟩
    refine lc_data (K := K) (Q := Q) (walk_tup (xs := ls.map V.int)) (fun H' s3 => SqT.sameT (Same.trans s2 s3) hL) ((places ns ls).map .int) (flat_ints _) (by simp [places]) (by rw [List.length_map]; exact small_line (by omega)) ?_ ?_
    · rintro j x d H3 H4 Z Fz hj ed s3 ⟨rfl, hx⟩ hz
      rw [List.getElem?_map] at hx ed
      obtain ⟨z, ez, rfl⟩ := Option.map_eq_some_iff.mp hx
      obtain ⟨y, ey, rfl⟩ := Option.map_eq_some_iff.mp ed
      rw [places, List.getElem?_map, ez] at ey
      obtain rfl := Option.some.inj ey
      have mz : z ∈ ns := (hu.2 z).mpr (List.mem_of_getElem? ez)
      walk_at "rd"
      refine ⟨Or.inl ⟨rfl, _, SqL.of (s3 _ _ e2)⟩, b, ns.map V.int, .int z, plc ns z, .int z, rfl, rfl, SqL.of (s3 _ _ e2), rfl, flat_all _, ?_, by rw [eqV_int]; simp, fun m z' hm ez' => ?_, hz _ _ (Same.refl _) (.int _)⟩
      · rw [List.getElem?_map, plc_get mz]
        rfl
      · rw [List.getElem?_map] at ez'
        obtain ⟨z2, ez2, rfl⟩ := Option.map_eq_some_iff.mp ez'
        rw [eqV_int]
        exact decide_eq_false (plc_first hm ez2)
    · rintro D acc H3 hD s3 e3 a3
      refine q H3 D (Same.trans s2 s3) (Same.free s2 hD) ?_
      rw [e3, DpAll.ints a3]

def spPairLevels (K : PySem.W.Frag) (C : Addr) : Sp := fun vs H Q _ => ∃ v ls ts u v' ms us u', vs = [v, v'] ∧ AlgAt K C H v ls ts ∧ AlgAt K C H v' ms us ∧ Srt u ls ∧ Srt u' ms ∧ ls.length ≤ 60 ∧ ms.length ≤ 60 ∧
  ∀ H' x, Same H H' → Dp K H' x (intsD (pairLevels u u' ls ms)) → Q x H'
theorem pl_flat (u v ls ms : List Int) : (((places u ls).map fun a => (places v ms).map fun b => a * (v.length : Int) + b).map fun l => l.map PyData.int).flatten = (pairLevels u v ls ms).map PyData.int := by
  unfold pairLevels
  rw [List.flatMap_def, List.map_flatten]
abbrev s_pair_levels : Stmt := topS 18
abbrev n_pair_levels : List Str := ["one", "other", "many", "first", "second"]
theorem sc_pair_levels : FnScope n_pair_levels ["one", "other"] (defScope s_pair_levels) := ⟨rfl, rfl, rfl, by decide +kernel, rfl, by decide +kernel, by decide +kernel⟩
theorem ok_pair_levels (T : Ks mg) (F : Fun K "_pair_levels" "_pair_levels" s_pair_levels f fd) (C_p_levels : Prp P w K mg base 1 C "levels" "_levels") (C_places : Cal P w K mg base 3 "_places" (spPlaces K C) []) :
    FnOk P w K mg base CX0 4 f fd ["one", "other"] (spPairLevels K C) := by
  refine F.ok sc_pair_levels (fun vs H Q E h => ?_) (fun cdv A outer s H vs Q E hr h => ?_)
  · obtain ⟨v, ls, ts, u, v', ms, us, u', rfl, _⟩ := h
    rfl
  · obtain ⟨v, ls, ts, u, v', ms, us, u', rfl, hA, hB, hu, hu', hn, hn', q⟩ := h
    refine ⟨_, (pss_cons (ps_set (i := 2) sc_pair_levels.nd rfl (by first | exact Or.inl rfl | exact Or.inr rfl) (pe_callB cr_lenSet (by rfl) T.b_len PySem.boot_len (pa_cons (pe_callTy (cr_setT rfl) (by rfl) T.b_set (by decide +kernel) (pa_cons (pe_pr C_p_levels hr (by decide) (pv 1)) pa_nil)) pa_nil)))
      (pss_one (ps_ret (pe_callTy (cTup K) (by rfl) T.b_tuple (by decide +kernel) (pa_cons (pe_lc2 (own := [("first", 3), ("second", 4)]) (vs1 := [4]) rfl sc_pair_levels.nd (piL K (pe_c C_places hr (by decide) rfl (pa_cons (pv 0) pa_nil))) (blkOk_by (own := [("first", 3), ("second", 4)]) (N := n_pair_levels) (sc := defScope s_pair_levels) (by decide +kernel)) (by decide) (fun _ _ _ _ _ => (by exact (pg_name (i := 3) sc_pair_levels.nd rfl (by first | exact Or.inl rfl | exact Or.inr rfl)))) (fun _ _ _ _ _ => (by exact pts_nil)) (fun _ _ _ _ _ => (by exact (piL K (pe_c C_places hr (by decide) rfl (pa_cons (pv 1) pa_nil))))) (fun _ _ _ _ _ => (by exact (pg_name (i := 4) sc_pair_levels.nd rfl (by first | exact Or.inl rfl | exact Or.inr rfl)))) (fun _ _ _ _ _ => (by exact pts_nil)) (fun _ _ _ _ _ => (by exact (pe_op op_add (pe_op op_mul (pv 3) (pv 2)) (pv 4))))) pa_nil))))), ?_⟩
    walk_at "rd"
    obtain ⟨b, dx, l, g, rfl, hb, hl, hg⟩ := id hB
    obtain ⟨bl, xl, rfl, hL, kL⟩ := Dp.tupE hl
    obtain rfl := DpAll.ints kL
    refine ⟨b, dx, _, rfl, hb, b, dx, _, _, rfl, hb, af_l _ _, ?_⟩
    refine ⟨bl, ms, rfl, hL, by omega, fun p c hp hc cd => ?_⟩
    have ec := hu'.card cd
    subst ec
    refine ⟨p, _, u'.length, rfl, upd_same, by omega, ?_⟩
    generalize hH1 : upd H p _ = H1
    have s1 : Same H H1 := hH1 ▸ Same.new hp
    refine ⟨v, rfl, v, ls, ts, u, rfl, AlgAt.sameA s1 hA, hu, hn, fun H2 a s2 na ea => ?_⟩
    refine ⟨a, rfl, ⟨_, SqL.of ea⟩, ?_⟩
    have S2 := Same.trans s1 s2
    refine lc2_data (K := K) (Q := fun x H1 => rTupOf K [x] H1 Q) (walk_list (K := K) (a := a) (xs := (places u ls).map V.int)) (fun H' s3 => SqL.of (s3 _ _ ea)) (((places u ls).map fun a => (places u' ms).map fun b => a * (u'.length : Int) + b).map fun l => l.map PyData.int) ?_ (by simp) ?_ ?_ ?_
    · intro ds hds
      obtain ⟨l, _, rfl⟩ := List.mem_map.mp hds
      exact flat_ints l
    · rw [pl_flat, List.length_map, pairLevels, List.length_flatMap]
      simp only [List.length_map, places, List.map_const', List.sum_replicate_nat]
      have : ls.length * ms.length ≤ 60 * 60 := Nat.mul_le_mul hn hn'
      omega
    · rintro D a0 i x ds H3 H4 Rr Fz hi ed s3 eD ⟨rfl, hx⟩ el
      rw [List.getElem?_map] at hx
      obtain ⟨z, ez, rfl⟩ := Option.map_eq_some_iff.mp hx
      rw [List.getElem?_map, List.getElem?_map, ez] at ed
      obtain rfl := Option.some.inj ed
      walk_at "rd"
      refine ⟨.ref b, rfl, .ref b, ms, us, u', rfl, AlgAt.sameA (Same.trans S2 s3) hB, hu', hn', fun H5 a5 s5 na5 ea5 => ?_⟩
      refine ⟨a5, rfl, ⟨_, SqL.of ea5⟩, ?_⟩
      have ne : a5 ≠ D := fun e => by
        rw [e, eD] at na5
        cases na5
      refine el _ _ _ _ _ H5 s5 (walk_list (K := K) (a := a5) (xs := (places u' ms).map V.int)) (fun H6 x6 => SqL.of (x6 _ _ ne ea5)) (by simp) ?_
      rintro k x1 d H6 H7 a1 Z F1 hk ed1 x6 eD6 ⟨rfl, hx1⟩ hz
      rw [List.getElem?_map] at hx1
      obtain ⟨y, ey, rfl⟩ := Option.map_eq_some_iff.mp hx1
      rw [List.getElem?_map, List.getElem?_map, ey] at ed1
      obtain rfl := Option.some.inj ed1
      walk_at "rd"
      exact ⟨Or.inr (by have := hu'.len; constructor <;> omega), hz _ _ (Same.refl _) (.int _)⟩
    · rintro D acc H3 hD s3 e3 a3
      rw [pl_flat] at a3
      obtain rfl := DpAll.ints a3
      refine ⟨D, _, rfl, Or.inl ⟨SqL.of e3, fun t ht => ?_⟩⟩
      refine q _ _ (Same.trans S2 (Same.trans s3 (Same.new ht))) ?_
      exact .tup (.inl (.inl upd_same)) (DpAll.ofInts _)

def spPairTable (K : PySem.W.Frag) : Sp := fun vs H Q _ => ∃ v t v' u, vs = [v, v'] ∧ Dp K H v (tabD t) ∧ Dp K H v' (tabD u) ∧ t.length ≤ 60 ∧ u.length ≤ 60 ∧ ∀ H' x, Same H H' → Dp K H' x (tabD (pairTable t u)) → Q x H'
abbrev s_pair_table : Stmt := topS 19
abbrev n_pair_table : List Str := ["one_table", "other_table", "many", "pairs", "first", "second"]
theorem sc_pair_table : FnScope n_pair_table ["one_table", "other_table"] (defScope s_pair_table) := ⟨rfl, rfl, rfl, by decide +kernel, rfl, by decide +kernel, by decide +kernel⟩
theorem ok_pair_table (T : Ks mg) (F : Fun K "_pair_table" "_pair_table" s_pair_table f fd) : FnOk P w K mg base CX0 1 f fd ["one_table", "other_table"] (spPairTable K) := by
  refine F.ok sc_pair_table (fun vs H Q E h => ?_) (fun cdv A outer s H vs Q E hr h => ?_)
  · obtain ⟨v, t, v', u, rfl, _⟩ := h
    rfl
  · obtain ⟨v, t, v', u, rfl, ht, hu, lt, lu, q⟩ := h
    refine ⟨_, (pss_cons (ps_set (i := 2) sc_pair_table.nd rfl (by first | exact Or.inl rfl | exact Or.inr rfl) (pe_callB (cLen K) (by rfl) T.b_len PySem.boot_len (pa_cons (pv 1) pa_nil)))
      (pss_cons (ps_setLc2 (i := 3) (own := [("first", 4), ("second", 5)]) (vs1 := [5]) rfl sc_pair_table.nd rfl rfl (sw_true rfl rfl rfl (by decide +kernel)) (piT K (pv 0)) (blkOk_by (own := [("first", 4), ("second", 5)]) (N := n_pair_table) (sc := defScope s_pair_table) (by decide +kernel)) (by decide) (fun _ _ _ _ _ => (by exact (pg_name (i := 4) sc_pair_table.nd rfl (by first | exact Or.inl rfl | exact Or.inr rfl)))) (fun _ _ _ _ _ => (by exact pts_nil)) (fun _ _ _ _ _ => (by exact (piT K (pv 1)))) (fun _ _ _ _ _ => (by exact (pg_name (i := 5) sc_pair_table.nd rfl (by first | exact Or.inl rfl | exact Or.inr rfl)))) (fun _ _ _ _ _ => (by exact pts_nil)) (fun _ _ _ _ _ => (by exact (pe_tup (pa_cons (pv 4) (pa_cons (pv 5) pa_nil))))))
      (pss_one (ps_ret (pe_callTy (cTup K) (by rfl) T.b_tuple (by decide +kernel) (pa_cons (pe_lc (own := [("first", 4), ("second", 5)]) rfl sc_pair_table.nd (piL K (pv 3)) (blkOk_by (own := [("first", 4), ("second", 5)]) (N := n_pair_table) (sc := defScope s_pair_table) (by decide +kernel)) (fun _ _ _ _ _ => (by exact (pgT K 2 rfl (pgs_cons (pg_name (i := 4) sc_pair_table.nd rfl (by first | exact Or.inl rfl | exact Or.inr rfl)) (pgs_cons (pg_name (i := 5) sc_pair_table.nd rfl (by first | exact Or.inl rfl | exact Or.inr rfl)) pgs_nil))))) (fun _ _ _ _ _ => (by exact pts_nil)) (fun _ _ _ _ _ => (by exact (pe_ifExp (PW.pt (pw_or (pt_cmpR op_isN (pv 4) (pe_non) (nomark _)) (pw_or1 (pt_cmpR op_isN (pv 5) (pe_non) (nomark _))))) (pe_non) (pe_op op_add (pe_op op_mul (pv 4) (pv 2)) (pv 5)))))) pa_nil)))))), ?_⟩
    walk_at "rd"
    obtain ⟨at_, xt, rfl, hT, kT⟩ := Dp.tupE ht
    obtain rfl := DpAll.opts kT
    obtain ⟨au, xu, rfl, hU, kU⟩ := Dp.tupE hu
    obtain rfl := DpAll.opts kU
    refine ⟨au, _, rfl, .inr hU, ?_⟩
    refine tlc2 (K := K) (fun R r => ⟨_, rfl, at_, rfl, ⟨_, hT⟩, r⟩) (walk_tup (K := K) (a := at_) (xs := t.map optV)) (fun H' s3 => SqT.sameT s3 hT) (t.map fun a => u.map fun b => .tuple [optD a, optD b]) ?_ (by simp) ?_ ?_ ?_
    · intro ds hds
      obtain ⟨a, _, rfl⟩ := List.mem_map.mp hds
      exact flat_pairs a u
    · rw [← List.flatMap_def, List.length_flatMap]
      simp only [List.length_map, List.map_const', List.sum_replicate_nat]
      have : t.length * u.length ≤ 60 * 60 := Nat.mul_le_mul lt lu
      omega
    · rintro D a0 i x ds H3 H4 Rr Fz hi ed s3 eD ⟨rfl, hx⟩ el
      rw [List.getElem?_map] at hx ed
      obtain ⟨z, ez, rfl⟩ := Option.map_eq_some_iff.mp hx
      rw [ez] at ed
      obtain rfl := Option.some.inj ed
      walk_at "rd"
      refine ⟨_, rfl, au, rfl, ⟨_, SqT.sameT s3 hU⟩, ?_⟩
      have nD : ∀ H6, Ext D H4 H6 → SqT K H6 au (u.map optV) := fun H6 x6 => SqT.stay (Ext.stay x6 eD id) (SqT.sameT s3 hU)
      refine el _ _ _ _ _ H4 (Same.refl _) (walk_tup (K := K) (a := au) (xs := u.map optV)) nD (by simp) ?_
      rintro k x1 d H6 H7 a1 Z F1 hk ed1 x6 eD6 ⟨rfl, hx1⟩ hz
      rw [List.getElem?_map] at hx1 ed1
      obtain ⟨y, ey, rfl⟩ := Option.map_eq_some_iff.mp hx1
      rw [ey] at ed1
      obtain rfl := Option.some.inj ed1
      walk_at "rd"
      refine ⟨_, rfl, _, rfl, by show 2 ≤ sizeLine; decide, fun p hp => hz _ _ (Same.new hp) ?_⟩
      exact .tup (.inl (.inl upd_same)) (.cons (dp_opt z) (.cons (dp_opt y) .nil))
    · rintro D acc H3 hD s3 e3 a3
      have e4 : (t.map fun a => u.map fun b => PyData.tuple [optD a, optD b]).flatten = (t.flatMap fun a => u.map fun b => (a, b)).map fun p => .tuple [optD p.1, optD p.2] := by
        rw [List.flatMap_def, List.map_flatten, List.map_map]
        congr 1
        apply List.map_congr_left
        intro a _
        simp
      rw [e4] at a3
      have la := DpAll.length a3
      rw [List.length_map] at la
      refine tlc (K := K) (fun R r => ⟨_, rfl, D, rfl, ⟨_, SqL.of e3⟩, r⟩) (walk_list (K := K) (a := D) (xs := acc)) (fun H' s4 => SqL.of (s4 _ _ e3)) ((pairTable t u).map optD) (flat_opts _) ?_ ?_ ?_ ?_
      · rw [la, List.length_map, pairTable, List.length_flatMap, List.length_flatMap]
        simp
      · rw [la, List.length_flatMap]
        simp only [List.length_map, List.map_const', List.sum_replicate_nat]
        have : t.length * u.length ≤ 60 * 60 := Nat.mul_le_mul lt lu
        exact small_line (by omega)
      · rintro j x d H5 H6 Z Fz hj ed s5 ⟨rfl, hx⟩ hz
        obtain ⟨d2, ed2, hd2⟩ := DpAll.getV a3 hx
        rw [List.getElem?_map] at ed2
        obtain ⟨⟨a, b⟩, eab, rfl⟩ := Option.map_eq_some_iff.mp ed2
        have ed3 : (pairTable t u) = (t.flatMap fun a => u.map fun b => (a, b)).map fun p => pairOf (u.length : Int) p.1 p.2 := by
          rw [pairTable, List.map_flatMap]
          simp only [List.map_map, Function.comp_def]
        rw [ed3, List.getElem?_map, List.getElem?_map, eab] at ed
        obtain rfl := Option.some.inj ed
        obtain ⟨ap, xp, rfl, hP, kP⟩ := Dp.tupE (Dp.sameD s5 hd2)
        cases kP with
        | cons k1 k2 =>
          cases k2 with
          | cons k2 k3 =>
            cases k3
            obtain rfl := dp_optE k1
            obtain rfl := dp_optE k2
            refine ⟨ap, _, rfl, hP, rfl, _, _, rfl, _, _, rfl, rfl, ?_⟩
            walk_at "rd"
            simp only [List.length_map]
            cases a with
            | none => exact iteT (hz _ _ (Same.refl _) .non)
            | some i =>
              cases b with
              | none => exact iteF (iteT (hz _ _ (Same.refl _) .non))
              | some j =>
                refine iteF (iteF ?_)
                simp only [optV, ex_ii]
                exact ⟨Or.inr (by constructor <;> omega), hz _ _ (Same.refl _) (.int _)⟩
      · rintro D2 acc2 H5 hD2 s5 e5 a5
        obtain rfl := DpAll.opts a5
        refine ⟨D2, _, rfl, Or.inl ⟨SqL.of e5, fun p hp => ?_⟩⟩
        exact q _ _ (Same.trans s3 (Same.trans s5 (Same.new hp))) (.tup (.inl (.inl upd_same)) (DpAll.ofOpts _))
end
end Rw

/-! the products' mirrors -/
namespace Rw
open PySem PySem.Spec PyProof.Rows L2
open C8 (Cal Mak pe_c pe_mk)
local macro_rules | `(tactic| walk_at "rd") => `(tactic| try simp only [tCB, tCons, tNil, tVar, tC, tOp, tAndV, tOrV, tNotV, tAnd, tOr, tNot, tTest, tB, tIf, tChain, tRet, tSeq, tIfS, tAsg, gName, tDrop, tNext, tCall, tProp, tBM, tMake, rI0, rI, cx_K, cx_w, cx_P, L2.start, List.map_cons, List.map_nil, List.length_cons, List.length_nil, List.replicate_succ, List.replicate_zero, List.cons_append, List.nil_append, List.append_nil,
  List.getElem?_cons_zero, List.getElem?_cons_succ, List.set_cons_zero, List.set_cons_succ, ex_some, ex_bl, ex_ii, ex_i, Nat.reduceAdd, Nat.reduceSub, wipe, tYes, eq_self, true_and, ↓reduceIte])

theorem mul_le_int {a b c d : Nat} (h1 : a ≤ c) (h2 : b ≤ d) : a * b ≤ c * d := Nat.mul_le_mul h1 h2
theorem pairLevels_len (u v ls ms : List Int) : (pairLevels u v ls ms).length = ls.length * ms.length := by
  rw [pairLevels, List.length_flatMap]
  simp only [List.length_map, places, List.map_const', List.sum_replicate_nat]
theorem pairLevels_mem {u v ls ms : List Int} (hu : Srt u ls) (hv : Srt v ms) {x : Int} (h : x ∈ pairLevels u v ls ms) : 0 ≤ x ∧ x < ((ls.length * ms.length : Nat) : Int) := by
  rw [pairLevels, List.mem_flatMap] at h
  obtain ⟨a, ha, hb⟩ := h
  obtain ⟨b, hb', rfl⟩ := List.mem_map.mp hb
  obtain ⟨z, hz, rfl⟩ := List.mem_map.mp ha
  obtain ⟨y, hy, rfl⟩ := List.mem_map.mp hb'
  have h1 := plc_lt ((hu.2 z).mpr hz)
  have h2 := plc_lt ((hv.2 y).mpr hy)
  have e : ((plc u z : Nat) : Int) * (v.length : Int) + ((plc v y : Nat) : Int) = ((plc u z * v.length + plc v y : Nat) : Int) := by
    rw [Int.natCast_add, Int.natCast_mul]
  rw [e]
  refine ⟨Int.natCast_nonneg _, Int.ofNat_lt.mpr ?_⟩
  have h3 : (plc u z + 1) * v.length ≤ u.length * v.length := Nat.mul_le_mul_right _ h1
  have h4 : u.length * v.length ≤ ls.length * ms.length := Nat.mul_le_mul hu.len hv.len
  rw [Nat.add_mul, Nat.one_mul] at h3
  omega
theorem pairTable_len (t u : List (Option Int)) : (pairTable t u).length = t.length * u.length := by
  rw [pairTable, List.length_flatMap]
  simp only [List.length_map, List.map_const', List.sum_replicate_nat]
theorem pairTable_mem {t u : List (Option Int)} {i : Int} (h : some i ∈ pairTable t u) : ∃ a b, some a ∈ t ∧ some b ∈ u ∧ i = a * (u.length : Int) + b := by
  rw [pairTable, List.mem_flatMap] at h
  obtain ⟨a, ha, hb⟩ := h
  obtain ⟨b, hb, e⟩ := List.mem_map.mp hb
  cases a with
  | none => cases b <;> cases e
  | some a =>
    cases b with
    | none => cases e
    | some b => exact ⟨a, b, ha, hb, (Option.some.inj e).symm⟩
/-- a table over n elements -/
def TabOk (n : Nat) (t : List (Option Int)) : Prop := t.length = n ∧ ∀ i, some i ∈ t → 0 ≤ i ∧ i < (n : Int)
theorem pairTable_ok {n m : Nat} {t u : List (Option Int)} (ht : TabOk n t) (hu : TabOk m u) : TabOk (n * m) (pairTable t u) := by
  refine ⟨by rw [pairTable_len, ht.1, hu.1], fun i hi => ?_⟩
  obtain ⟨a, b, ha, hb, rfl⟩ := pairTable_mem hi
  obtain ⟨a0, a1⟩ := ht.2 a ha
  obtain ⟨b0, b1⟩ := hu.2 b hb
  rw [hu.1]
  have h1 : (a + 1) * (m : Int) ≤ (n : Int) * (m : Int) := Int.mul_le_mul_of_nonneg_right (by omega) (Int.natCast_nonneg _)
  have h2 : 0 ≤ a * (m : Int) := Int.mul_nonneg a0 (Int.natCast_nonneg _)
  rw [Int.add_mul, Int.one_mul] at h1
  rw [Int.natCast_mul]
  omega
theorem OkAlg.tab {ls : List Int} {ts : List (List (Option Int))} (o : OkAlg ls ts) {t : List (Option Int)} (h : t ∈ ts) : TabOk ls.length t := o.tb t h
/-- an algebra of pairs, whatever its tables are -/
theorem OkAlg.pairs {ls ms u v : List Int} {ts us zs : List (List (Option Int))} (o : OkAlg ls ts) (p : OkAlg ms us) (hu : Srt u ls) (hv : Srt v ms) (hn : ls.length * ms.length ≤ 64) (z1 : 1 ≤ zs.length) (z2 : zs.length ≤ 64) (hz : ∀ z ∈ zs, TabOk (ls.length * ms.length) z) :
    OkAlg (pairLevels u v ls ms) zs := by
  have l1 := o.l1
  have l2 := p.l1
  have e := pairLevels_len u v ls ms
  refine ⟨?_, by rw [e]; exact hn, fun x hx => ?_, z1, z2, fun z hz2 => ?_⟩
  · rw [e]
    exact Nat.mul_le_mul l1 l2
  · have := pairLevels_mem hu hv hx
    omega
  · have := hz z hz2
    rw [TabOk, ← e] at this
    exact this
def lexTables (ts us : List (List (Option Int))) : List (List (Option Int)) := ts.flatMap fun t => us.map fun s => pairTable t s
def kept (n : Nat) : List (Option Int) := (List.range n).map fun (i : Nat) => some (i : Int)
def fixedT (n : Nat) (i : Nat) : List (Option Int) := List.replicate n (some (i : Int))
def scTables (n m : Nat) (ts us : List (List (Option Int))) : List (List (Option Int)) :=
  (ts.flatMap fun t => (List.range m).map fun i => pairTable t (fixedT m i)) ++ us.map fun s => pairTable (kept n) s
theorem lexTables_len (ts us : List (List (Option Int))) : (lexTables ts us).length = ts.length * us.length := by
  rw [lexTables, List.length_flatMap]
  simp only [List.length_map, List.map_const', List.sum_replicate_nat]
theorem scTables_len (n m : Nat) (ts us : List (List (Option Int))) : (scTables n m ts us).length = ts.length * m + us.length := by
  rw [scTables, List.length_append, List.length_flatMap]
  simp only [List.length_map, List.length_range, List.map_const', List.sum_replicate_nat]
theorem kept_ok (n : Nat) : TabOk n (kept n) := by
  refine ⟨by simp [kept], fun i hi => ?_⟩
  obtain ⟨j, hj, e⟩ := List.mem_map.mp hi
  have := List.mem_range.mp hj
  cases e
  omega
theorem fixed_ok {n i : Nat} (h : i < n) : TabOk n (fixedT n i) := by
  refine ⟨by simp [fixedT], fun j hj => ?_⟩
  have := List.eq_of_mem_replicate hj
  cases this
  omega
theorem lex_ok {ls ms u v : List Int} {ts us : List (List (Option Int))} (o : OkAlg ls ts) (p : OkAlg ms us) (hu : Srt u ls) (hv : Srt v ms) (hn : ls.length * ms.length ≤ 64) (hf : ts.length * us.length ≤ 64) : OkAlg (pairLevels u v ls ms) (lexTables ts us) := by
  have l1 := o.t1
  have l2 := p.t1
  refine o.pairs p hu hv hn ?_ ?_ fun z hz => ?_
  · rw [lexTables_len]
    exact Nat.mul_le_mul l1 l2
  · rw [lexTables_len]
    exact hf
  · rw [lexTables, List.mem_flatMap] at hz
    obtain ⟨t, ht, hz⟩ := hz
    obtain ⟨s, hs, rfl⟩ := List.mem_map.mp hz
    exact pairTable_ok (o.tab ht) (p.tab hs)
theorem sc_ok {ls ms u v : List Int} {ts us : List (List (Option Int))} (o : OkAlg ls ts) (p : OkAlg ms us) (hu : Srt u ls) (hv : Srt v ms) (hn : ls.length * ms.length ≤ 64) (hf : ts.length * ms.length + us.length ≤ 64) : OkAlg (pairLevels u v ls ms) (scTables ls.length ms.length ts us) := by
  have l2 := p.t1
  refine o.pairs p hu hv hn ?_ ?_ fun z hz => ?_
  · rw [scTables_len]
    omega
  · rw [scTables_len]
    exact hf
  · rw [scTables, List.mem_append] at hz
    rcases hz with hz | hz
    · rw [List.mem_flatMap] at hz
      obtain ⟨t, ht, hz⟩ := hz
      obtain ⟨i, hi, rfl⟩ := List.mem_map.mp hz
      exact pairTable_ok (o.tab ht) (fixed_ok (List.mem_range.mp hi))
    · obtain ⟨s, hs, rfl⟩ := List.mem_map.mp hz
      exact pairTable_ok (kept_ok _) (p.tab hs)

/-- Algebra(l, g) -/
theorem mkAlg {K : PySem.W.Frag} {C : Addr} {H1 : Hp} {l g : V} {ls : List Int} {ts : List (List (Option Int))} {Q : VK} (hl : Dp K H1 l (intsD ls)) (hg : Dp K H1 g (tabsD ts)) (ok : OkAlg ls ts)
    (h : ∀ x H', H1 x = none → Same H1 H' → AlgAt K C H' (.ref x) ls ts → Q (.ref x) H') :
    ∀ x dx, H1 x = none → H1 dx = none → dx ≠ x → spAlgInit K C [.ref x, l, g] (upd (upd H1 dx (.own x)) x (.ins C dx [])) (fun v H2 => v = .non ∧ Q (.ref x) H2) E0 := by
  intro x dx nx nd ne
  refine ⟨x, dx, l, g, ls, ts, H1, rfl, upd_same, fun b o e => ?_, nx, hl, hg, ok, fun H' s e => ⟨rfl, h x H' nx s ⟨x, dx, l, g, rfl, e, Dp.sameD s hl, Dp.sameD s hg⟩⟩⟩
  rw [upd_ne (ne_of_none e nx), upd_ne (ne_of_none e nd)]
  exact e

section
variable {P : Program} {w : World} {K : PySem.W.Frag} {mg : Str → Option Value} {base : Heap} {f C : Addr} {fd : FuncData}
theorem lex_flat (ts us : List (List (Option Int))) : ((ts.map fun t => us.map fun s => tabD (pairTable t s))).flatten = (lexTables ts us).map tabD := by
  unfold lexTables
  rw [List.flatMap_def, List.map_flatten, List.map_map]
  congr 1
  apply List.map_congr_left
  intro a _
  simp
/-- a list of tables made into a tuple -/
theorem DpAll.tabs_get {K : PySem.W.Frag} {H : Hp} {xs : List V} {ts : List (List (Option Int))} {k : Nat} {x : V} (h : DpAll K H xs (ts.map tabD)) (e : xs[k]? = some x) : ∃ t, ts[k]? = some t ∧ Dp K H x (tabD t) := by
  obtain ⟨d, ed, hd⟩ := DpAll.getV h e
  rw [List.getElem?_map] at ed
  obtain ⟨t, et, rfl⟩ := Option.map_eq_some_iff.mp ed
  exact ⟨t, et, hd⟩
end
end Rw

/-! lexicographic -/
namespace Rw
open PySem PySem.Spec PyProof.Rows L2
open C8 (Cal Mak pe_c pe_mk)
local macro_rules | `(tactic| walk_at "rd") => `(tactic| try simp only [tCB, tCons, tNil, tVar, tC, tOp, tAndV, tOrV, tNotV, tAnd, tOr, tNot, tTest, tB, tIf, tChain, tRet, tSeq, tIfS, tAsg, gName, tDrop, tNext, tCall, tProp, tBM, tMake, rI0, rI, cx_K, cx_w, cx_P, L2.start, List.map_cons, List.map_nil, List.length_cons, List.length_nil, List.replicate_succ, List.replicate_zero, List.cons_append, List.nil_append, List.append_nil,
  List.getElem?_cons_zero, List.getElem?_cons_succ, List.set_cons_zero, List.set_cons_succ, ex_some, ex_bl, ex_ii, ex_i, Nat.reduceAdd, Nat.reduceSub, wipe, tYes, eq_self, true_and, ↓reduceIte])

section
variable {P : Program} {w : World} {K : PySem.W.Frag} {mg : Str → Option Value} {base : Heap} {f C : Addr} {fd : FuncData}
def spLex (K : PySem.W.Frag) (C : Addr) : Sp := fun vs H Q _ => ∃ v ls ts u v' ms us u', vs = [v, v'] ∧ AlgAt K C H v ls ts ∧ AlgAt K C H v' ms us ∧ Srt u ls ∧ Srt u' ms ∧ OkAlg ls ts ∧ OkAlg ms us ∧ ls.length ≤ 60 ∧ ms.length ≤ 60 ∧
  ls.length * ms.length ≤ 64 ∧ ts.length * us.length ≤ 64 ∧ ∀ H' x, Same H H' → AlgAt K C H' x (pairLevels u u' ls ms) (lexTables ts us) → Q x H'
abbrev s_lexicographic : Stmt := topS 20
abbrev n_lexicographic : List Str := ["one", "other", "tables", "table", "second"]
theorem sc_lexicographic : FnScope n_lexicographic ["one", "other"] (defScope s_lexicographic) := ⟨rfl, rfl, rfl, by decide +kernel, rfl, by decide +kernel, by decide +kernel⟩
theorem ok_lexicographic (T : Ks mg) (F : Fun K "lexicographic" "lexicographic" s_lexicographic f fd) (C_p_levels : Prp P w K mg base 1 C "levels" "_levels") (C_p_functions : Prp P w K mg base 1 C "functions" "_functions")
    (C_check_two : Cal P w K mg base 2 "_check_two" (spCheck2 K C) []) (C_check_many : Cal P w K mg base 1 "_check_many" spMany []) (C_pair_table : Cal P w K mg base 1 "_pair_table" (spPairTable K) [])
    (C_pair_levels : Cal P w K mg base 4 "_pair_levels" (spPairLevels K C) []) (C_Algebra : Mak P w K mg base 3 "Algebra" C (spAlgInit K C) []) :
    FnOk P w K mg base CX0 5 f fd ["one", "other"] (spLex K C) := by
  refine F.ok sc_lexicographic (fun vs H Q E h => ?_) (fun cdv A outer s H vs Q E hr h => ?_)
  · obtain ⟨v, ls, ts, u, v', ms, us, u', rfl, _⟩ := h
    rfl
  · obtain ⟨v, ls, ts, u, v', ms, us, u', rfl, hA, hB, hu, hu', oA, oB, hn, hn', hm, hf, q⟩ := h
    refine ⟨_, (pss_cons (ps_expr (pe_c C_check_two hr (by decide) rfl (pa_cons (pv 0) (pa_cons (pv 1) pa_nil))))
      (pss_cons (ps_expr (pe_c C_check_many hr (by decide) rfl (pa_cons (pe_op op_mul (pe_callB (cLen K) (by rfl) T.b_len PySem.boot_len (pa_cons (pe_pr C_p_levels hr (by decide) (pv 0)) pa_nil)) (pe_callB (cLen K) (by rfl) T.b_len PySem.boot_len (pa_cons (pe_pr C_p_levels hr (by decide) (pv 1)) pa_nil))) pa_nil)))
      (pss_cons (ps_expr (pe_c C_check_many hr (by decide) rfl (pa_cons (pe_op op_mul (pe_callB (cLen K) (by rfl) T.b_len PySem.boot_len (pa_cons (pe_pr C_p_functions hr (by decide) (pv 0)) pa_nil)) (pe_callB (cLen K) (by rfl) T.b_len PySem.boot_len (pa_cons (pe_pr C_p_functions hr (by decide) (pv 1)) pa_nil))) pa_nil)))
      (pss_cons (ps_setLc2 (i := 2) (own := [("table", 3), ("second", 4)]) (vs1 := [4]) rfl sc_lexicographic.nd rfl rfl (sw_true rfl rfl rfl (by decide +kernel)) (piT K (pe_pr C_p_functions hr (by decide) (pv 0))) (blkOk_by (own := [("table", 3), ("second", 4)]) (N := n_lexicographic) (sc := defScope s_lexicographic) (by decide +kernel)) (by decide) (fun _ _ _ _ _ => (by exact (pg_name (i := 3) sc_lexicographic.nd rfl (by first | exact Or.inl rfl | exact Or.inr rfl)))) (fun _ _ _ _ _ => (by exact pts_nil)) (fun _ _ _ _ _ => (by exact (piT K (pe_pr C_p_functions hr (by decide) (pv 1))))) (fun _ _ _ _ _ => (by exact (pg_name (i := 4) sc_lexicographic.nd rfl (by first | exact Or.inl rfl | exact Or.inr rfl)))) (fun _ _ _ _ _ => (by exact pts_nil)) (fun _ _ _ _ _ => (by exact (pe_c C_pair_table hr (by decide) rfl (pa_cons (pv 3) (pa_cons (pv 4) pa_nil))))))
      (pss_one (ps_ret (pe_mk C_Algebra hr (by decide) rfl (pa_cons (pe_c C_pair_levels hr (by decide) rfl (pa_cons (pv 0) (pa_cons (pv 1) pa_nil))) (pa_cons (pe_callTy (cTup K) (by rfl) T.b_tuple (by decide +kernel) (pa_cons (pv 2) pa_nil)) pa_nil))))))))), ?_⟩
    walk_at "rd"
    refine ⟨v, ls, ts, v', ms, us, rfl, hA, hB, ?_⟩
    obtain ⟨a, dx, l, g, rfl, ha, hl, hg⟩ := id hA
    obtain ⟨b, dy, l', g', rfl, hb, hl', hg'⟩ := id hB
    obtain ⟨al, xl, rfl, hL, kL⟩ := Dp.tupE hl
    obtain ⟨bl, yl, rfl, hL', kL'⟩ := Dp.tupE hl'
    obtain ⟨ag, xg, rfl, hG, kG⟩ := Dp.tupE hg
    obtain ⟨bg, yg, rfl, hG', kG'⟩ := Dp.tupE hg'
    have nl := DpAll.length kL
    have nl' := DpAll.length kL'
    have ng := DpAll.length kG
    have ng' := DpAll.length kG'
    rw [List.length_map] at nl nl' ng ng'
    refine ⟨a, dx, _, rfl, ha, a, dx, _, _, rfl, ha, af_l _ _, al, xl, rfl, .inr hL, ?_⟩
    refine ⟨b, dy, _, rfl, hb, b, dy, _, _, rfl, hb, af_l _ _, bl, yl, rfl, .inr hL', ?_⟩
    rw [nl, nl']
    walk_at "rd"
    refine ⟨Or.inl (by constructor <;> omega), _, rfl, by rw [← Int.natCast_mul]; omega, ?_⟩
    refine ⟨a, dx, _, rfl, ha, a, dx, _, _, rfl, ha, af_f _ _, ag, xg, rfl, .inr hG, ?_⟩
    refine ⟨b, dy, _, rfl, hb, b, dy, _, _, rfl, hb, af_f _ _, bg, yg, rfl, .inr hG', ?_⟩
    rw [ng, ng']
    have t2 := oA.t2
    have t2' := oB.t2
    walk_at "rd"
    refine ⟨Or.inl (by constructor <;> omega), _, rfl, by rw [← Int.natCast_mul]; omega, ?_⟩
    refine tlc2 (K := K) (fun R r => ⟨.ref a, rfl, a, dx, _, rfl, ha, a, dx, _, _, rfl, ha, af_f _ _, ag, rfl, ⟨_, hG⟩, r⟩) (walk_tup (K := K) (a := ag) (xs := xg)) (fun H' s3 => SqT.sameT s3 hG) (ts.map fun t => us.map fun s => tabD (pairTable t s)) ?_ (by rw [List.length_map, ng]) ?_ ?_ ?_
    · intro ds hds
      obtain ⟨t, _, rfl⟩ := List.mem_map.mp hds
      have := flat_tabs (us.map fun s => pairTable t s)
      rw [List.map_map] at this
      exact this
    · rw [lex_flat, List.length_map, lexTables_len]
      omega
    · rintro D a0 i x ds H3 H4 Rr Fz hi ed s3 eD ⟨rfl, hx⟩ el
      obtain ⟨t, et, ht⟩ := DpAll.tabs_get kG hx
      have mt := List.mem_of_getElem? et
      rw [List.getElem?_map, et] at ed
      obtain rfl := Option.some.inj ed
      walk_at "rd"
      have hb3 := s3 _ _ hb
      have hG3 := SqT.sameT s3 hG'
      have nD : ∀ H6, Ext D H4 H6 → SqT K H6 bg yg := fun H6 x6 => SqT.stay (Ext.stay x6 eD id) hG3
      refine ⟨.ref b, rfl, b, dy, _, rfl, hb3, b, dy, _, _, rfl, hb3, af_f _ _, bg, rfl, ⟨_, hG3⟩, ?_⟩
      refine el _ _ _ _ _ H4 (Same.refl _) (walk_tup (K := K) (a := bg) (xs := yg)) nD (by rw [List.length_map, ng']) ?_
      rintro k x1 d H6 H7 a1 Z F1 hk ed1 x6 eD6 ⟨rfl, hx1⟩ hz
      obtain ⟨s', es, hs'⟩ := DpAll.tabs_get kG' hx1
      have ms' := List.mem_of_getElem? es
      rw [List.getElem?_map, es] at ed1
      obtain rfl := Option.some.inj ed1
      have st := Stay.trans (Stay.same s3) (Ext.stay x6 eD id)
      walk_at "rd"
      refine ⟨x, t, x1, s', rfl, Dp.stay st ht (flat_tabD _), Dp.stay st hs' (flat_tabD _), by rw [(oA.tab mt).1]; exact hn, by rw [(oB.tab ms').1]; exact hn', fun H8 y s8 hy => hz y H8 s8 hy⟩
    · rintro D acc H3 hD s3 e3 a3
      rw [lex_flat] at a3
      refine ⟨.ref a, ls, ts, u, .ref b, ms, us, u', rfl, AlgAt.sameA s3 hA, AlgAt.sameA s3 hB, hu, hu', hn, hn', fun H4 x s4 hx => ?_⟩
      refine ⟨D, acc, rfl, .inl ⟨SqL.of (s4 _ _ e3), fun t ht => ?_⟩⟩
      have s5 := Same.trans s4 (Same.new (o := .tup acc) ht)
      refine mkAlg (Dp.sameD (Same.new ht) hx) (.tup (.inl (.inl upd_same)) (DpAll.sameD s5 a3)) (lex_ok oA oB hu hu' hm hf) fun y H5 ny s6 hy => ?_
      exact q _ _ (Same.trans s3 (Same.trans s5 s6)) hy

end
end Rw

/-! the draws -/
namespace Rw
open PySem PySem.Spec PyProof.Rows L2
open C8 (Cal Mak pe_c pe_mk)
local macro_rules | `(tactic| walk_at "rd") => `(tactic| try simp only [tCB, tCons, tNil, tVar, tC, tOp, tAndV, tOrV, tNotV, tAnd, tOr, tNot, tTest, tB, tIf, tChain, tRet, tSeq, tIfS, tAsg, gName, gSub, tDrop, tNext, tCall, tProp, tBM, tMake, rI0, rI, cx_K, cx_w, cx_P, L2.start, List.map_cons, List.map_nil, List.length_cons, List.length_nil, List.replicate_succ, List.replicate_zero, List.cons_append, List.nil_append, List.append_nil,
  List.getElem?_cons_zero, List.getElem?_cons_succ, List.set_cons_zero, List.set_cons_succ, ex_some, ex_bl, ex_ii, ex_i, Nat.reduceAdd, Nat.reduceSub, wipe, tYes, eq_self, true_and, ↓reduceIte])

/-- the row of a law: the script, how many were taken, the seed, the rest -/
def rowL (s : Addr) (n m k : Int) : HO := .lst [.ref s, .int n, .int m, .int k]
/-- s is not r, or it is known whatever the heap is -/
def Away (K : PySem.W.Frag) (s r : Addr) (xs : List V) : Prop := s ≠ r ∨ ∀ H, SqL K H s xs
theorem away_of {K : PySem.W.Frag} {H : Hp} {s r : Addr} {xs : List V} (h : SqL K H s xs) (n : H r = none) : Away K s r xs := by
  rcases h with (h | ⟨o, h⟩) | h
  · exact .inl (ne_of_none h n)
  · exact .inl (ne_of_none h n)
  · exact .inr fun _ => .inr h
def RowAt (K : PySem.W.Frag) (ns : List Int) (s : Addr) (H : Hp) (r : Addr) : Prop := ∃ n m k, H r = some (rowL s n m k) ∧ SqL K H s (ns.map V.int) ∧ Away K s r (ns.map V.int) ∧ 0 ≤ n
theorem seqL_ext {K : PySem.W.Frag} {r s : Addr} {H H' : Hp} {xs : List V} (x : Ext r H H') (n : Away K s r xs) (h : SqL K H s xs) : SqL K H' s xs := by
  rcases n with n | n
  rotate_left
  · exact n H'
  rcases h with (h | ⟨o, h⟩) | h
  · exact .inl (.inl (x s _ n h))
  · exact .inl (.inr ⟨o, x s _ n h⟩)
  · exact .inr h
theorem RowAt.same {K : PySem.W.Frag} {ns : List Int} {sc : Addr} {H H' : Hp} {r : Addr} (s : Same H H') (h : RowAt K ns sc H r) : RowAt K ns sc H' r := by
  obtain ⟨n, m, k, h1, h2, h3, h4⟩ := h
  exact ⟨n, m, k, s _ _ h1, Same.seq s h2, h3, h4⟩
/-- what a def that draws may do -/
structure Drew (K : PySem.W.Frag) (ns : List Int) (sc r : Addr) (H H' : Hp) : Prop where
  ext : Ext r H H'
  row : RowAt K ns sc H' r
theorem Drew.trans {K : PySem.W.Frag} {ns : List Int} {sc r : Addr} {H H1 H2 : Hp} (a : Drew K ns sc r H H1) (b : Drew K ns sc r H1 H2) : Drew K ns sc r H H2 := ⟨Ext.trans a.ext b.ext, b.row⟩
theorem Drew.refl {K : PySem.W.Frag} {ns : List Int} {sc r : Addr} {H : Hp} (h : RowAt K ns sc H r) : Drew K ns sc r H H := ⟨Ext.refl _ _, h⟩
theorem Drew.same {K : PySem.W.Frag} {ns : List Int} {sc r : Addr} {H H' : Hp} (h : RowAt K ns sc H r) (s : Same H H') : Drew K ns sc r H H' := ⟨Ext.same s, h.same s⟩
theorem RowAt.at_ {K : PySem.W.Frag} {ns : List Int} {sc : Addr} {H : Hp} {r : Addr} (h : RowAt K ns sc H r) : ∃ u, H r = some u ∧ ¬ Fixed u := by
  obtain ⟨n, m, k, h1, _⟩ := h
  exact ⟨_, h1, id⟩
theorem Drew.stay {K : PySem.W.Frag} {ns : List Int} {sc r : Addr} {H H' : Hp} (h : RowAt K ns sc H r) (d : Drew K ns sc r H H') : Stay H H' := by
  obtain ⟨u, h1, h2⟩ := h.at_
  exact Ext.stay d.ext h1 h2
def spTaken (K : PySem.W.Frag) : Sp := fun vs H Q _ => ∃ r many ns sc, vs = [.ref r, .int many] ∧ 0 < many ∧ many < 1073741824 ∧ RowAt K ns sc H r ∧ ∀ d H', 0 ≤ d → d < many → Drew K ns sc r H H' → Q (.int d) H'
theorem RowAt.ext {K : PySem.W.Frag} {ns : List Int} {sc r : Addr} {H H' : Hp} (h : RowAt K ns sc H r) (x : Ext r H H') (e : H' r = H r) : RowAt K ns sc H' r := by
  obtain ⟨n, m, k, h1, h2, h3, h4⟩ := h
  exact ⟨n, m, k, e.trans h1, seqL_ext x h3 h2, h3, h4⟩
/-- an object that was not there at H1 is changed -/
theorem Drew.put {K : PySem.W.Frag} {ns : List Int} {sc r D : Addr} {H1 H : Hp} {o : HO} (h : RowAt K ns sc H1 r) (d : Drew K ns sc r H1 H) (hD : H1 D = none) : Drew K ns sc r H1 (upd H D o) := by
  obtain ⟨u, hu, _⟩ := h.at_
  have nr : r ≠ D := ne_of_none hu hD
  have x : Ext r H1 (upd H D o) := fun b p nb e => by
    rw [upd_ne (ne_of_none e hD)]
    exact d.ext b p nb e
  obtain ⟨n, m, k, h1, h2, h3, h4⟩ := d.row
  obtain ⟨_, _, _, _, g2, _, _⟩ := h
  exact ⟨x, n, m, k, by rw [upd_ne nr]; exact h1, seqL_ext x h3 g2, h3, h4⟩
theorem Drew.keep {K : PySem.W.Frag} {ns : List Int} {sc r D : Addr} {H1 H H' : Hp} {o : HO} (h : RowAt K ns sc H1 r) (hD : H1 D = none) (d : Drew K ns sc r H H') (e : H D = some o) : H' D = some o := by
  obtain ⟨u, hu, _⟩ := h.at_
  exact d.ext D o (Ne.symm (ne_of_none hu hD)) e
/-- a comprehension whose elements are drawn -/
theorem tlcDraw {K : PySem.W.Frag} {ns : List Int} {sc r : Addr} {J : It} {n : Nat} {G : Hp → Prop} {Y : Nat → Hp → V → Hp → Prop} {wi : TI} {g : TG} {tt : TT} {te : TE} {vs : List Nat} {σ : L2.St} {H H1 : Hp} {Q : VK}
    (hwi : ∀ R : It → Hp → Prop, R J H1 → wi σ H R) (w : Walk J n G Y) (row : RowAt K ns sc H1 r) (hG : ∀ H', Drew K ns sc r H1 H' → G H') (A : Nat → V → Prop) (hz : n ≤ 4000)
    (hs : ∀ k x H' H'' (Z : V → Hp → Prop) (F : Hp → Prop), k < n → Drew K ns sc r H1 H' → Y k H' x H'' → (∀ y H4, Drew K ns sc r H' H4 → A k y → Z y H4) →
      g x (wipe σ vs) H'' fun σ2 H2 => wipe σ2 vs = wipe σ vs ∧ tt σ2 H2 fun b H3 => if b = true then te σ2 H3 Z else F H3)
    (hd : ∀ D acc H', H1 D = none → Drew K ns sc r H1 H' → H' D = some (.lst acc) → acc.length = n → (∀ k y, acc[k]? = some y → A k y) → Q (.ref D) H') : tLc wi g tt te vs σ H Q := by
  refine hwi _ fun D hD => ?_
  refine lc_it w (fun k H' => Drew K ns sc r H1 H' ∧ ∃ acc, H' D = some (.lst acc) ∧ acc.length = k ∧ ∀ j y, acc[j]? = some y → A j y) ⟨Drew.put row (Drew.refl row) hD, [], upd_same, rfl, fun j y e => by simp at e⟩ (fun i H' _ h => hG H' h.1) ?_ ?_
  · rintro k x H2 H3 hk ⟨d2, acc, e2, l2, a2⟩ y2
    refine hs k x H2 H3 _ _ hk d2 y2 fun y H4 d4 ha => ⟨acc, Drew.keep row hD d4 e2, Nat.lt_of_le_of_lt (by omega : acc.length ≤ 4000) (by decide), Drew.put row (d2.trans d4) hD, acc ++ [y], upd_same, by simp [l2], fun j z e => ?_⟩
    by_cases hj : j < acc.length
    · rw [List.getElem?_append_left hj] at e
      exact a2 j z e
    · rw [List.getElem?_append_right (by omega)] at e
      have j0 : j - acc.length = 0 := by
        cases h0 : j - acc.length with
        | zero => rfl
        | succ m => rw [h0] at e; simp at e
      rw [j0] at e
      have : y = z := by simpa using e
      subst this
      have : j = k := by omega
      subst this
      exact ha
  · rintro H2 ⟨d2, acc, e2, l2, a2⟩
    exact hd D acc H2 hD d2 e2 l2 a2
section
variable {P : Program} {w : World} {K : PySem.W.Frag} {mg : Str → Option Value} {base : Heap} {f C : Addr} {fd : FuncData}
theorem row_put {ns : List Int} {H : Hp} {r s : Addr} {n m k n' m' k' : Int} (h : H r = some (rowL s n m k)) (hs : SqL K H s (ns.map V.int)) (hn : Away K s r (ns.map V.int)) (h0 : 0 ≤ n') : Drew K ns s r H (upd H r (rowL s n' m' k')) :=
  ⟨Ext.put, n', m', k', upd_same, seqL_ext Ext.put hn hs, hn, h0⟩
abbrev s_law_taken : Stmt := topS 22
abbrev n_law_taken : List Str := ["row", "many", "found", "cell"]
theorem sc_law_taken : FnScope n_law_taken ["row", "many"] (defScope s_law_taken) := ⟨rfl, rfl, rfl, by decide +kernel, rfl, by decide +kernel, by decide +kernel⟩
theorem ok_law_taken (T : Bl mg) (F : Fun K "_law_taken" "_law_taken" s_law_taken f fd) : FnOk P w K mg base CX0 1 f fd ["row", "many"] (spTaken K) := by
  refine F.ok sc_law_taken (fun vs H Q E h => ?_) (fun cdv A outer s H vs Q E hr h => ?_)
  · obtain ⟨r, many, ns, sc, rfl, _⟩ := h
    rfl
  · obtain ⟨r, many, ns, sc, rfl, h0, h1, ⟨n, m, k, hR, hS, hne, hn⟩, q⟩ := h
    refine ⟨_, (pss_cons (ps_if (pt_cmpR op_gt (pe_ix (ixL K) (pv 0) (pe_int) (fun _ _ => rfl)) (pe_int) (nomark _)) (pss_cons (ps_set (i := 2) sc_law_taken.nd rfl (by first | exact Or.inl rfl | exact Or.inr rfl) (pe_op op_mod (pe_callTy call_int1 (by rfl) T.b_int (by decide +kernel) (pa_cons (pe_ix (ixL K) (pv 0) (pe_int) (fun _ _ => rfl)) pa_nil)) (pv 1)))
      (pss_cons (ps_asg (pe_op op_fdiv (pe_ix (ixL K) (pv 0) (pe_int) (fun _ _ => rfl)) (pv 1)) (pg_sub (pv 0) (pe_int) set_list))
      (pss_one (ps_ret (pv 2))))) pss_nil)
      (pss_cons (ps_asg (pe_op op_add (pe_ix (ixL K) (pv 0) (pe_int) (fun _ _ => rfl)) (pe_int)) (pg_sub (pv 0) (pe_int) set_list))
      (pss_cons (ps_if (pt_cmpR op_gt (pe_ix (ixL K) (pv 0) (pe_int) (fun _ _ => rfl)) (pe_callB (cLen K) (by rfl) T.b_len PySem.boot_len (pa_cons (pe_ix (ixL K) (pv 0) (pe_int) (fun _ _ => rfl)) pa_nil)) (nomark _)) (pss_cons (ps_asg (pe_op op_mod (pe_callTy call_int1 (by rfl) T.b_int (by decide +kernel) (pa_cons (pe_op op_add (pe_op op_mul (pe_ix (ixL K) (pv 0) (pe_int) (fun _ _ => rfl)) (pe_int)) (pe_int)) pa_nil)) (pe_int)) (pg_sub (pv 0) (pe_int) set_list))
      (pss_one (ps_ret (pe_op op_mod (pe_callTy call_int1 (by rfl) T.b_int (by decide +kernel) (pa_cons (pe_op op_fdiv (pe_ix (ixL K) (pv 0) (pe_int) (fun _ _ => rfl)) (pe_int)) pa_nil)) (pv 1))))) pss_nil)
      (pss_cons (ps_set (i := 3) sc_law_taken.nd rfl (by first | exact Or.inl rfl | exact Or.inr rfl) (pe_ix (ixL K) (pe_ix (ixL K) (pv 0) (pe_int) (fun _ _ => rfl)) (pe_op op_sub (pe_ix (ixL K) (pv 0) (pe_int) (fun _ _ => rfl)) (pe_int)) (fun _ _ => rfl)))
      (pss_cons (ps_asg (pe_op op_mod (pe_callTy call_int1 (by rfl) T.b_int (by decide +kernel) (pa_cons (pe_op op_add (pe_op op_add (pe_op op_mul (pe_ix (ixL K) (pv 0) (pe_int) (fun _ _ => rfl)) (pe_int)) (pv 3)) (pe_int)) pa_nil)) (pe_int)) (pg_sub (pv 0) (pe_int) set_list))
      (pss_cons (ps_if (pt_cmpR op_ge (pv 3) (pe_op op_pow (pe_int) (pe_int)) (nomark _)) (pss_one (ps_asg (pe_op op_fdiv (pv 3) (pv 1)) (pg_sub (pv 0) (pe_int) set_list))) pss_nil)
      (pss_one (ps_ret (pe_op op_mod (pe_callTy call_int1 (by rfl) T.b_int (by decide +kernel) (pa_cons (pv 3) pa_nil)) (pv 1)))))))))), ?_⟩
    walk_at "rd"
    refine ⟨r, _, 3, .int k, rfl, rfl, SqL.of hR, rfl, ?_⟩
    walk_at "rd"
    have mod0 : ∀ z : Int, 0 ≤ z % many := fun z => Int.emod_nonneg z (by omega)
    have mod1 : ∀ z : Int, z % many < many := fun z => Int.emod_lt_of_pos z h0
    refine ite2 (fun hk => ?_) (fun hk => ?_)
    · refine ⟨r, _, 3, .int k, rfl, rfl, SqL.of hR, rfl, ?_⟩
      refine .inl ⟨k, rfl, ?_⟩
      walk_at "rd"
      refine ⟨h0, r, _, 3, .int k, rfl, rfl, SqL.of hR, rfl, ?_⟩
      walk_at "rd"
      refine ⟨⟨h0, h1⟩, r, _, 3, 3, rfl, rfl, hR, rfl, ?_⟩
      exact q _ _ (mod0 _) (mod1 _) (row_put hR hS hne hn)
    · refine ⟨r, _, 1, .int n, rfl, rfl, SqL.of hR, rfl, ?_⟩
      walk_at "rd"
      refine ⟨r, _, 1, 1, rfl, rfl, hR, rfl, ?_⟩
      have d1 := row_put (K := K) (n' := n + 1) (m' := m) (k' := k) hR hS hne (by omega)
      generalize hH1 : upd H r (rowL sc (n + 1) m k) = H1 at d1
      have hR1 : H1 r = some (rowL sc (n + 1) m k) := hH1 ▸ upd_same
      have e1 : upd H r (HO.lst ([V.ref sc, V.int n, V.int m, V.int k].set 1 (V.int (n + 1)))) = H1 := hH1
      rw [e1]
      have hS1 : SqL K H1 sc (ns.map V.int) := seqL_ext d1.ext hne hS
      refine ⟨r, _, 1, .int (n + 1), rfl, rfl, SqL.of hR1, rfl, r, _, 0, .ref sc, rfl, rfl, SqL.of hR1, rfl, sc, ns.map V.int, rfl, .inl hS1, ?_⟩
      walk_at "rd"
      rw [List.length_map]
      refine ite2 (fun hl => ?_) (fun hl => ?_)
      · refine ⟨r, _, 2, .int m, rfl, rfl, SqL.of hR1, rfl, ?_⟩
        walk_at "rd"
        refine ⟨Or.inr (by constructor <;> omega), .inl ⟨_, rfl, ?_⟩⟩
        walk_at "rd"
        refine ⟨by omega, r, _, 2, 2, rfl, rfl, hR1, rfl, ?_⟩
        generalize hm' : (m * 48271 + 11) % 2147483647 = m'
        have d2 := row_put (K := K) (n' := n + 1) (m' := m') (k' := k) hR1 hS1 hne (by omega)
        generalize hH2 : upd H1 r (rowL sc (n + 1) m' k) = H2 at d2
        have hR2 : H2 r = some (rowL sc (n + 1) m' k) := hH2 ▸ upd_same
        have e2 : upd H1 r (HO.lst ([V.ref sc, V.int (n + 1), V.int m, V.int k].set 2 (V.int m'))) = H2 := hH2
        rw [e2]
        refine ⟨r, _, 2, .int m', rfl, rfl, SqL.of hR2, rfl, ?_⟩
        walk_at "rd"
        refine ⟨by constructor <;> omega, .inl ⟨_, rfl, ?_⟩⟩
        walk_at "rd"
        exact ⟨h0, q _ _ (mod0 _) (mod1 _) (d1.trans d2)⟩
      · have hl : ¬ ((ns.length : Int) < n + 1) := by simpa using hl
        obtain ⟨c, hc⟩ := getE (l := ns) (k := n.toNat) (by omega)
        refine ⟨r, _, 0, .ref sc, rfl, rfl, SqL.of hR1, rfl, r, _, 1, .int (n + 1), rfl, rfl, SqL.of hR1, rfl, ?_⟩
        walk_at "rd"
        refine ⟨sc, ns.map V.int, n + 1 - 1, .int c, rfl, rfl, hS1, ?_, ?_⟩
        · refine at_of (j := n.toNat) (by omega) ?_
          rw [List.getElem?_map, hc]
          rfl
        walk_at "rd"
        refine ⟨r, _, 2, .int m, rfl, rfl, SqL.of hR1, rfl, ?_⟩
        walk_at "rd"
        refine ⟨Or.inr (by constructor <;> omega), .inl ⟨_, rfl, ?_⟩⟩
        walk_at "rd"
        refine ⟨by omega, r, _, 2, 2, rfl, rfl, hR1, rfl, ?_⟩
        generalize hm' : (m * 48271 + c + 11) % 2147483647 = m'
        have d2 := row_put (K := K) (n' := n + 1) (m' := m') (k' := k) hR1 hS1 hne (by omega)
        generalize hH2 : upd H1 r (rowL sc (n + 1) m' k) = H2 at d2
        have hR2 : H2 r = some (rowL sc (n + 1) m' k) := hH2 ▸ upd_same
        have e2 : upd H1 r (HO.lst ([V.ref sc, V.int (n + 1), V.int m, V.int k].set 2 (V.int m'))) = H2 := hH2
        rw [e2]
        have hS2 : SqL K H2 sc (ns.map V.int) := seqL_ext d2.ext hne hS1
        refine ⟨⟨by decide, by decide, by decide⟩, ?_⟩
        refine ite2 (fun hb => ?_) (fun hb => ?_)
        · refine ⟨⟨h0, h1⟩, r, _, 3, 3, rfl, rfl, hR2, rfl, .inl ⟨_, rfl, ?_⟩⟩
          walk_at "rd"
          have d3 := row_put (K := K) (n' := n + 1) (m' := m') (k' := c / many) hR2 hS2 hne (by omega)
          exact ⟨h0, q _ _ (mod0 _) (mod1 _) ((d1.trans d2).trans d3)⟩
        · refine .inl ⟨_, rfl, ?_⟩
          walk_at "rd"
          exact ⟨h0, q _ _ (mod0 _) (mod1 _) (d1.trans d2)⟩
end
end Rw

/-! the same data are alike -/
namespace Rw
open PySem PySem.Spec PyProof.Rows L2
open C8 (Cal Mak pe_c pe_mk)
local macro_rules | `(tactic| walk_at "rd") => `(tactic| try simp only [tCB, tCons, tNil, tVar, tC, tOp, tAndV, tOrV, tNotV, tAnd, tOr, tNot, tTest, tB, tIf, tChain, tRet, tSeq, tIfS, tAsg, gName, gSub, tDrop, tNext, tCall, tProp, tBM, tMake, rI0, rI, cx_K, cx_w, cx_P, L2.start, List.map_cons, List.map_nil, List.length_cons, List.length_nil, List.replicate_succ, List.replicate_zero, List.cons_append, List.nil_append, List.append_nil,
  List.getElem?_cons_zero, List.getElem?_cons_succ, List.set_cons_zero, List.set_cons_succ, ex_some, ex_bl, ex_ii, ex_i, Nat.reduceAdd, Nat.reduceSub, wipe, tYes, eq_self, true_and, ↓reduceIte])

mutual
/-- data at most n deep, no dict in it, not too long -/
def deep : Nat → PyData → Prop
  | 0, .list _ => False
  | 0, .tuple _ => False
  | _, .dict _ => False
  | n + 1, .list ds => ds.length ≤ 4000 ∧ ∀ d ∈ ds, deep n d
  | n + 1, .tuple ds => ds.length ≤ 4000 ∧ ∀ d ∈ ds, deep n d
  | _, _ => True
end
def isSeq : PyData → Bool
  | .list _ => true
  | .tuple _ => true
  | _ => false
theorem isi_seq {K : PySem.W.Frag} {H : Hp} {v : V} {d : PyData} {tp : Addr} {Q : VK} (h : Dp K H v d) (ht : H tp = some (.tup [.ty "tuple", .ty "list"])) (q : Q (.bl (isSeq d)) H) : rIsiT K [v, .ref tp] H Q := by
  refine ⟨v, tp, _, .type (tyN d), [.type "tuple", .type "list"], isSeq d, rfl, ht, .cons (.ty _) (.cons (.ty _) .nil), dpTy h, ?_, q⟩
  refine kitAny_cons (kit_ty (kb_tuple d)) (fun e1 => kitAny_cons (kit_ty (kb_list d)) (fun e2 => ?_) (fun e2 => ?_)) (fun e1 => ?_)
  · rw [kitAny_nil]
    cases d <;> simp_all [isTup, isLst, isSeq]
  · cases d <;> simp_all [isTup, isLst, isSeq]
  · cases d <;> simp_all [isTup, isLst, isSeq]
def spAlike (K : PySem.W.Frag) (n : Nat) : Sp := fun vs H Q _ => ∃ v v' d, vs = [v, v'] ∧ Dp K H v d ∧ Dp K H v' d ∧ deep n d ∧ gives H (.bl true) Q
section
variable {P : Program} {w : World} {K : PySem.W.Frag} {mg : Str → Option Value} {base : Heap} {f C : Addr} {fd : FuncData}
abbrev s_law_alike : Stmt := topS 23
abbrev n_law_alike : List Str := ["found", "due", "k"]
theorem sc_law_alike : FnScope n_law_alike ["found", "due"] (defScope s_law_alike) := ⟨rfl, rfl, rfl, by decide +kernel, rfl, by decide +kernel, by decide +kernel⟩
theorem ok_alike1 (T : Bl mg) (F : Fun K "_law_alike" "_law_alike" s_law_alike f fd) (n : Nat) (sp : Sp) (hsp : ∀ m, n = m + 1 → sp = spAlike K m) (C_law_alike : Cal P w K mg base (n + 1) "_law_alike" sp []) :
    FnOk P w K mg base CX0 (n + 2) f fd ["found", "due"] (spAlike K n) := by
  refine F.ok sc_law_alike (fun vs H Q E h => ?_) (fun cdv A outer s H vs Q E hr h => ?_)
  · obtain ⟨v, v', d, rfl, _⟩ := h
    rfl
  · obtain ⟨v, v', d, rfl, hv, hv', hd, q⟩ := h
    refine ⟨_, (pss_cons (ps_if (pt_val (pe_callB (cIsiT K) (by rfl) T.b_isinstance (by decide +kernel) (pa_cons (pv 1) (pa_cons (pe_tup (pa_cons (pe_bltn (v := .ty "tuple") (by rfl) T.b_tuple (by decide +kernel) rfl) (pa_cons (pe_bltn (v := .ty "list") (by rfl) T.b_list (by decide +kernel) rfl) pa_nil))) pa_nil)))) (pss_cons (ps_if (PW.pt (pw_or (pt_not (pt_val (pe_callB (cIsiT K) (by rfl) T.b_isinstance (by decide +kernel) (pa_cons (pv 0) (pa_cons (pe_tup (pa_cons (pe_bltn (v := .ty "tuple") (by rfl) T.b_tuple (by decide +kernel) rfl) (pa_cons (pe_bltn (v := .ty "list") (by rfl) T.b_list (by decide +kernel) rfl) pa_nil))) pa_nil))))) (pw_or1 (pt_cmpR op_ne (pe_callB (cIsi K) (by rfl) T.b_isinstance (by decide +kernel) (pa_cons (pv 0) (pa_cons (pe_bltn (v := .ty "list") (by rfl) T.b_list (by decide +kernel) rfl) pa_nil))) (pe_callB (cIsi K) (by rfl) T.b_isinstance (by decide +kernel) (pa_cons (pv 1) (pa_cons (pe_bltn (v := .ty "list") (by rfl) T.b_list (by decide +kernel) rfl) pa_nil))) (nomark _))))) (pss_one (ps_ret (pe_bl))) pss_nil)
      (pss_cons (ps_if (pt_cmpR op_ne (pe_callB (cLen K) (by rfl) T.b_len PySem.boot_len (pa_cons (pv 0) pa_nil)) (pe_callB (cLen K) (by rfl) T.b_len PySem.boot_len (pa_cons (pv 1) pa_nil)) (nomark _)) (pss_one (ps_ret (pe_bl))) pss_nil)
      (pss_one (ps_ret (pe_cmpR (opEqD K hr) (pe_lc (own := [("k", 2)]) rfl sc_law_alike.nd (pi_range1 rfl T.b_range (pa_cons (pe_callB (cLen K) (by rfl) T.b_len PySem.boot_len (pa_cons (pv 1) pa_nil)) pa_nil)) (blkOk_by (own := [("k", 2)]) (N := n_law_alike) (sc := defScope s_law_alike) (by decide +kernel)) (fun _ _ _ _ _ => (by exact (pg_name (i := 2) sc_law_alike.nd rfl (by first | exact Or.inl rfl | exact Or.inr rfl)))) (fun _ _ _ _ _ => (by exact pts_one (pt_not (pt_val (pe_c C_law_alike hr (by omega) rfl (pa_cons (pe_ix (ixA K) (pv 0) (pv 2) (fun _ _ => rfl)) (pa_cons (pe_ix (ixA K) (pv 1) (pv 2) (fun _ _ => rfl)) pa_nil))))))) (fun _ _ _ _ _ => (by exact (pv 2)))) (pe_lst pa_nil) (nomark _)))))) pss_nil)
      (pss_cons (ps_if (PW.pt (pw_or (pt_cmpR op_isN (pv 1) (pe_non) (nomark _)) (pw_or1 (pt_val (pe_callB (cIsi K) (by rfl) T.b_isinstance (by decide +kernel) (pa_cons (pv 1) (pa_cons (pe_bltn (v := .ty "str") (by rfl) T.b_str (by decide +kernel) rfl) pa_nil))))))) (pss_one (ps_ret (pe_and (pe_cmpR op_eq (pv 0) (pv 1) (nomark _)) (pe_one (pe_cmpR op_eq (pe_callB (cIsi K) (by rfl) T.b_isinstance (by decide +kernel) (pa_cons (pv 0) (pa_cons (pe_bltn (v := .ty "str") (by rfl) T.b_str (by decide +kernel) rfl) pa_nil))) (pe_callB (cIsi K) (by rfl) T.b_isinstance (by decide +kernel) (pa_cons (pv 1) (pa_cons (pe_bltn (v := .ty "str") (by rfl) T.b_str (by decide +kernel) rfl) pa_nil))) (nomark _)))))) pss_nil)
      (pss_one (ps_ret (pe_and (pe_callB (cIsi K) (by rfl) T.b_isinstance (by decide +kernel) (pa_cons (pv 0) (pa_cons (pe_bltn (v := .ty "int") (by rfl) T.b_int (by decide +kernel) rfl) pa_nil))) (pe_and (pe_cmpR op_eq (pe_callB (cIsi K) (by rfl) T.b_isinstance (by decide +kernel) (pa_cons (pv 0) (pa_cons (pe_bltn (v := .ty "bool") (by rfl) T.b_bool (by decide +kernel) rfl) pa_nil))) (pe_callB (cIsi K) (by rfl) T.b_isinstance (by decide +kernel) (pa_cons (pv 1) (pa_cons (pe_bltn (v := .ty "bool") (by rfl) T.b_bool (by decide +kernel) rfl) pa_nil))) (nomark _)) (pe_one (pe_cmpR op_eq (pv 0) (pv 1) (nomark _))))))))), ?_⟩
    walk_at "rd"
    refine ⟨by show 2 ≤ sizeLine; decide, fun tp htp => ?_⟩
    have s1 : Same H (upd H tp (.tup [.ty "tuple", .ty "list"])) := Same.new htp
    refine isi_seq (Dp.sameD s1 hv') upd_same ⟨_, rfl, ?_⟩
    generalize upd H tp (.tup [.ty "tuple", .ty "list"]) = H1 at s1
    have hv1 := Dp.sameD s1 hv
    have hv1' := Dp.sameD s1 hv'
    have fin : ∀ H', Same H1 H' → Q (.bl true) H' := fun H' s => q H' (Same.trans s1 s)
    clear htp s1 hv hv' q
    by_cases hq : isSeq d = true
    · rw [hq]
      refine iteT ?_
      -- both are sequences of one kind
      obtain ⟨m, ds, a, a', xs, xs', rfl, rfl, hn, hl, hm, hI, hI', kx, kx', hL⟩ : ∃ m ds a a' xs xs', v = .ref a ∧ v' = .ref a' ∧ n = m + 1 ∧ ds.length ≤ 4000 ∧ (∀ d ∈ ds, deep m d) ∧
          (∀ H', Same H1 H' → SqL K H' a xs ∨ SqT K H' a xs) ∧ (∀ H', Same H1 H' → SqL K H' a' xs' ∨ SqT K H' a' xs') ∧ DpAll K H1 xs ds ∧ DpAll K H1 xs' ds ∧ d = (if isLst d then .list ds else .tuple ds) := by
        cases d with
        | list ds =>
          cases n with
          | zero => exact hd.elim
          | succ m =>
            obtain ⟨a, xs, rfl, h1, k1⟩ := Dp.lstE hv1
            obtain ⟨a', xs', rfl, h2, k2⟩ := Dp.lstE hv1'
            exact ⟨m, ds, a, a', xs, xs', rfl, rfl, rfl, hd.1, hd.2, fun H' s => .inl (Same.seq s h1), fun H' s => .inl (Same.seq s h2), k1, k2, rfl⟩
        | tuple ds =>
          cases n with
          | zero => exact hd.elim
          | succ m =>
            obtain ⟨a, xs, rfl, h1, k1⟩ := Dp.tupE hv1
            obtain ⟨a', xs', rfl, h2, k2⟩ := Dp.tupE hv1'
            exact ⟨m, ds, a, a', xs, xs', rfl, rfl, rfl, hd.1, hd.2, fun H' s => .inr (SqT.sameT s h1), fun H' s => .inr (SqT.sameT s h2), k1, k2, rfl⟩
        | _ => cases hq
      refine ⟨by show 2 ≤ sizeLine; decide, fun tp htp => ?_⟩
      have s1 : Same H1 (upd H1 tp (.tup [.ty "tuple", .ty "list"])) := Same.new htp
      refine isi_seq (Dp.sameD s1 hv1) upd_same ⟨_, rfl, ?_⟩
      rw [hq]
      refine iteF ?_
      generalize upd H1 tp (.tup [.ty "tuple", .ty "list"]) = H2 at s1
      refine isi_lst (Dp.sameD s1 hv1) (isi_lst (Dp.sameD s1 hv1') ⟨rfl, _, rfl, ?_⟩)
      rw [decide_eq_true rfl]
      refine iteF ⟨a, xs, rfl, hI _ s1, a', xs', rfl, hI' _ s1, rfl, _, rfl, ?_⟩
      have ll : xs.length = xs'.length := (DpAll.length kx).trans (DpAll.length kx').symm
      rw [ll, decide_eq_true rfl]
      refine iteF ?_
      have lx : xs'.length ≤ 4000 := by rw [DpAll.length kx']; exact hl
      refine tlcNone (J := Itr 0 ((xs'.length : Nat) : Int).toNat) (H1 := H2) (fun R r => ⟨_, rfl, a', xs', rfl, hI' _ s1, _, rfl, by omega, by omega, r⟩) (walk_range (lo := 0) (n := ((xs'.length : Nat) : Int).toNat)) (fun _ _ => trivial) ?_ ?_
      · rintro k x H3 H4 Z Fz hk s3 ⟨rfl, rfl⟩ hz
        have hk' : k < xs'.length := by simpa using hk
        have S3 := Same.trans s1 s3
        obtain ⟨y', ey'⟩ := getE hk'
        obtain ⟨d0, e0, hd0'⟩ := DpAll.getV kx' ey'
        obtain ⟨y, ey, hd0⟩ := DpAll.get kx e0
        walk_at "rd"
        simp only [Int.zero_add]
        have ix : ∀ {b : Addr} {zs : List V} {z : V} {Z2 : VK}, (SqL K H4 b zs ∨ SqT K H4 b zs) → zs[k]? = some z → Z2 z H4 → rIxA K (.ref b) (.int (k : Nat)) H4 Z2 := fun {b zs z Z2} hb hz2 hZ => by
          rcases hb with hb | hb
          · exact .inl ⟨b, zs, _, z, rfl, rfl, hb, atI_nat hz2, hZ⟩
          · exact .inr ⟨b, zs, _, z, rfl, rfl, hb, atI_nat hz2, hZ⟩
        refine ix (hI _ S3) ey (ix (hI' _ S3) ey' ?_)
        rw [hsp m hn]
        refine ⟨y, y', d0, rfl, Dp.sameD S3 hd0, Dp.sameD S3 hd0', hm d0 (List.mem_of_getElem? e0), fun H5 s5 => ?_⟩
        walk_at "rd"
        exact iteF (hz H5 s5)
      · rintro D H3 hD s3 e3
        refine ⟨Nat.zero_le _, fun e he => ?_⟩
        refine ⟨.list [], .list [], .lst (SqL.of (Same.new he _ _ e3)) .nil, .lst (SqL.of upd_same) .nil, by decide, by decide, ?_⟩
        exact fin _ (Same.trans s1 (Same.trans s3 (Same.new he)))
    · have hq' : isSeq d = false := by simpa using hq
      rw [hq']
      refine iteF ?_
      cases hv1 with
      | lst h k => cases hq'
      | tup h k => cases hq'
      | non =>
        cases hv1'
        refine iteT ⟨rfl, _, rfl, ?_⟩
        refine iteT (isi_str .non (isi_str .non ⟨rfl, ?_⟩))
        exact fin H1 (Same.refl _)
      | str x =>
        cases hv1'
        refine iteF (isi_str (.str x) ⟨_, rfl, iteT ⟨rfl, _, rfl, ?_⟩⟩)
        rw [decide_eq_true rfl]
        refine iteT (isi_str (.str x) (isi_str (.str x) ⟨rfl, ?_⟩))
        exact fin H1 (Same.refl _)
      | bl b =>
        cases hv1'
        refine iteF (isi_str (.bl b) ⟨_, rfl, iteF (isi_int (.bl b) ⟨_, rfl, iteT (isi_bool (.bl b) (isi_bool (.bl b) ⟨rfl, _, rfl, ?_⟩))⟩)⟩)
        refine iteT ⟨rfl, ?_⟩
        rw [decide_eq_true rfl]
        exact fin H1 (Same.refl _)
      | int i =>
        cases hv1'
        refine iteF (isi_str (.int i) ⟨_, rfl, iteF (isi_int (.int i) ⟨_, rfl, iteT (isi_bool (.int i) (isi_bool (.int i) ⟨rfl, _, rfl, ?_⟩))⟩)⟩)
        refine iteT ⟨rfl, ?_⟩
        rw [decide_eq_true rfl]
        exact fin H1 (Same.refl _)
theorem cal_mk {x : Str} {st : Stmt} {ps : List Str} {k : Nat} {sp : Sp} (F : Fun K x x st f fd) (hm : mg x = some (.ref f)) (b : Binds K fd ps []) (o : FnOk P w K mg base CX0 k f fd ps sp) : Cal P w K mg base k x sp [] := ⟨f, fd, ps, [], o, hm, F.kp, b, .nil⟩
theorem ok_alike (T : Bl mg) (F : Fun K "_law_alike" "_law_alike" s_law_alike f fd) (hm : mg "_law_alike" = some (.ref f)) (b : Binds K fd ["found", "due"] []) : ∀ n, Cal P w K mg base (n + 2) "_law_alike" (spAlike K n) []
  | 0 => cal_mk F hm b (ok_alike1 T F 0 (fun _ _ _ _ => False) (fun m e => by cases e) (cal_mk F hm b ⟨fun _ _ _ _ h => h.elim, fun _ _ _ _ _ _ _ _ _ _ _ _ _ h => h.elim⟩))
  | n + 1 => cal_mk F hm b (ok_alike1 T F (n + 1) (spAlike K n) (fun m e => by cases e; rfl) (ok_alike T F hm b n))
end
end Rw

/-! drawn algebras -/
namespace Rw
open PySem PySem.Spec PyProof.Rows L2
open C8 (Cal Mak pe_c pe_mk)
local macro_rules | `(tactic| walk_at "rd") => `(tactic| try simp only [tCB, tCons, tNil, tVar, tC, tOp, tAndV, tOrV, tNotV, tAnd, tOr, tNot, tTest, tB, tIf, tChain, tRet, tSeq, tIfS, tAsg, gName, gSub, tDrop, tNext, tCall, tProp, tBM, tMake, tTup, tLst, rI0, rI, cx_K, cx_w, cx_P, L2.start, List.map_cons, List.map_nil, List.length_cons, List.length_nil, List.replicate_succ, List.replicate_zero, List.cons_append, List.nil_append, List.append_nil,
  List.getElem?_cons_zero, List.getElem?_cons_succ, List.set_cons_zero, List.set_cons_succ, ex_some, ex_bl, ex_ii, ex_i, Nat.reduceAdd, Nat.reduceSub, wipe, tYes, eq_self, true_and, ↓reduceIte])
local macro_rules | `(tactic| walk_at "rs") => `(tactic| try simp only [tCB, tCons, tNil, tVar, tC, tOp, tAndV, tOrV, tNotV, tAnd, tOr, tNot, tTest, tB, tIf, tChain, tRet, tAsg, gName, gSub, tDrop, tNext, tCall, tProp, tBM, tMake, tTup, tLst, rI0, rI, cx_K, cx_w, cx_P, L2.start, List.map_cons, List.map_nil, List.length_cons, List.length_nil, List.replicate_succ, List.replicate_zero, List.cons_append, List.nil_append, List.append_nil,
  List.getElem?_cons_zero, List.getElem?_cons_succ, List.set_cons_zero, List.set_cons_succ, ex_some, ex_bl, ex_ii, ex_i, Nat.reduceAdd, Nat.reduceSub, wipe, tYes, eq_self, true_and, ↓reduceIte])
def spLawAlg (K : PySem.W.Frag) : Sp := fun vs H Q _ => ∃ r most many ns sc, vs = [.ref r, .int most, .int many] ∧ 1 ≤ most ∧ most ≤ 20 ∧ 1 ≤ many ∧ many ≤ 20 ∧ RowAt K ns sc H r ∧
  ∀ x ls ts H', OkAlg ls ts → (ls.length : Int) ≤ most → (ts.length : Int) ≤ many → Drew K ns sc r H H' → Dp K H' x (.tuple [intsD ls, tabsD ts]) → Q x H'

theorem seqI {t u : TS} {D : Ends} {σ : L2.St} {H : Hp} (h : t { D with nx := u D } σ H) : tSeq t u D σ H := h
/-- an if without else, its two ways joined -/
theorem ifJoin {t u : TS} {D : Ends} {σ : L2.St} {H : Hp} {tt : TT} (c : Bool) (ht : ∀ R : Bool → Hp → Prop, R c H → tt σ H R) (J : L2.St → Hp → Prop)
    (hA : c = true → ∀ N : L2.St → Hp → Prop, (∀ σ' H', J σ' H' → N σ' H') → t { D with nx := N } σ H) (hB : c = false → J σ H) (hu : ∀ σ' H', J σ' H' → u D σ' H') : tSeq (tIfS tt t tNext) u D σ H := by
  refine ht _ ?_
  cases c with
  | true => exact hA rfl _ hu
  | false => exact hu σ H (hB rfl)
theorem ints_of {acc : List V} {A : Int → Prop} : (∀ (k : Nat) (y : V), acc[k]? = some y → ∃ z, y = .int z ∧ A z) → ∃ zs : List Int, acc = zs.map V.int ∧ ∀ z ∈ zs, A z := by
  induction acc with
  | nil => exact fun _ => ⟨[], rfl, fun z hz => by cases hz⟩
  | cons v acc ih =>
    intro h
    obtain ⟨zs, e, hz⟩ := ih fun k y ey => h (k + 1) y (by simpa using ey)
    obtain ⟨z, rfl, az⟩ := h 0 v rfl
    refine ⟨z :: zs, by rw [e]; rfl, fun y hy => ?_⟩
    rcases List.mem_cons.mp hy with rfl | hy
    · exact az
    · exact hz y hy
theorem opts_of {acc : List V} {A : Option Int → Prop} : (∀ (k : Nat) (y : V), acc[k]? = some y → ∃ z, y = optV z ∧ A z) → ∃ zs : List (Option Int), acc = zs.map optV ∧ ∀ z ∈ zs, A z := by
  induction acc with
  | nil => exact fun _ => ⟨[], rfl, fun z hz => by cases hz⟩
  | cons v acc ih =>
    intro h
    obtain ⟨zs, e, hz⟩ := ih fun k y ey => h (k + 1) y (by simpa using ey)
    obtain ⟨z, rfl, az⟩ := h 0 v rfl
    refine ⟨z :: zs, by rw [e]; rfl, fun y hy => ?_⟩
    rcases List.mem_cons.mp hy with rfl | hy
    · exact az
    · exact hz y hy
/-- ints drawn, each from 0 to 200 -/
theorem drawInts {K : PySem.W.Frag} {ns : List Int} {sc r : Addr} {n : Nat} {wi : TI} {g : TG} {tt : TT} {te : TE} {vs : List Nat} {σ : L2.St} {H : Hp} {Q : VK}
    (hwi : ∀ R : It → Hp → Prop, R (Itr 0 n) H → wi σ H R) (row : RowAt K ns sc H r) (hz : n ≤ 4000)
    (hs : ∀ k H' (Z : V → Hp → Prop) (F : Hp → Prop), k < n → Drew K ns sc r H H' → (∀ z H4, Drew K ns sc r H' H4 → 0 ≤ z → z ≤ 200 → Z (.int z) H4) →
      g (.int (k : Nat)) (wipe σ vs) H' fun σ2 H2 => wipe σ2 vs = wipe σ vs ∧ tt σ2 H2 fun b H3 => if b = true then te σ2 H3 Z else F H3)
    (hd : ∀ (D : Addr) (zs : List Int) (H' : Hp), H D = none → Drew K ns sc r H H' → H' D = some (.lst (zs.map V.int)) → zs.length = n → (∀ z ∈ zs, 0 ≤ z ∧ z ≤ 200) → Q (.ref D) H') : tLc wi g tt te vs σ H Q := by
  refine tlcDraw (K := K) (ns := ns) (sc := sc) (r := r) hwi (walk_range (lo := 0) (n := n)) row (fun _ _ => trivial) (fun _ y => ∃ z, y = .int z ∧ 0 ≤ z ∧ z ≤ 200) hz ?_ ?_
  · rintro k x H2 H3 Z F hk d ⟨rfl, rfl⟩ h
    have e : (0 : Int) + (k : Nat) = (k : Nat) := Int.zero_add _
    show g (.int (0 + (k : Nat))) _ _ _
    rw [e]
    exact hs k _ Z F hk d fun z H4 d4 z0 z1 => h _ H4 d4 ⟨z, rfl, z0, z1⟩
  · rintro D acc H2 hD d e l a
    obtain ⟨zs, rfl, hzs⟩ := ints_of (A := fun z => 0 ≤ z ∧ z ≤ 200) a
    exact hd D zs H2 hD d e (by rw [← l, List.length_map]) hzs
theorem ifJoinD {t u : TS} {D : Ends} {σ : L2.St} {H : Hp} {tt : TT} (J : L2.St → Hp → Prop)
    (h : ∀ U : L2.St → Hp → Prop, (∀ σ' H', J σ' H' → U σ' H') → tt σ H fun b H1 => if b = true then t { D with nx := U } σ H1 else U σ H1) (hu : ∀ σ' H', J σ' H' → u D σ' H') : tSeq (tIfS tt t tNext) u D σ H := h _ hu
/-- a for over a range, the count found under way -/
theorem tforR {wi : TI} {g : TG} {tb : TS} {D : Ends} {σ : L2.St} {H : Hp} (Good : Nat → Hp → Prop) (hwi : ∀ R : It → Hp → Prop, (∀ M H1, Good M H1 → R (Itr 0 M) H1) → wi σ H R)
    (hd : ∀ M H1, Good M H1 → tFor (fun _ _ R => R (Itr 0 M) H1) g tb D σ H1) : tFor wi g tb D σ H := hwi _ hd
def OptIn (n : Nat) (z : Option Int) : Prop := ∀ i, z = some i → 0 ≤ i ∧ i < (n : Int)
theorem tabOf {n : Nat} {os : List (Option Int)} (l : os.length = n) (h : ∀ z ∈ os, OptIn n z) : TabOk n os := ⟨l, fun i hi => h _ hi i rfl⟩
theorem RowAt.ne {K : PySem.W.Frag} {ns : List Int} {sc r D : Addr} {H : Hp} (h : RowAt K ns sc H r) (hD : H D = none) : D ≠ r := by
  obtain ⟨u, hu, _⟩ := h.at_
  exact (ne_of_none hu hD).symm
def JI (K : PySem.W.Frag) (ns : List Int) (sc r : Addr) (st : Addr → Option V → L2.St) (H : Hp) (N : Nat) : L2.St → Hp → Prop := fun σ' H' => ∃ (D : Addr) (u : Option V) (zs : List Int), σ' = st D u ∧ Drew K ns sc r H H' ∧ D ≠ r ∧ H' D = some (.lst (zs.map V.int)) ∧ zs.length = N ∧ ∀ z ∈ zs, 0 ≤ z ∧ z ≤ 200
def JO (K : PySem.W.Frag) (ns : List Int) (sc r : Addr) (st : Addr → Option V → L2.St) (H : Hp) (N : Nat) : L2.St → Hp → Prop := fun σ' H' => ∃ (D : Addr) (u : Option V) (os : List (Option Int)), σ' = st D u ∧ Drew K ns sc r H H' ∧ D ≠ r ∧ H' D = some (.lst (os.map optV)) ∧ TabOk N os
theorem tab_nones (n : Nat) : TabOk n (List.replicate n none) := tabOf List.length_replicate fun z hz i e => by
  rw [(List.mem_replicate.mp hz).2] at e
  cases e
theorem map_nones (n : Nat) : (List.replicate n [V.non]).flatten = (List.replicate n none).map optV := by
  induction n with
  | zero => rfl
  | succ n ih => rw [List.replicate_succ, List.flatten_cons, ih, List.replicate_succ]; rfl
theorem tab_cut {n k : Nat} {os : List (Option Int)} (h : TabOk n os) (hk : k ≤ n) : TabOk n (os.take k ++ List.replicate (n - k) none) := by
  refine ⟨by rw [List.length_append, List.length_take, List.length_replicate, h.1]; omega, fun i hi => ?_⟩
  rcases List.mem_append.mp hi with hi | hi
  · exact h.2 i (List.mem_of_mem_take hi)
  · cases (List.mem_replicate.mp hi).2
section
variable {P : Program} {w : World} {K : PySem.W.Frag} {mg : Str → Option Value} {base : Heap} {f C : Addr} {fd : FuncData}
abbrev s_law_algebra : Stmt := topS 24
abbrev n_law_algebra : List Str := ["row", "most", "many", "size", "way", "denied", "levels", "at", "found", "turn", "table", "one", "cut"]
theorem sc_law_algebra : FnScope n_law_algebra ["row", "most", "many"] (defScope s_law_algebra) := ⟨rfl, rfl, rfl, by decide +kernel, rfl, by decide +kernel, by decide +kernel⟩
theorem ok_law_algebra (T : Bl mg) (F : Fun K "_law_algebra" "_law_algebra" s_law_algebra f fd) (C_law_taken : Cal P w K mg base 1 "_law_taken" (spTaken K) []) : FnOk P w K mg base CX0 2 f fd ["row", "most", "many"] (spLawAlg K) := by
  refine F.ok sc_law_algebra (fun vs H Q E h => ?_) (fun cdv A outer s H vs Q E hr h => ?_)
  · obtain ⟨r, most, many, ns, sc, rfl, _⟩ := h
    rfl
  · obtain ⟨r, most, many, ns, sc, rfl, m1, m2, n1, n2, row, q⟩ := h
    refine ⟨_, (pss_cons (ps_asg (pe_tup (pa_cons (pe_op op_add (pe_int) (pe_c C_law_taken hr (by decide) rfl (pa_cons (pv 0) (pa_cons (pv 1) pa_nil)))) (pa_cons (pe_c C_law_taken hr (by decide) rfl (pa_cons (pv 0) (pa_cons (pe_int) pa_nil))) (pa_cons (pe_c C_law_taken hr (by decide) rfl (pa_cons (pv 0) (pa_cons (pe_int) pa_nil))) pa_nil)))) (pgT K 3 rfl (pgs_cons (pg_name (i := 3) sc_law_algebra.nd rfl (by first | exact Or.inl rfl | exact Or.inr rfl)) (pgs_cons (pg_name (i := 4) sc_law_algebra.nd rfl (by first | exact Or.inl rfl | exact Or.inr rfl)) (pgs_cons (pg_name (i := 5) sc_law_algebra.nd rfl (by first | exact Or.inl rfl | exact Or.inr rfl)) pgs_nil)))))
      (pss_cons (ps_set (i := 6) sc_law_algebra.nd rfl (by first | exact Or.inl rfl | exact Or.inr rfl) (pe_callTy (cTup K) (by rfl) T.b_tuple (by decide +kernel) (pa_cons (pe_callB (cSortI K) (by rfl) T.b_sorted (by decide +kernel) (pa_cons (pe_lc (own := [("at", 7)]) rfl sc_law_algebra.nd (pi_range1 rfl T.b_range (pa_cons (pv 3) pa_nil)) (blkOk_by (own := [("at", 7)]) (N := n_law_algebra) (sc := defScope s_law_algebra) (by decide +kernel)) (fun _ _ _ _ _ => (by exact (pg_name (i := 7) sc_law_algebra.nd rfl (by first | exact Or.inl rfl | exact Or.inr rfl)))) (fun _ _ _ _ _ => (by exact pts_nil)) (fun _ _ _ _ _ => (by exact (pe_c C_law_taken hr (by decide) rfl (pa_cons (pv 0) (pa_cons (pe_op op_add (pv 1) (pe_int)) pa_nil)))))) pa_nil)) pa_nil)))
      (pss_cons (ps_if (pt_cmpR op_eq (pv 4) (pe_int) (nomark _)) (pss_one (ps_set (i := 6) sc_law_algebra.nd rfl (by first | exact Or.inl rfl | exact Or.inr rfl) (pe_callTy (cTup K) (by rfl) T.b_tuple (by decide +kernel) (pa_cons (pe_lc (own := [("at", 7)]) rfl sc_law_algebra.nd (pi_range1 rfl T.b_range (pa_cons (pv 3) pa_nil)) (blkOk_by (own := [("at", 7)]) (N := n_law_algebra) (sc := defScope s_law_algebra) (by decide +kernel)) (fun _ _ _ _ _ => (by exact (pg_name (i := 7) sc_law_algebra.nd rfl (by first | exact Or.inl rfl | exact Or.inr rfl)))) (fun _ _ _ _ _ => (by exact pts_nil)) (fun _ _ _ _ _ => (by exact (pe_c C_law_taken hr (by decide) rfl (pa_cons (pv 0) (pa_cons (pe_op op_add (pv 1) (pe_int)) pa_nil)))))) pa_nil)))) pss_nil)
      (pss_cons (ps_set (i := 8) sc_law_algebra.nd rfl (by first | exact Or.inl rfl | exact Or.inr rfl) (pe_lst pa_nil))
      (pss_cons (ps_for PassesOwn.never rfl (pi_range1 rfl T.b_range (pa_cons (pe_op op_add (pe_int) (pe_c C_law_taken hr (by decide) rfl (pa_cons (pv 0) (pa_cons (pv 2) pa_nil)))) pa_nil)) (pg_name (i := 9) sc_law_algebra.nd rfl (by first | exact Or.inl rfl | exact Or.inr rfl)) (pss_cons (ps_setLc (i := 10) (own := [("at", 7)]) rfl sc_law_algebra.nd rfl rfl (sw_true rfl rfl rfl (by decide +kernel)) (pi_range1 rfl T.b_range (pa_cons (pv 3) pa_nil)) (blkOk_by (own := [("at", 7)]) (N := n_law_algebra) (sc := defScope s_law_algebra) (by decide +kernel)) (fun _ _ _ _ _ => (by exact (pg_name (i := 7) sc_law_algebra.nd rfl (by first | exact Or.inl rfl | exact Or.inr rfl)))) (fun _ _ _ _ _ => (by exact pts_nil)) (fun _ _ _ _ _ => (by exact (pe_c C_law_taken hr (by decide) rfl (pa_cons (pv 0) (pa_cons (pv 3) pa_nil))))))
      (pss_cons (ps_if (pt_cmpR op_eq (pv 4) (pe_int) (nomark _)) (pss_one (ps_setLc (i := 10) (own := [("at", 7)]) rfl sc_law_algebra.nd rfl rfl (sw_true rfl rfl rfl (by decide +kernel)) (pi_range1 rfl T.b_range (pa_cons (pv 3) pa_nil)) (blkOk_by (own := [("at", 7)]) (N := n_law_algebra) (sc := defScope s_law_algebra) (by decide +kernel)) (fun _ _ _ _ _ => (by exact (pg_name (i := 7) sc_law_algebra.nd rfl (by first | exact Or.inl rfl | exact Or.inr rfl)))) (fun _ _ _ _ _ => (by exact pts_nil)) (fun _ _ _ _ _ => (by exact (pe_op op_add (pv 7) (pe_c C_law_taken hr (by decide) rfl (pa_cons (pv 0) (pa_cons (pe_op op_sub (pv 3) (pv 7)) pa_nil)))))))) pss_nil)
      (pss_cons (ps_if (pt_cmpR op_eq (pv 4) (pe_int) (nomark _)) (pss_one (ps_setLc (i := 10) (own := [("at", 7)]) rfl sc_law_algebra.nd rfl rfl (sw_true rfl rfl rfl (by decide +kernel)) (pi_range1 rfl T.b_range (pa_cons (pv 3) pa_nil)) (blkOk_by (own := [("at", 7)]) (N := n_law_algebra) (sc := defScope s_law_algebra) (by decide +kernel)) (fun _ _ _ _ _ => (by exact (pg_name (i := 7) sc_law_algebra.nd rfl (by first | exact Or.inl rfl | exact Or.inr rfl)))) (fun _ _ _ _ _ => (by exact pts_nil)) (fun _ _ _ _ _ => (by exact (pe_op op_add (pe_op op_add (pv 7) (pe_int)) (pe_c C_law_taken hr (by decide) rfl (pa_cons (pv 0) (pa_cons (pe_int) pa_nil)))))))) pss_nil)
      (pss_cons (ps_if (pt_cmpR op_gt (pv 4) (pe_int) (nomark _)) (pss_one (ps_set (i := 10) sc_law_algebra.nd rfl (by first | exact Or.inl rfl | exact Or.inr rfl) (pe_callB (cSortI K) (by rfl) T.b_sorted (by decide +kernel) (pa_cons (pv 10) pa_nil)))) pss_nil)
      (pss_cons (ps_setLc (i := 10) (own := [("one", 11)]) rfl sc_law_algebra.nd rfl rfl (sw_true rfl rfl rfl (by decide +kernel)) (piL K (pv 10)) (blkOk_by (own := [("one", 11)]) (N := n_law_algebra) (sc := defScope s_law_algebra) (by decide +kernel)) (fun _ _ _ _ _ => (by exact (pg_name (i := 11) sc_law_algebra.nd rfl (by first | exact Or.inl rfl | exact Or.inr rfl)))) (fun _ _ _ _ _ => (by exact pts_nil)) (fun _ _ _ _ _ => (by exact (pe_ifExp (pt_cmpR op_lt (pv 11) (pv 3) (nomark _)) (pv 11) (pe_non)))))
      (pss_cons (ps_if (pt_cmpR op_eq (pv 5) (pe_int) (nomark _)) (pss_cons (ps_set (i := 12) sc_law_algebra.nd rfl (by first | exact Or.inl rfl | exact Or.inr rfl) (pe_c C_law_taken hr (by decide) rfl (pa_cons (pv 0) (pa_cons (pe_op op_add (pv 3) (pe_int)) pa_nil))))
      (pss_one (ps_set (i := 10) sc_law_algebra.nd rfl (by first | exact Or.inl rfl | exact Or.inr rfl) (pe_op op_cat (pe_slice (slL K) (pv 10) po_none (po_some (pv 12))) (pe_op op_rep (pe_lst (pa_cons (pe_non) pa_nil)) (pe_op op_sub (pv 3) (pv 12))))))) pss_nil)
      (pss_cons (ps_if (PW.pt (pw_and (pt_cmpR op_eq (pv 5) (pe_int) (nomark _)) (pw_and1 (pt_cmpR op_eq (pv 4) (pe_int) (nomark _))))) (pss_one (ps_setLc (i := 10) (own := [("one", 11)]) rfl sc_law_algebra.nd rfl rfl (sw_true rfl rfl rfl (by decide +kernel)) (piL K (pv 10)) (blkOk_by (own := [("one", 11)]) (N := n_law_algebra) (sc := defScope s_law_algebra) (by decide +kernel)) (fun _ _ _ _ _ => (by exact (pg_name (i := 11) sc_law_algebra.nd rfl (by first | exact Or.inl rfl | exact Or.inr rfl)))) (fun _ _ _ _ _ => (by exact pts_nil)) (fun _ _ _ _ _ => (by exact (pe_ifExp (pt_cmpR op_eq (pe_c C_law_taken hr (by decide) rfl (pa_cons (pv 0) (pa_cons (pe_int) pa_nil))) (pe_int) (nomark _)) (pe_non) (pv 11)))))) pss_nil)
      (pss_cons (ps_if (pt_cmpR op_eq (pe_c C_law_taken hr (by decide) rfl (pa_cons (pv 0) (pa_cons (pe_int) pa_nil))) (pe_int) (nomark _)) (pss_one (ps_set (i := 10) sc_law_algebra.nd rfl (by first | exact Or.inl rfl | exact Or.inr rfl) (pe_op op_rep (pe_lst (pa_cons (pe_non) pa_nil)) (pv 3)))) pss_nil)
      (pss_one (ps_expr (pBm K PySem.F.plainAttrs_list PySem.F.slot_list_append PySem.F.type_list_append mt_append (pv 8) (pa_cons (pe_callTy (cTup K) (by rfl) T.b_tuple (by decide +kernel) (pa_cons (pv 10) pa_nil)) pa_nil)))))))))))))
      (pss_one (ps_ret (pe_tup (pa_cons (pv 6) (pa_cons (pe_callTy (cTup K) (by rfl) T.b_tuple (by decide +kernel) (pa_cons (pv 8) pa_nil)) pa_nil)))))))))), ?_⟩
    refine seqI ?_
    walk_at "rs"
    refine ⟨r, most, ns, sc, rfl, by omega, by omega, row, fun d1 H1 a1 b1 D1 => ?_⟩
    walk_at "rs"
    refine ⟨r, 5, ns, sc, rfl, by decide, by decide, D1.row, fun way H2 a2 b2 D2 => ?_⟩
    walk_at "rs"
    refine ⟨r, 3, ns, sc, rfl, by decide, by decide, D2.row, fun den H3 a3 b3 D3 => ?_⟩
    refine ⟨by show 3 ≤ sizeLine; decide, fun p hp => ?_⟩
    obtain ⟨N, hN⟩ : ∃ N : Nat, 1 + d1 = (N : Int) := ⟨(1 + d1).toNat, by omega⟩
    rw [hN]
    have D4 := Drew.put (o := .tup [.int (N : Int), .int way, .int den]) D3.row (Drew.refl D3.row) hp
    refine ⟨p, _, rfl, .inl (.inl upd_same), rfl, _, _, rfl, _, _, rfl, _, _, rfl, rfl, ?_⟩
    generalize upd H3 p _ = H4 at D4
    have E4 : Drew K ns sc r H H4 := ((D1.trans D2).trans D3).trans D4
    clear D1 D2 D3 D4 hp
    refine seqI ?_
    walk_at "rs"
    -- the levels, sorted
    refine drawInts (K := K) (ns := ns) (sc := sc) (r := r) (n := N) (fun R x => ⟨_, rfl, (N : Int), rfl, by omega, by omega, by simpa using x⟩) E4.row (by omega) ?_ ?_
    · rintro k H5 Z F hk D5 hz
      walk_at "rs"
      exact ⟨r, most + 1, ns, sc, rfl, by omega, by omega, D5.row, fun z H6 z0 z1 D6 => hz z H6 D6 z0 (by omega)⟩
    rintro La zs H5 hLa D5 e5 l5 b5
    refine ⟨La, zs, rfl, SqL.of e5, fun ls p pm pw hp => ⟨p, _, rfl, .inl ⟨SqL.of upd_same, fun t ht => ?_⟩⟩⟩
    have s6 : Same H5 (upd (upd H5 p (.lst (ls.map V.int))) t (.tup (ls.map V.int))) := Same.trans (Same.new hp) (Same.new ht)
    have E6 := (E4.trans D5).trans (Drew.same D5.row s6)
    have h6 : Dp K (upd (upd H5 p (.lst (ls.map V.int))) t (.tup (ls.map V.int))) (.ref t) (intsD ls) := .tup (.inl (.inl upd_same)) (DpAll.ofInts _)
    generalize upd (upd H5 p (.lst (ls.map V.int))) t (.tup (ls.map V.int)) = H6 at s6 E6 h6
    have l6 : ls.length = N := by rw [pm.length_eq, l5]
    have b6 : ∀ z ∈ ls, 0 ≤ z ∧ z ≤ 200 := fun z hz => b5 z (pm.mem_iff.mp hz)
    clear pm pw hp ht s6 b5 l5 e5 D5 hLa E4
    walk_at "rs"
    refine ifJoin (decide (way = 0)) (fun R x => ?_) (fun σ' H' => ∃ lv ls, σ' = [some (.ref r), some (.int most), some (.int many), some (.int N), some (.int way), some (.int den), some lv, none, none, none, none, none, none] ∧ Drew K ns sc r H H' ∧ Dp K H' lv (intsD ls) ∧ ls.length = N ∧ ∀ z ∈ ls, 0 ≤ z ∧ z ≤ 200) (fun c N' hN' => ?_) (fun c => ?_) ?_
    · walk_at "rs"
      refine ⟨rfl, _, rfl, ?_⟩
      have e : decide (V.int way = V.int 0) = decide (way = 0) := by simp
      exact e ▸ x
    · walk_at "rs"
      refine drawInts (K := K) (ns := ns) (sc := sc) (r := r) (n := N) (fun R x => ⟨_, rfl, (N : Int), rfl, by omega, by omega, by simpa using x⟩) E6.row (by omega) ?_ ?_
      · rintro k H5 Z F hk D5 hz
        walk_at "rs"
        exact ⟨r, most + 1, ns, sc, rfl, by omega, by omega, D5.row, fun z H6 z0 z1 D6 => hz z H6 D6 z0 (by omega)⟩
      rintro La zs H7 hLa D7 e7 l7 b7
      refine ⟨La, _, rfl, .inl ⟨SqL.of e7, fun u hu => ?_⟩⟩
      have s8 : Same H7 (upd H7 u (.tup (zs.map V.int))) := Same.new hu
      exact hN' _ _ ⟨_, zs, rfl, (E6.trans D7).trans (Drew.same D7.row s8), .tup (.inl (.inl upd_same)) (DpAll.ofInts _), l7, b7⟩
    · exact ⟨_, _, rfl, E6, h6, l6, b6⟩
    rintro _ H7 ⟨lv, ls', rfl, E7, h7, l7, b7⟩
    clear h6 l6 b6 E6 ls
    refine seqI ?_
    walk_at "rs"
    refine ⟨by decide, fun FD hFD => ?_⟩
    refine seqI ?_
    walk_at "rs"
    have D8 := Drew.put (o := .lst []) E7.row (Drew.refl E7.row) hFD
    refine tforR (fun M H9 => 1 ≤ M ∧ (M : Int) ≤ many ∧ Drew K ns sc r (upd H7 FD (.lst [])) H9) (fun R hR => ?_) ?_
    · simp only [iRng1]
      walk_at "rs"
      refine ⟨r, many, ns, sc, rfl, by omega, by omega, D8.row, fun d9 H9 a9 b9 D9 => ?_⟩
      refine ⟨_, _, rfl, rfl, _, rfl, by omega, by omega, ?_⟩
      exact hR _ _ ⟨by omega, by omega, D9⟩
    rintro M H9 ⟨hM0, hM, D9⟩
    have D89 := D8.trans D9
    have fr : ∀ H' o, Drew K ns sc r H9 H' → H9 FD = some o → H' FD = some o := fun H' o d e => d.ext FD o (E7.row.ne hFD) e
    refine for_it (walk_range (lo := 0) (n := M)) (fun i σ H' => ∃ s9 s10 s12 xs ts, σ = [some (.ref r), some (.int most), some (.int many), some (.int N), some (.int way), some (.int den), some lv, none, some (.ref FD), s9, s10, none, s12] ∧ Drew K ns sc r H7 H' ∧ H' FD = some (.lst xs) ∧ DpAll K H' xs (ts.map tabD) ∧ ts.length = i ∧ ∀ t ∈ ts, TabOk N t)
      ⟨_, _, _, [], [], rfl, D89, fr _ _ (Drew.refl D9.row) (D9.ext FD _ (E7.row.ne hFD) upd_same), .nil, rfl, fun t ht => by cases ht⟩ (fun _ _ _ _ _ => trivial) ?_ ?_
    · rintro i x σ H10 H11 hi ⟨s9, s10, s12, xs, ts, rfl, E10, e10, x10, l10, t10⟩ ⟨rfl, rfl⟩
      refine seqI ?_
      walk_at "rs"
      let st : Addr → Option V → L2.St := fun D u => [some (.ref r), some (.int most), some (.int many), some (.int N), some (.int way), some (.int den), some lv, none, some (.ref FD), some (.int (0 + (i : Nat))), some (.ref D), none, u]
      have R10 := E10.row
      refine drawInts (K := K) (ns := ns) (sc := sc) (r := r) (n := N) (fun R x => ⟨_, rfl, (N : Int), rfl, by omega, by omega, by simpa using x⟩) R10 (by omega) ?_ ?_
      · rintro k H5 Z F hk D5 hz
        walk_at "rs"
        exact ⟨r, (N : Int), ns, sc, rfl, by omega, by omega, D5.row, fun z H6 z0 z1 D6 => hz z H6 D6 z0 (by omega)⟩
      rintro Da zs H12 hDa D12 e12 l12 b12
      walk_at "rs"
      -- upwards
      refine ifJoinD (JI K ns sc r st H11 N) (fun U hU => ?_) ?_
      · walk_at "rs"
        refine ⟨rfl, _, rfl, ?_⟩
        refine ite2 (fun _ => ?_) (fun _ => hU _ _ ⟨Da, s12, zs, rfl, D12, R10.ne hDa, e12, l12, b12⟩)
        refine drawInts (K := K) (ns := ns) (sc := sc) (r := r) (n := N) (fun R x => ⟨_, rfl, (N : Int), rfl, by omega, by omega, by simpa using x⟩) D12.row (by omega) ?_ ?_
        · rintro k H5 Z F hk D5 hz
          walk_at "rs"
          refine ⟨r, _, ns, sc, rfl, ?_, ?_, D5.row, fun z H6 z0 z1 D6 => ?_⟩
          · omega
          · omega
          · exact ⟨_, _, rfl, rfl, hz _ H6 D6 (by omega) (by omega)⟩
        rintro Db ys H13 hDb D13 e13 l13 b13
        exact hU _ _ ⟨Db, s12, ys, rfl, D12.trans D13, D12.row.ne hDb, e13, l13, b13⟩
      clear e12 l12 b12 D12 hDa zs
      rintro _ H12 ⟨Da, u12, zs, rfl, D12, n12, e12, l12, b12⟩
      simp only [st]
      -- well upwards
      refine ifJoinD (JI K ns sc r st H11 N) (fun U hU => ?_) ?_
      · walk_at "rs"
        refine ⟨rfl, _, rfl, ?_⟩
        refine ite2 (fun _ => ?_) (fun _ => hU _ _ ⟨Da, u12, zs, rfl, D12, n12, e12, l12, b12⟩)
        refine drawInts (K := K) (ns := ns) (sc := sc) (r := r) (n := N) (fun R x => ⟨_, rfl, (N : Int), rfl, by omega, by omega, by simpa using x⟩) D12.row (by omega) ?_ ?_
        · rintro k H5 Z F hk D5 hz
          walk_at "rs"
          refine ⟨r, 2, ns, sc, rfl, by decide, by decide, D5.row, fun z H6 z0 z1 D6 => ?_⟩
          exact ⟨_, _, rfl, rfl, hz _ H6 D6 (by omega) (by omega)⟩
        rintro Db ys H13 hDb D13 e13 l13 b13
        exact hU _ _ ⟨Db, u12, ys, rfl, D12.trans D13, D12.row.ne hDb, e13, l13, b13⟩
      clear e12 l12 b12 D12 n12 zs Da u12
      rintro _ H12 ⟨Da, u12, zs, rfl, D12, n12, e12, l12, b12⟩
      simp only [st]
      -- sorted
      refine ifJoinD (JI K ns sc r st H11 N) (fun U hU => ?_) ?_
      · walk_at "rs"
        refine ite2 (fun _ => ?_) (fun _ => hU _ _ ⟨Da, u12, zs, rfl, D12, n12, e12, l12, b12⟩)
        exact ⟨Da, zs, rfl, SqL.of e12, fun ls p pm pw hp => hU _ _ ⟨p, u12, ls, rfl, D12.trans (Drew.same D12.row (Same.new hp)), D12.row.ne hp, upd_same, by rw [pm.length_eq, l12], fun z hz => b12 z (pm.mem_iff.mp hz)⟩⟩
      clear e12 l12 b12 D12 n12 zs Da u12
      rintro _ H12 ⟨Da, u12, zs, rfl, D12, n12, e12, l12, b12⟩
      simp only [st]
      -- what is allowed
      refine seqI ?_
      walk_at "rs"
      refine tlcDraw (K := K) (ns := ns) (sc := sc) (r := r) (fun R x => ⟨_, rfl, Da, rfl, ⟨_, SqL.of e12⟩, x⟩) (walk_list (xs := zs.map V.int)) D12.row (fun H' d => seqL_ext d.ext (.inl n12) (SqL.of e12)) (fun _ y => ∃ z, y = optV z ∧ OptIn N z) (by rw [List.length_map]; omega) ?_ ?_
      · rintro k x H2 H3 Z F hk d2 ⟨rfl, ex⟩ hz
        rw [List.getElem?_map] at ex
        obtain ⟨z, ez, rfl⟩ := Option.map_eq_some_iff.mp ex
        have bz := b12 z (List.mem_of_getElem? ez)
        walk_at "rs"
        refine ite2 (fun h => ?_) (fun h => ?_)
        · exact hz _ _ (Drew.refl d2.row) ⟨some z, rfl, fun i e => by cases e; exact ⟨bz.1, by simpa using h⟩⟩
        · exact hz _ _ (Drew.refl d2.row) ⟨none, rfl, fun i e => by cases e⟩
      rintro Db acc H13 hDb D13 e13 l13 a13
      obtain ⟨os, rfl, ho⟩ := opts_of a13
      have t13 : TabOk N os := tabOf (by rw [← l12, ← List.length_map (f := V.int), ← l13, List.length_map]) ho
      have n13 := D12.row.ne hDb
      replace D13 := D12.trans D13
      clear l13 a13 ho hDb e12 l12 b12 D12 n12 zs Da
      walk_at "rs"
      -- none from a place on
      refine ifJoinD (JO K ns sc r st H11 N) (fun U hU => ?_) ?_
      · walk_at "rs"
        refine ⟨rfl, _, rfl, ?_⟩
        refine ite2 (fun _ => ?_) (fun _ => hU _ _ ⟨Db, u12, os, rfl, D13, n13, e13, t13⟩)
        refine seqI ?_
        walk_at "rs"
        refine ⟨r, _, ns, sc, rfl, by omega, by omega, D13.row, fun cut H14 c0 c1 D14 => ?_⟩
        obtain ⟨c, rfl⟩ : ∃ c : Nat, cut = c := ⟨cut.toNat, by omega⟩
        have e14 : H14 Db = some (.lst (os.map optV)) := D14.ext Db _ n13 e13
        walk_at "rs"
        have cN : c ≤ N := by omega
        have len := t13.1
        have eN : ((N : Int) - (c : Int)).toNat = N - c := by omega
        have eC : cutV (os.map optV) none (some (c : Int)) = (os.take c).map optV := by
          rw [cutV, HT.sIx_none, HT.sIx_nat, List.drop_zero, List.length_map, len, Nat.min_eq_left cN, Nat.sub_zero, List.map_take]
        refine ⟨_, rfl, _, rfl, _, rfl, Db, _, rfl, SqL.of e14, fun a ha => ⟨by decide, fun p hp => ?_⟩⟩
        refine ⟨p, _, [.non], rfl, rfl, upd_same, by omega, by omega, ?_, fun t ht => ?_⟩
        · show 1 * _ ≤ sizeLine
          exact Nat.le_trans (by omega : 1 * ((N : Int) - (c : Int)).toNat ≤ 4000) (by decide)
        · rw [eC, eN]
          rw [eC] at hp ht
          have ra : (upd (upd (upd H14 a (.lst ((os.take c).map optV))) p (.lst [.non])) t (.lst (List.replicate (N - c) [V.non]).flatten)) a = some (.lst ((os.take c).map optV)) := Same.trans (Same.new hp) (Same.new ht) _ _ upd_same
          refine ⟨a, t, _, _, rfl, rfl, ra, upd_same, ?_, fun u hu => ?_⟩
          · rw [map_nones, ← List.length_append, ← List.map_append, List.length_map, (tab_cut t13 cN).1]
            exact Nat.le_trans (by omega : N ≤ 4000) (by decide)
          · have S := Same.trans (Same.trans (Same.new (o := .lst ((os.take c).map optV)) ha) (Same.new (o := .lst [V.non]) hp)) (Same.trans (Same.new ht) (Same.new (o := .lst ((os.take c).map optV ++ (List.replicate (N - c) [V.non]).flatten)) hu))
            refine hU _ _ ⟨u, _, os.take c ++ List.replicate (N - c) none, rfl, (D13.trans D14).trans (Drew.same D14.row S), (D14.row.same (Same.trans (Same.trans (Same.new ha) (Same.new hp)) (Same.new ht))).ne hu, ?_, tab_cut t13 cN⟩
            rw [List.map_append, ← map_nones]
            exact upd_same
      clear e13 t13 D13 n13 os Db u12
      rintro _ H12 ⟨Db, u12, os, rfl, D13, n13, e13, t13⟩
      simp only [st]
      -- none here and there
      refine ifJoinD (JO K ns sc r st H11 N) (fun U hU => ?_) ?_
      · walk_at "rs"
        have no := hU _ _ ⟨Db, u12, os, rfl, D13, n13, e13, t13⟩
        refine ⟨rfl, _, rfl, ?_⟩
        refine ite2 (fun _ => ?_) (fun _ => no)
        refine ⟨rfl, _, rfl, ?_⟩
        refine ite2 (fun _ => ?_) (fun _ => no)
        refine tlcDraw (K := K) (ns := ns) (sc := sc) (r := r) (fun R x => ⟨_, rfl, Db, rfl, ⟨_, SqL.of e13⟩, x⟩) (walk_list (xs := os.map optV)) D13.row (fun H' d => seqL_ext d.ext (.inl n13) (SqL.of e13)) (fun _ y => ∃ z, y = optV z ∧ OptIn N z) (by rw [List.length_map, t13.1]; omega) ?_ ?_
        · rintro k x H2 H3 Z F hk d2 ⟨rfl, ex⟩ hz
          rw [List.getElem?_map] at ex
          obtain ⟨z, ez, rfl⟩ := Option.map_eq_some_iff.mp ex
          walk_at "rs"
          refine ⟨r, 4, ns, sc, rfl, by decide, by decide, d2.row, fun y H4 _ _ d4 => ?_⟩
          refine ⟨rfl, _, rfl, ?_⟩
          refine ite2 (fun h => ?_) (fun h => ?_)
          · exact hz _ _ d4 ⟨none, rfl, fun i e => by cases e⟩
          · exact hz _ _ d4 ⟨z, rfl, fun i e => t13.2 i (e ▸ List.mem_of_getElem? ez)⟩
        rintro Dc acc H14 hDc D14 e14 l14 a14
        obtain ⟨qs, rfl, ho⟩ := opts_of a14
        exact hU _ _ ⟨Dc, u12, qs, rfl, D13.trans D14, D13.row.ne hDc, e14, tabOf (by rw [← List.length_map (f := optV), l14, List.length_map, t13.1]) ho⟩
      clear e13 t13 D13 n13 os Db u12
      rintro _ H12 ⟨Db, u12, os, rfl, D13, n13, e13, t13⟩
      simp only [st]
      -- none at all
      refine ifJoinD (JO K ns sc r st H11 N) (fun U hU => ?_) ?_
      · walk_at "rs"
        refine ⟨r, 12, ns, sc, rfl, by decide, by decide, D13.row, fun y H14 _ _ D14 => ?_⟩
        have e14 : H14 Db = some (.lst (os.map optV)) := D14.ext Db _ n13 e13
        refine ⟨rfl, _, rfl, ?_⟩
        refine ite2 (fun _ => ?_) (fun _ => hU _ _ ⟨Db, u12, os, rfl, D13.trans D14, n13, e14, t13⟩)
        refine ⟨by decide, fun p hp => ?_⟩
        refine ⟨p, (N : Int), [.non], rfl, rfl, upd_same, by omega, by omega, ?_, fun t ht => ?_⟩
        · show 1 * _ ≤ sizeLine
          exact Nat.le_trans (by omega : 1 * (N : Int).toNat ≤ 4000) (by decide)
        · have S := Same.trans (Same.new (o := .lst [V.non]) hp) (Same.new (o := .lst (List.replicate (N : Int).toNat [V.non]).flatten) ht)
          refine hU _ _ ⟨t, u12, List.replicate N none, rfl, (D13.trans D14).trans (Drew.same D14.row S), (D14.row.same (Same.new hp)).ne ht, ?_, tab_nones N⟩
          rw [← map_nones]
          exact upd_same
      clear e13 t13 D13 n13 os Db u12
      rintro _ H12 ⟨Db, u12, os, rfl, D13, n13, e13, t13⟩
      simp only [st]
      walk_at "rs"
      have f12 : H12 FD = some (.lst xs) := D13.ext FD _ (E7.row.ne hFD) e10
      refine ⟨.inl ⟨rfl, xs, SqL.of f12⟩, Db, _, rfl, .inl ⟨SqL.of e13, fun t ht => ?_⟩⟩
      have f13 : upd H12 t (.tup (os.map optV)) FD = some (.lst xs) := Same.new ht _ _ f12
      refine ⟨FD, xs, _, rfl, rfl, f13, ?_, ?_⟩
      · have := DpAll.length x10
        rw [List.length_map, l10] at this
        exact Nat.lt_of_le_of_lt (by omega : xs.length ≤ 4000) (by decide)
      · have sT : Stay H11 (upd H12 t (.tup (os.map optV))) := Stay.trans (Drew.stay R10 D13) (Stay.new ht)
        have sF : Stay (upd H12 t (.tup (os.map optV))) (upd (upd H12 t (.tup (os.map optV))) FD (.lst (xs ++ [.ref t]))) := Stay.put f13 id
        have DD := (E10.trans D13).trans (Drew.same D13.row (Same.new (o := .tup (os.map optV)) ht))
        refine ⟨_, _, _, xs ++ [.ref t], ts ++ [os], rfl, Drew.put E7.row DD hFD, upd_same, ?_, by rw [List.length_append, l10]; rfl, fun u hu => ?_⟩
        · rw [List.map_append]
          refine DpAll.app (DpAll.stay (Stay.trans sT sF) x10 (flat_tabs _)) (.cons ?_ .nil)
          refine .tup (.inl (.inl ?_)) (DpAll.ofOpts os)
          exact sF _ _ trivial upd_same
        · rcases List.mem_append.mp hu with hu | hu
          · exact t10 u hu
          · cases List.mem_singleton.mp hu
            exact t13
    · rintro σ H10 ⟨s9, s10, s12, xs, ts, rfl, E10, e10, x10, l10, t10⟩
      walk_at "rs"
      refine ⟨FD, _, rfl, .inl ⟨SqL.of e10, fun t ht => ⟨by decide, fun p hp => ?_⟩⟩⟩
      have S := Same.trans (Same.new (o := .tup xs) ht) (Same.new (o := .tup [lv, .ref t]) hp)
      have DD := (E7.trans E10).trans (Drew.same E10.row S)
      have m1' := l10
      refine q _ ls' ts _ ⟨by omega, by omega, fun l hl => ⟨(b7 l hl).1, by have := (b7 l hl).2; omega⟩, ?_, ?_, fun u hu => by rw [l7]; exact t10 u hu⟩ (by omega) (by omega) DD ?_
      · omega
      · omega
      · refine .tup (.inl (.inl upd_same)) (.cons ?_ (.cons (.tup (.inl (.inl (Same.new hp _ _ upd_same))) (DpAll.sameD S x10)) .nil))
        exact Dp.stay (Drew.stay E7.row (E10.trans (Drew.same E10.row S))) h7 (flat_intsD _)
end
end Rw

/-! pairs of places, what the laws of products share -/
namespace Rw
open PySem PySem.Spec PyProof.Rows L2
open C8 (Cal Mak pe_c pe_mk)
def prs (n m : Nat) : List (Nat × Nat) := (List.range n).flatMap fun l => (List.range m).map fun r => (l, r)
def prD (p : Nat × Nat) : PyData := .tuple [.int (p.1 : Int), .int (p.2 : Int)]
theorem prs_succ (n m : Nat) : prs (n + 1) m = prs n m ++ (List.range m).map fun r => (n, r) := by
  unfold prs
  rw [List.range_succ, List.flatMap_append]
  simp
theorem prs_mem {n m : Nat} {p : Nat × Nat} (h : p ∈ prs n m) : p.1 < n ∧ p.2 < m := by
  unfold prs at h
  obtain ⟨l, hl, hp⟩ := List.mem_flatMap.mp h
  obtain ⟨r, hr, rfl⟩ := List.mem_map.mp hp
  exact ⟨List.mem_range.mp hl, List.mem_range.mp hr⟩
theorem prs_len (n m : Nat) : (prs n m).length = n * m := by
  unfold prs
  rw [List.length_flatMap]
  simp only [List.length_map, List.length_range, List.map_const', List.sum_replicate_nat]
theorem rng_get (l : List (Option Int)) : (List.range l.length).map (fun i => l[i]?.getD none) = l := by
  apply List.ext_getElem?
  intro i
  by_cases h : i < l.length
  · rw [List.getElem?_map, List.getElem?_range h, Option.map_some, List.getElem?_eq_getElem h]
    rfl
  · rw [List.getElem?_eq_none (by simpa using h), List.getElem?_eq_none (by omega)]
theorem pairTable_prs (t u : List (Option Int)) : pairTable t u = (prs t.length u.length).map fun p => pairOf (u.length : Int) (t[p.1]?.getD none) (u[p.2]?.getD none) := by
  unfold prs
  rw [List.map_flatMap]
  have e : ∀ (t : List (Option Int)) (g : Option Int → List (Option Int)), t.flatMap g = (List.range t.length).flatMap fun i => g (t[i]?.getD none) := fun t g => by
    have h := congrArg (fun l => l.flatMap g) (rng_get t)
    simp only [List.flatMap_map] at h
    exact h.symm
  unfold pairTable
  rw [e]
  congr 1
  funext i
  have h := congrArg (fun l => l.map fun b => pairOf (u.length : Int) (t[i]?.getD none) b) (rng_get u)
  simp only [List.map_map] at h ⊢
  exact h.symm
theorem flat_prs (l : List (Nat × Nat)) : flatLs (l.map prD) = true := by
  induction l with
  | nil => rfl
  | cons p l ih => simp only [List.map_cons, flatLs, Bool.and_eq_true]; exact ⟨rfl, ih⟩
theorem mkAlg2 {K : PySem.W.Frag} {C : Addr} {H1 : Hp} {l g : V} {ls : List Int} {ts : List (List (Option Int))} {Q : Addr → Hp → Prop} (hl : Dp K H1 l (intsD ls)) (hg : Dp K H1 g (tabsD ts)) (ok : OkAlg ls ts)
    (h : ∀ x H', H1 x = none → Same H1 H' → AlgAt K C H' (.ref x) ls ts → Q x H') :
    ∀ x dx, H1 x = none → H1 dx = none → dx ≠ x → spAlgInit K C [.ref x, l, g] (upd (upd H1 dx (.own x)) x (.ins C dx [])) (fun v H2 => v = .non ∧ Q x H2) E0 := by
  intro x dx nx nd ne
  refine ⟨x, dx, l, g, ls, ts, H1, rfl, upd_same, fun b o e => ?_, nx, hl, hg, ok, fun H' s e => ⟨rfl, h x H' nx s ⟨x, dx, l, g, rfl, e, Dp.sameD s hl, Dp.sameD s hg⟩⟩⟩
  rw [upd_ne (ne_of_none e nx), upd_ne (ne_of_none e nd)]
  exact e
theorem flatLs_two {d e : PyData} (h : flatL d = true) (k : flatL e = true) : flatLs [d, e] = true := by
  simp only [flatLs, h, k, Bool.and_self]
theorem dp_two {K : PySem.W.Frag} {H : Hp} {xs : List V} {d e : PyData} (h : DpAll K H xs [d, e]) : ∃ v u, xs = [v, u] ∧ Dp K H v d ∧ Dp K H u e := by
  cases h with
  | cons h k =>
    cases k with
    | cons k l =>
      cases l
      exact ⟨_, _, rfl, h, k⟩
theorem pairFixed {t : List (Option Int)} {n m j : Nat} (h : t.length = n) (hj : j < m) : ((prs n m).map fun p => pairOf (m : Int) (t[p.1]?.getD none) (some (j : Int))) = pairTable t (fixedT m j) := by
  have e : (fixedT m j).length = m := by simp [fixedT]
  rw [pairTable_prs, h, e]
  apply List.map_congr_left
  intro p hp
  have := (prs_mem hp).2
  congr 1
  unfold fixedT
  rw [List.getElem?_replicate, if_pos this]
  rfl
theorem pairKept {s : List (Option Int)} {n m : Nat} (h : s.length = m) : ((prs n m).map fun p => pairOf (m : Int) (some (p.1 : Int)) (s[p.2]?.getD none)) = pairTable (kept n) s := by
  have e : (kept n).length = n := by simp [kept]
  rw [pairTable_prs, h, e]
  apply List.map_congr_left
  intro p hp
  have := (prs_mem hp).1
  congr 1
  unfold kept
  rw [List.getElem?_map, List.getElem?_range this]
  rfl
theorem app_range {α : Type} (A : List α) (g : Nat → α) (j : Nat) : A ++ (List.range (j + 1)).map g = (A ++ (List.range j).map g) ++ [g j] := by
  rw [List.range_succ, List.map_append, ← List.append_assoc]
  rfl
theorem app_take {α β : Type} (A : List α) (g : β → α) {us : List β} {i : Nat} {t : β} (h : us[i]? = some t) : A ++ (us.take (i + 1)).map g = (A ++ (us.take i).map g) ++ [g t] := by
  rw [List.take_add_one, h, List.map_append, ← List.append_assoc]
  rfl
section
variable {K : PySem.W.Frag}
def spLaw (K : PySem.W.Frag) : Sp := fun vs H Q _ => ∃ (a : Addr) (ns : List Int), vs = [.ref a] ∧ SqL K H a (ns.map V.int) ∧ ∀ H', Q (.bl true) H'
end
end Rw

/-! pairs of places, what the laws of products share -/
namespace Rw
open PySem PySem.Spec PyProof.Rows L2
open C8 (Cal Mak pe_c pe_mk)
theorem deep_opts (n : Nat) (t : List (Option Int)) : ∀ d ∈ t.map optD, deep n d := fun d hd => by
  obtain ⟨o, _, rfl⟩ := List.mem_map.mp hd
  cases o <;> cases n <;> trivial
theorem deep_ints (n : Nat) (t : List Int) (h : t.length ≤ 4000) : deep (n + 1) (intsD t) := by
  refine ⟨by rw [List.length_map]; exact h, fun d hd => ?_⟩
  obtain ⟨o, _, rfl⟩ := List.mem_map.mp hd
  cases n <;> trivial
theorem deep_tabs (n : Nat) {ts : List (List (Option Int))} (h : ts.length ≤ 4000) (k : ∀ t ∈ ts, t.length ≤ 4000) : deep (n + 2) (tabsD ts) := by
  refine ⟨by rw [List.length_map]; exact h, fun d hd => ?_⟩
  obtain ⟨t, ht, rfl⟩ := List.mem_map.mp hd
  exact ⟨by rw [List.length_map]; exact k t ht, deep_opts n t⟩
end Rw

/-! the order of pairs of levels -/
namespace Rw
open PySem PySem.Spec PyProof.Rows L2
theorem rng_getD {α : Type} (d : α) (l : List α) : (List.range l.length).map (fun i => l[i]?.getD d) = l := by
  apply List.ext_getElem?
  intro i
  by_cases h : i < l.length
  · rw [List.getElem?_map, List.getElem?_range h, Option.map_some, List.getElem?_eq_getElem h]
    rfl
  · rw [List.getElem?_eq_none (by simpa using h), List.getElem?_eq_none (by omega)]
theorem pairLevels_prs (u v ls ms : List Int) : pairLevels u v ls ms = (prs ls.length ms.length).map fun p => ((plc u (ls[p.1]?.getD 0) : Nat) : Int) * (v.length : Int) + ((plc v (ms[p.2]?.getD 0) : Nat) : Int) := by
  unfold prs
  rw [List.map_flatMap]
  have e1 : places u ls = (List.range ls.length).map fun i => ((plc u (ls[i]?.getD 0) : Nat) : Int) := by
    have h := congrArg (fun l => l.map fun x => ((plc u x : Nat) : Int)) (rng_getD 0 ls)
    simp only [List.map_map] at h
    exact h.symm
  have e2 : places v ms = (List.range ms.length).map fun i => ((plc v (ms[i]?.getD 0) : Nat) : Int) := by
    have h := congrArg (fun l => l.map fun x => ((plc v x : Nat) : Int)) (rng_getD 0 ms)
    simp only [List.map_map] at h
    exact h.symm
  unfold pairLevels
  rw [e1, e2, List.flatMap_map]
  simp only [List.map_map]
  rfl
theorem plc_ord {u : List Int} (h : u.Pairwise (· < ·)) {x y : Int} (hx : x ∈ u) (hy : y ∈ u) : plc u x < plc u y ↔ x < y := by
  have gx := List.getElem?_eq_some_iff.mp (plc_get hx)
  have gy := List.getElem?_eq_some_iff.mp (plc_get hy)
  obtain ⟨ax, ex⟩ := gx
  obtain ⟨ay, ey⟩ := gy
  have pw := List.pairwise_iff_getElem.mp h
  constructor
  · intro l
    have := pw _ _ ax ay l
    rw [ex, ey] at this
    exact this
  · intro l
    rcases Nat.lt_trichotomy (plc u x) (plc u y) with c | c | c
    · exact c
    · have e : x = y := by
        have := plc_get hx
        rw [c, plc_get hy] at this
        exact (Option.some.inj this).symm
      omega
    · have := pw _ _ ay ax c
      rw [ex, ey] at this
      omega
theorem plc_inj {u : List Int} {x y : Int} (hx : x ∈ u) (hy : y ∈ u) (e : plc u x = plc u y) : x = y := by
  have := plc_get hx
  rw [e, plc_get hy] at this
  exact (Option.some.inj this).symm
theorem code_lt {a b c d m : Nat} (hb : b < m) (hd : d < m) : a * m + b < c * m + d ↔ a < c ∨ (a = c ∧ b < d) := by
  constructor
  · intro h
    rcases Nat.lt_trichotomy a c with l | l | l
    · exact .inl l
    · subst l
      exact .inr ⟨rfl, by omega⟩
    · have : (c + 1) * m ≤ a * m := Nat.mul_le_mul_right _ l
      rw [Nat.add_mul, Nat.one_mul] at this
      omega
  · rintro (l | ⟨rfl, l⟩)
    · have : (a + 1) * m ≤ c * m := Nat.mul_le_mul_right _ l
      rw [Nat.add_mul, Nat.one_mul] at this
      omega
    · omega
theorem ordPair {u v ls ms : List Int} (hu : Srt u ls) (hv : Srt v ms) {x y x' y' : Int} (hx : x ∈ ls) (hy : y ∈ ms) (hx' : x' ∈ ls) (hy' : y' ∈ ms) :
    decide (((plc u x : Nat) : Int) * (v.length : Int) + ((plc v y : Nat) : Int) < ((plc u x' : Nat) : Int) * (v.length : Int) + ((plc v y' : Nat) : Int)) = HT.lexLt [x, y] [x', y'] := by
  have mx := (hu.2 x).mpr hx
  have mx' := (hu.2 x').mpr hx'
  have my := (hv.2 y).mpr hy
  have my' := (hv.2 y').mpr hy'
  have e : ∀ i j : Nat, (i : Int) * (v.length : Int) + (j : Int) = ((i * v.length + j : Nat) : Int) := fun i j => by rw [Int.natCast_add, Int.natCast_mul]
  rw [e, e]
  have k := code_lt (a := plc u x) (c := plc u x') (plc_lt my) (plc_lt my')
  have o1 := plc_ord hu.1 mx mx'
  have o2 := plc_ord hv.1 my my'
  have e1 : HT.lexLt [x, y] [x', y'] = if x = x' then (if y = y' then false else decide (y < y')) else decide (x < x') := rfl
  rw [e1]
  by_cases c : x = x'
  · subst c
    rw [if_pos rfl]
    by_cases c2 : y = y'
    · subst c2
      rw [if_pos rfl]
      exact decide_eq_false (by omega)
    · rw [if_neg c2]
      apply decide_eq_decide.mpr
      rw [← o2]
      omega
  · rw [if_neg c]
    apply decide_eq_decide.mpr
    rw [← o1]
    have n : plc u x ≠ plc u x' := fun h => c (plc_inj mx mx' h)
    omega
theorem pairLevels_lt {u v ls ms : List Int} (hu : Srt u ls) (hv : Srt v ms) {x : Int} (h : x ∈ pairLevels u v ls ms) : x < (u.length : Int) * (v.length : Int) := by
  rw [pairLevels, List.mem_flatMap] at h
  obtain ⟨a, ha, hb⟩ := h
  obtain ⟨b, hb', rfl⟩ := List.mem_map.mp hb
  obtain ⟨z, hz, rfl⟩ := List.mem_map.mp ha
  obtain ⟨y, hy, rfl⟩ := List.mem_map.mp hb'
  have h1 := plc_lt ((hu.2 z).mpr hz)
  have h2 := plc_lt ((hv.2 y).mpr hy)
  have h3 : (plc u z + 1) * v.length ≤ u.length * v.length := Nat.mul_le_mul_right _ h1
  rw [Nat.add_mul, Nat.one_mul] at h3
  have e : ((plc u z : Nat) : Int) * (v.length : Int) + ((plc v y : Nat) : Int) = ((plc u z * v.length + plc v y : Nat) : Int) := by
    rw [Int.natCast_add, Int.natCast_mul]
  rw [e, ← Int.natCast_mul]
  exact Int.ofNat_lt.mpr (by omega)
end Rw

/-! the law of lexicographic products -/
namespace Rw
open PySem PySem.Spec PyProof.Rows L2
open C8 (Cal Mak pe_c pe_mk)
local macro_rules | `(tactic| walk_at "rs") => `(tactic| try simp only [tCB, tCons, tNil, tVar, tC, tOp, tAndV, tOrV, tNotV, tAnd, tOr, tNot, tTest, tB, tIf, tChain, tRet, tAsg, gName, gSub, tDrop, tNext, tPar, tCall, tProp, tBM, tMake, tTup, tLst, rI0, rI, cx_K, cx_w, cx_P, L2.start, List.map_cons, List.map_nil, List.length_cons, List.length_nil, List.replicate_succ, List.replicate_zero, List.cons_append, List.nil_append, List.append_nil,
  List.getElem?_cons_zero, List.getElem?_cons_succ, List.set_cons_zero, List.set_cons_succ, ex_some, ex_bl, ex_ii, ex_i, Nat.reduceAdd, Nat.reduceSub, wipe, tYes, eq_self, true_and, ↓reduceIte])
section
variable {P : Program} {w : World} {K : PySem.W.Frag} {mg : Str → Option Value} {base : Heap} {f C : Addr} {fd : FuncData}
abbrev s_law : Stmt := topS 25
abbrev n_law : List Str := ["script", "row", "one", "other", "found", "size", "pairs", "left", "right", "tables", "first", "second", "table", "far", "at", "k", "mine", "yours"]
theorem sc_law : FnScope n_law ["script"] (defScope s_law) := ⟨rfl, rfl, rfl, by decide +kernel, rfl, by decide +kernel, by decide +kernel⟩
theorem ok_law (T : Bl mg) (F : Fun K "law" "law" s_law f fd) (C_law_algebra : Cal P w K mg base 2 "_law_algebra" (spLawAlg K) []) (C_Algebra : Mak P w K mg base 3 "Algebra" C (spAlgInit K C) [])
    (C_lexicographic : Cal P w K mg base 5 "lexicographic" (spLex K C) []) (C_law_alike : Cal P w K mg base 5 "_law_alike" (spAlike K 3) [])
    (C_p_levels : Prp P w K mg base 1 C "levels" "_levels") (C_p_functions : Prp P w K mg base 1 C "functions" "_functions") : FnOk P w K mg base CX0 6 f fd ["script"] (spLaw K) := by
  refine F.ok sc_law (fun vs H Q E h => ?_) (fun cdv A outer s H vs Q E hr h => ?_)
  · obtain ⟨a, ns, rfl, _⟩ := h
    rfl
  · obtain ⟨a, ns, rfl, hs, q⟩ := h
    refine ⟨_, (pss_cons (ps_set (i := 1) sc_law.nd rfl (by first | exact Or.inl rfl | exact Or.inr rfl) (pe_lst (pa_cons (pv 0) (pa_cons (pe_int) (pa_cons (pe_int) (pa_cons (pe_int) pa_nil))))))
      (pss_cons (ps_par (i := 2) (j := 3) rfl sc_law.nd rfl rfl (by decide) rfl rfl (pa_cons (pe_c C_law_algebra hr (by decide) rfl (pa_cons (pv 1) (pa_cons (pe_int) (pa_cons (pe_int) pa_nil)))) (pa_cons (pe_c C_law_algebra hr (by decide) rfl (pa_cons (pv 1) (pa_cons (pe_int) (pa_cons (pe_int) pa_nil)))) pa_nil)) rfl)
      (pss_cons (ps_set (i := 4) sc_law.nd rfl (by first | exact Or.inl rfl | exact Or.inr rfl) (pe_c C_lexicographic hr (by decide) rfl (pa_cons (pe_mk C_Algebra hr (by decide) rfl (pa_cons (pe_ix (ixT K) (pv 2) (pe_int) (fun _ _ => rfl)) (pa_cons (pe_ix (ixT K) (pv 2) (pe_int) (fun _ _ => rfl)) pa_nil))) (pa_cons (pe_mk C_Algebra hr (by decide) rfl (pa_cons (pe_ix (ixT K) (pv 3) (pe_int) (fun _ _ => rfl)) (pa_cons (pe_ix (ixT K) (pv 3) (pe_int) (fun _ _ => rfl)) pa_nil))) pa_nil))))
      (pss_cons (ps_par (i := 5) (j := 6) rfl sc_law.nd rfl rfl (by decide) rfl rfl (pa_cons (pe_callB (cLen K) (by rfl) T.b_len PySem.boot_len (pa_cons (pe_ix (ixT K) (pv 3) (pe_int) (fun _ _ => rfl)) pa_nil)) (pa_cons (pe_lst pa_nil) pa_nil)) rfl)
      (pss_cons (ps_for PassesOwn.never rfl (pi_range1 rfl T.b_range (pa_cons (pe_callB (cLen K) (by rfl) T.b_len PySem.boot_len (pa_cons (pe_ix (ixT K) (pv 2) (pe_int) (fun _ _ => rfl)) pa_nil)) pa_nil)) (pg_name (i := 7) sc_law.nd rfl (by first | exact Or.inl rfl | exact Or.inr rfl)) (pss_one (ps_set (i := 6) sc_law.nd rfl (by first | exact Or.inl rfl | exact Or.inr rfl) (pe_op op_cat (pv 6) (pe_lc (own := [("right", 8)]) rfl sc_law.nd (pi_range1 rfl T.b_range (pa_cons (pv 5) pa_nil)) (blkOk_by (own := [("right", 8)]) (N := n_law) (sc := defScope s_law) (by decide +kernel)) (fun _ _ _ _ _ => (by exact (pg_name (i := 8) sc_law.nd rfl (by first | exact Or.inl rfl | exact Or.inr rfl)))) (fun _ _ _ _ _ => (by exact pts_nil)) (fun _ _ _ _ _ => (by exact (pe_tup (pa_cons (pv 7) (pa_cons (pv 8) pa_nil))))))))))
      (pss_cons (ps_set (i := 9) sc_law.nd rfl (by first | exact Or.inl rfl | exact Or.inr rfl) (pe_lst pa_nil))
      (pss_cons (ps_for PassesOwn.never rfl (piT K (pe_ix (ixT K) (pv 2) (pe_int) (fun _ _ => rfl))) (pg_name (i := 10) sc_law.nd rfl (by first | exact Or.inl rfl | exact Or.inr rfl)) (pss_one (ps_for PassesOwn.never rfl (piT K (pe_ix (ixT K) (pv 3) (pe_int) (fun _ _ => rfl))) (pg_name (i := 11) sc_law.nd rfl (by first | exact Or.inl rfl | exact Or.inr rfl)) (pss_cons (ps_set (i := 12) sc_law.nd rfl (by first | exact Or.inl rfl | exact Or.inr rfl) (pe_lst pa_nil))
      (pss_cons (ps_for PassesOwn.never rfl (piL K (pv 6)) (pgT K 2 rfl (pgs_cons (pg_name (i := 7) sc_law.nd rfl (by first | exact Or.inl rfl | exact Or.inr rfl)) (pgs_cons (pg_name (i := 8) sc_law.nd rfl (by first | exact Or.inl rfl | exact Or.inr rfl)) pgs_nil))) (pss_cons (ps_set (i := 13) sc_law.nd rfl (by first | exact Or.inl rfl | exact Or.inr rfl) (pe_or (pe_cmpR op_isN (pe_ix (ixT K) (pv 10) (pv 7) (fun _ _ => rfl)) (pe_non) (nomark _)) (pe_one (pe_cmpR op_isN (pe_ix (ixT K) (pv 11) (pv 8) (fun _ _ => rfl)) (pe_non) (nomark _)))))
      (pss_one (ps_expr (pBm K PySem.F.plainAttrs_list PySem.F.slot_list_append PySem.F.type_list_append mt_append (pv 12) (pa_cons (pe_ifExp (pt_val (pv 13)) (pe_non) (pe_op op_add (pe_op op_mul (pe_ix (ixT K) (pv 10) (pv 7) (fun _ _ => rfl)) (pv 5)) (pe_ix (ixT K) (pv 11) (pv 8) (fun _ _ => rfl)))) pa_nil))))))
      (pss_one (ps_expr (pBm K PySem.F.plainAttrs_list PySem.F.slot_list_append PySem.F.type_list_append mt_append (pv 9) (pa_cons (pe_callTy (cTup K) (by rfl) T.b_tuple (by decide +kernel) (pa_cons (pv 12) pa_nil)) pa_nil)))))))))
      (pss_cons (ps_if (PW.pt (pw_or (pt_not (pt_val (pe_c C_law_alike hr (by decide) rfl (pa_cons (pe_pr C_p_functions hr (by decide) (pv 4)) (pa_cons (pe_callTy (cTup K) (by rfl) T.b_tuple (by decide +kernel) (pa_cons (pv 9) pa_nil)) pa_nil))))) (pw_or1 (pt_cmpR op_ne (pe_callB (cLen K) (by rfl) T.b_len PySem.boot_len (pa_cons (pe_pr C_p_levels hr (by decide) (pv 4)) pa_nil)) (pe_callB (cLen K) (by rfl) T.b_len PySem.boot_len (pa_cons (pv 6) pa_nil)) (nomark _))))) (pss_one (ps_ret (pe_bl))) pss_nil)
      (pss_cons (ps_for PassesOwn.never rfl (pi_range1 rfl T.b_range (pa_cons (pe_callB (cLen K) (by rfl) T.b_len PySem.boot_len (pa_cons (pv 6) pa_nil)) pa_nil)) (pg_name (i := 14) sc_law.nd rfl (by first | exact Or.inl rfl | exact Or.inr rfl)) (pss_one (ps_for PassesOwn.never rfl (pi_range1 rfl T.b_range (pa_cons (pe_callB (cLen K) (by rfl) T.b_len PySem.boot_len (pa_cons (pv 6) pa_nil)) pa_nil)) (pg_name (i := 15) sc_law.nd rfl (by first | exact Or.inl rfl | exact Or.inr rfl)) (pss_cons (ps_par (i := 16) (j := 17) rfl sc_law.nd rfl rfl (by decide) rfl rfl (pa_cons (pe_tup (pa_cons (pe_ix (ixT K) (pe_ix (ixT K) (pv 2) (pe_int) (fun _ _ => rfl)) (pe_ix (ixT K) (pe_ix (ixL K) (pv 6) (pv 14) (fun _ _ => rfl)) (pe_int) (fun _ _ => rfl)) (fun _ _ => rfl)) (pa_cons (pe_ix (ixT K) (pe_ix (ixT K) (pv 3) (pe_int) (fun _ _ => rfl)) (pe_ix (ixT K) (pe_ix (ixL K) (pv 6) (pv 14) (fun _ _ => rfl)) (pe_int) (fun _ _ => rfl)) (fun _ _ => rfl)) pa_nil))) (pa_cons (pe_tup (pa_cons (pe_ix (ixT K) (pe_ix (ixT K) (pv 2) (pe_int) (fun _ _ => rfl)) (pe_ix (ixT K) (pe_ix (ixL K) (pv 6) (pv 15) (fun _ _ => rfl)) (pe_int) (fun _ _ => rfl)) (fun _ _ => rfl)) (pa_cons (pe_ix (ixT K) (pe_ix (ixT K) (pv 3) (pe_int) (fun _ _ => rfl)) (pe_ix (ixT K) (pe_ix (ixL K) (pv 6) (pv 15) (fun _ _ => rfl)) (pe_int) (fun _ _ => rfl)) (fun _ _ => rfl)) pa_nil))) pa_nil)) rfl)
      (pss_one (ps_if (pt_cmpR op_ne (pe_cmpR op_lt (pe_ix (ixT K) (pe_pr C_p_levels hr (by decide) (pv 4)) (pv 14) (fun _ _ => rfl)) (pe_ix (ixT K) (pe_pr C_p_levels hr (by decide) (pv 4)) (pv 15) (fun _ _ => rfl)) (nomark _)) (pe_cmpR (op_ltT (Nat.lt_of_succ_lt (hu_of hr))) (pv 16) (pv 17) (nomark _)) (nomark _)) (pss_one (ps_ret (pe_bl))) pss_nil))))))
      (pss_one (ps_ret (pe_cmpR op_lt (pe_ix (ixL K) (pe_callB (cr_sortedSet rfl) (by rfl) T.b_sorted (by decide +kernel) (pa_cons (pe_callTy (cr_setT rfl) (by rfl) T.b_set (by decide +kernel) (pa_cons (pe_pr C_p_levels hr (by decide) (pv 4)) pa_nil)) pa_nil)) (pe_un un_neg (pe_int)) (fun _ _ => rfl)) (pe_op op_mul (pe_callB cr_lenSet (by rfl) T.b_len PySem.boot_len (pa_cons (pe_callTy (cr_setT rfl) (by rfl) T.b_set (by decide +kernel) (pa_cons (pe_ix (ixT K) (pv 2) (pe_int) (fun _ _ => rfl)) pa_nil)) pa_nil)) (pe_callB cr_lenSet (by rfl) T.b_len PySem.boot_len (pa_cons (pe_callTy (cr_setT rfl) (by rfl) T.b_set (by decide +kernel) (pa_cons (pe_ix (ixT K) (pv 3) (pe_int) (fun _ _ => rfl)) pa_nil)) pa_nil))) (nomark _))))))))))))), ?_⟩
    refine seqI ?_
    walk_at "rs"
    refine ⟨by decide, fun R hR => ?_⟩
    have row1 : RowAt K ns a (upd H R (.lst [.ref a, .int 0, .int 3509, .int 0])) R := ⟨0, 3509, 0, upd_same, Same.seq (Same.new hR) hs, away_of hs hR, by decide⟩
    generalize upd H R _ = H1 at row1
    clear hR hs
    refine seqI ?_
    walk_at "rs"
    refine ⟨R, 4, 3, ns, a, rfl, by decide, by decide, by decide, by decide, row1, fun x ls ts H2 oA lA tA D2 hx => ?_⟩
    refine ⟨R, 4, 3, ns, a, rfl, by decide, by decide, by decide, by decide, D2.row, fun y ms us H3 oB lB tB D3 hy => ?_⟩
    replace hx := Dp.stay (Drew.stay D2.row D3) hx (by rw [flatL]; exact flatLs_two (flat_intsD _) (flat_tabsD _))
    clear D2 D3 row1
    obtain ⟨ax, xs, rfl, hX, kX⟩ := Dp.tupE hx
    obtain ⟨ay, ys, rfl, hY, kY⟩ := Dp.tupE hy
    obtain ⟨lx, fx, rfl, hlx, hfx⟩ := dp_two kX
    obtain ⟨ly, fy, rfl, hly, hfy⟩ := dp_two kY
    clear hx hy kX kY
    walk_at "rs"
    refine ⟨_, _, rfl, ?_⟩
    refine seqI ?_
    walk_at "rs"
    refine ⟨ax, _, 0, lx, rfl, rfl, hX, rfl, ?_⟩
    refine ⟨ax, _, 1, fx, rfl, rfl, hX, rfl, ?_⟩
    walk_at "rs"
    refine mkAlg2 hlx hfx oA fun x1 H4 nx s4 aA => ?_
    refine ⟨ay, _, 0, ly, rfl, rfl, SqT.sameT s4 hY, rfl, ?_⟩
    refine ⟨ay, _, 1, fy, rfl, rfl, SqT.sameT s4 hY, rfl, ?_⟩
    walk_at "rs"
    refine mkAlg2 (Dp.sameD s4 hly) (Dp.sameD s4 hfy) oB fun y1 H5 ny s5 aB => ?_
    replace aA := AlgAt.sameA s5 aA
    have s45 := Same.trans s4 s5
    replace hX := SqT.sameT s45 hX
    replace hY := SqT.sameT s45 hY
    replace hlx := Dp.sameD s45 hlx
    replace hfx := Dp.sameD s45 hfx
    replace hly := Dp.sameD s45 hly
    replace hfy := Dp.sameD s45 hfy
    clear s4 s5 s45 nx ny
    have sA := srt_uniq ls
    have sB := srt_uniq ms
    have nm : ls.length * ms.length ≤ 4 * 4 := Nat.mul_le_mul (by omega) (by omega)
    have tm : ts.length * ms.length ≤ 3 * 4 := Nat.mul_le_mul (by omega) (by omega)
    have tu : ts.length * us.length ≤ 3 * 3 := Nat.mul_le_mul (by omega) (by omega)
    refine ⟨_, ls, ts, _, _, ms, us, _, rfl, aA, aB, sA, sB, oA, oB, by omega, by omega, by omega, by omega, fun H6 z s6 aZ => ?_⟩
    clear aA aB
    refine seqI ?_
    walk_at "rs"
    refine ⟨ay, _, 0, ly, rfl, rfl, SqT.sameT s6 hY, rfl, ?_⟩
    obtain ⟨by_, ys, rfl, hBy, kBy⟩ := Dp.tupE hly
    obtain rfl := DpAll.ints kBy
    refine ⟨by_, _, rfl, .inr (SqT.sameT s6 hBy), by decide, fun p0 hp0 => ⟨_, _, rfl, ?_⟩⟩
    rw [List.length_map]
    have e7 : (upd H6 p0 (.lst [])) p0 = some (.lst []) := upd_same
    have s7 : Same H5 (upd H6 p0 (.lst [])) := Same.trans s6 (Same.new hp0)
    replace aZ := AlgAt.sameA (Same.new (o := .lst []) hp0) aZ
    generalize upd H6 p0 (.lst []) = H7 at e7 s7 aZ
    clear hp0 s6 H6
    obtain ⟨bx, xs', rfl, hBx, kBx⟩ := Dp.tupE hlx
    obtain rfl := DpAll.ints kBx
    -- the pairs
    refine seqI ?_
    refine tforR (fun M H' => M = ls.length ∧ H7 = H') (fun R' hR' => ?_) ?_
    · simp only [iRng1]
      walk_at "rs"
      refine ⟨ax, _, 0, _, rfl, rfl, SqT.sameT s7 hX, rfl, ?_⟩
      walk_at "rs"
      refine ⟨bx, _, rfl, .inr (SqT.sameT s7 hBx), _, rfl, ?_⟩
      rw [List.length_map]
      exact ⟨by omega, by omega, hR' _ _ ⟨by omega, rfl⟩⟩
    rintro _ _ ⟨rfl, rfl⟩
    refine for_it (walk_range (lo := 0) (n := ls.length)) (fun i σ H' => ∃ s7 Pa xs, σ = [some (.ref a), some (.ref R), some (.ref ax), some (.ref ay), some z, some (.int (ms.length : Nat)), some (.ref Pa), s7, none, none, none, none, none, none, none, none, none, none] ∧ Same H7 H' ∧ H' Pa = some (.lst xs) ∧ DpAll K H' xs ((prs i ms.length).map prD))
      ⟨none, p0, [], rfl, Same.refl _, e7, .nil⟩ (fun _ _ _ _ _ => trivial) ?_ ?_
    · rintro i x σ H8 H9 hi ⟨q7, Pa, xs, rfl, s8, e8, x8⟩ ⟨h9, rfl⟩
      subst h9
      walk_at "rs"
      refine tlc (K := K) (fun R x => ⟨_, rfl, (ms.length : Int), rfl, by omega, by omega, by simpa using x⟩) (walk_range (lo := 0) (n := ms.length)) (fun _ _ => trivial) (((List.range ms.length).map fun r => (i, r)).map prD) (flat_prs _) (by simp) (small_line (by omega)) ?_ ?_
      · rintro k x d H10 H11 Z F hk ed s10 ⟨h11, rfl⟩ hz
        subst h11
        rw [List.getElem?_map, List.getElem?_map, List.getElem?_range hk] at ed
        obtain rfl := Option.some.inj ed
        walk_at "rs"
        refine ⟨by decide, fun p hp => hz _ _ (Same.new hp) ?_⟩
        rw [Int.zero_add, Int.zero_add]
        exact .tup (.inl (.inl upd_same)) (.cons (.int _) (.cons (.int _) .nil))
      · rintro D acc H10 hD s10 e10 a10
        have l8 := DpAll.length x8
        have l10 := DpAll.length a10
        rw [List.length_map, prs_len] at l8
        simp only [List.length_map, List.length_range] at l10
        have im : i * ms.length ≤ ls.length * ms.length := Nat.mul_le_mul_right _ (Nat.le_of_lt hi)
        refine ⟨Pa, D, xs, acc, rfl, rfl, s10 _ _ e8, e10, small_line (by omega), fun p hp => ?_⟩
        walk_at "rs"
        have s11 := Same.trans s10 (Same.new (o := .lst (xs ++ acc)) hp)
        refine ⟨_, p, xs ++ acc, rfl, Same.trans s8 s11, upd_same, ?_⟩
        rw [prs_succ, List.map_append]
        exact DpAll.app (DpAll.sameD s11 x8) (DpAll.sameD (Same.new hp) a10)
    rintro σ H8 ⟨q7, Pa, xs, rfl, s8, e8, x8⟩
    replace aZ := AlgAt.sameA s8 aZ
    replace s7 := Same.trans s7 s8
    clear s8 e7 H7
    refine seqI ?_
    walk_at "rs"
    refine ⟨by decide, fun Ta hTa => ?_⟩
    walk_at "rs"
    obtain ⟨ag, xg, rfl, hG, kG⟩ := Dp.tupE hfx
    obtain ⟨bg, yg, rfl, hG', kG'⟩ := Dp.tupE hfy
    have ng := DpAll.length kG
    have ng' := DpAll.length kG'
    rw [List.length_map] at ng ng'
    have e9 : (upd H8 Ta (.lst [])) Ta = some (.lst []) := upd_same
    have n9 : Pa ≠ Ta := ne_of_none e8 hTa
    have s9 := Same.new (o := .lst []) hTa
    replace e8 := s9 _ _ e8
    replace x8 := DpAll.sameD s9 x8
    replace aZ := AlgAt.sameA s9 aZ
    replace s7 := Same.trans s7 s9
    generalize hH9 : upd H8 Ta (.lst []) = H9 at e9 s9 e8 x8 aZ s7
    clear hH9
    replace hX := SqT.sameT s7 hX
    replace hY := SqT.sameT s7 hY
    replace hG := SqT.sameT s7 hG
    replace hG' := SqT.sameT s7 hG'
    replace kG := DpAll.sameD s7 kG
    replace kG' := DpAll.sameD s7 kG'
    replace hBx := SqT.sameT s7 hBx
    replace hBy := SqT.sameT s7 hBy
    clear hlx hfx hly hfy s7 s9 hTa
    have lP := DpAll.length x8
    rw [List.length_map, prs_len] at lP
    have stay : ∀ {H'}, Ext Ta H9 H' → Stay H9 H' := fun x => Ext.stay x e9 id
    -- the tables
    refine seqI ?_
    refine ⟨_, rfl, ax, _, 1, _, rfl, rfl, hX, rfl, ag, rfl, ⟨_, hG⟩, ?_⟩
    refine for_it (walk_tup (K := K) (a := ag) (xs := xg)) (fun i σ H' => ∃ s7 s8 s10 s11 s12 s13 zs, σ = [some (.ref a), some (.ref R), some (.ref ax), some (.ref ay), some z, some (.int (ms.length : Nat)), some (.ref Pa), s7, s8, some (.ref Ta), s10, s11, s12, s13, none, none, none, none] ∧ Ext Ta H9 H' ∧ H' Ta = some (.lst zs) ∧ DpAll K H' zs (((ts.take i).flatMap fun t => us.map fun s => pairTable t s).map tabD))
      ⟨_, _, _, _, _, _, [], rfl, Ext.refl _ _, e9, .nil⟩ (fun i σ H' _ h => by obtain ⟨_, _, _, _, _, _, _, _, x, _⟩ := h; exact SqT.stay (stay x) hG) ?_ ?_
    · rintro i x σ H10 H11 hi ⟨q7, q8, q10, q11, q12, q13, zs, rfl, x10, e10, d10⟩ ⟨h11, hx⟩
      subst h11
      walk_at "rs"
      obtain ⟨t, et, ht⟩ := DpAll.tabs_get kG hx
      have mt := List.mem_of_getElem? et
      obtain ⟨xt, ot, rfl, hT, kT⟩ := Dp.tupE ht
      obtain rfl := DpAll.opts kT
      have lt : t.length = ls.length := (oA.tab mt).1
      refine ⟨_, rfl, ay, _, 1, _, rfl, rfl, SqT.stay (stay x10) hY, rfl, bg, rfl, ⟨_, SqT.stay (stay x10) hG'⟩, ?_⟩
      refine for_it (walk_tup (K := K) (a := bg) (xs := yg)) (fun j σ H' => ∃ s7 s8 s11 s12 s13 zs, σ = [some (.ref a), some (.ref R), some (.ref ax), some (.ref ay), some z, some (.int (ms.length : Nat)), some (.ref Pa), s7, s8, some (.ref Ta), some (.ref xt), s11, s12, s13, none, none, none, none] ∧ Ext Ta H9 H' ∧ H' Ta = some (.lst zs) ∧ DpAll K H' zs ((((ts.take i).flatMap fun t => us.map fun s => pairTable t s) ++ (us.take j).map fun s => pairTable t s).map tabD))
        ⟨_, _, _, _, _, zs, rfl, x10, e10, by rw [List.take_zero, List.map_nil, List.append_nil]; exact d10⟩ (fun i σ H' _ h => by obtain ⟨_, _, _, _, _, _, _, x, _⟩ := h; exact SqT.stay (stay x) hG') ?_ ?_
      · rintro j x σ H12 H13 hj ⟨r7, r8, r11, r12, r13, zs', rfl, x12, e12, d12⟩ ⟨h13, hx2⟩
        subst h13
        walk_at "rs"
        obtain ⟨s, es, hs⟩ := DpAll.tabs_get kG' hx2
        have mS := List.mem_of_getElem? es
        obtain ⟨xs2, os, rfl, hS, kS⟩ := Dp.tupE hs
        obtain rfl := DpAll.opts kS
        have lS : s.length = ms.length := (oB.tab mS).1
        refine seqI ?_
        walk_at "rs"
        refine ⟨by decide, fun Tb hTb => ?_⟩
        walk_at "rs"
        have eb : (upd H13 Tb (.lst [])) Tb = some (.lst []) := upd_same
        have nb : Ta ≠ Tb := ne_of_none e12 hTb
        have sb := Same.new (o := .lst []) hTb
        have e13 : H13 Pa = some (.lst xs) := x12 Pa _ n9 e8
        have nP : Pa ≠ Tb := ne_of_none e13 hTb
        have e14 := sb _ _ e13
        have st14 := Stay.trans (stay x12) (Stay.same sb)
        have dP := DpAll.stay st14 x8 (flat_prs _)
        have hT14 := SqT.stay st14 hT
        have hS14 := SqT.stay st14 hS
        have f14 := sb _ _ e12
        have d14 := DpAll.sameD sb d12
        have x14 := Ext.trans x12 (Ext.same sb)
        have fr : ∀ H', Ext Tb (upd H13 Tb (.lst [])) H' → Ext Ta H9 H' := fun H' y c o nc e => y c o (fun cb => by
          have := x12 c o nc e
          rw [cb, hTb] at this
          cases this) (x14 c o nc e)
        generalize upd H13 Tb (.lst []) = H14 at eb sb e14 st14 dP hT14 hS14 f14 d14 x14 fr
        refine seqI ?_
        refine ⟨_, rfl, Pa, rfl, ⟨_, SqL.of e14⟩, ?_⟩
        refine for_it (walk_list (K := K) (a := Pa) (xs := xs)) (fun k σ H' => ∃ s7 s8 s13, σ = [some (.ref a), some (.ref R), some (.ref ax), some (.ref ay), some z, some (.int (ms.length : Nat)), some (.ref Pa), s7, s8, some (.ref Ta), some (.ref xt), some (.ref xs2), some (.ref Tb), s13, none, none, none, none] ∧ Ext Tb H14 H' ∧ H' Tb = some (.lst (((pairTable t s).take k).map optV)))
          ⟨_, _, _, rfl, Ext.refl _ _, by rw [List.take_zero]; exact eb⟩ (fun i σ H' _ h => by obtain ⟨_, _, _, _, x, _⟩ := h; exact SqL.of (x _ _ nP e14)) ?_ ?_
        · rintro k y σ H15 H16 hk ⟨u7, u8, u13, rfl, x15, e15⟩ ⟨h16, hy⟩
          subst h16
          have st15 := Ext.stay x15 eb id
          obtain ⟨d2, ed2, hd2⟩ := DpAll.getV (DpAll.stay st15 dP (flat_prs _)) hy
          rw [List.getElem?_map] at ed2
          obtain ⟨p, ep, rfl⟩ := Option.map_eq_some_iff.mp ed2
          obtain ⟨pm1, pm2⟩ := prs_mem (List.mem_of_getElem? ep)
          obtain ⟨yp, oy, rfl, hYp, kYp⟩ := Dp.tupE hd2
          obtain ⟨yl, yr, rfl, hyl, hyr⟩ := dp_two kYp
          obtain rfl := Dp.intE hyl
          obtain rfl := Dp.intE hyr
          have et1 : (t.map optV)[p.1]? = some (optV (t[p.1]?.getD none)) := by
            rw [List.getElem?_map, List.getElem?_eq_getElem (by omega)]
            rfl
          have es1 : (s.map optV)[p.2]? = some (optV (s[p.2]?.getD none)) := by
            rw [List.getElem?_map, List.getElem?_eq_getElem (by omega)]
            rfl
          have ot1 : ∀ v, t[p.1]?.getD none = some v → 0 ≤ v ∧ v < (ls.length : Int) := fun v e => (oA.tab mt).2 v (by
            rw [List.getElem?_eq_getElem (by omega), Option.getD_some] at e
            exact e ▸ List.getElem_mem _)
          have eo : (pairTable t s)[k]? = some (pairOf (ms.length : Int) (t[p.1]?.getD none) (s[p.2]?.getD none)) := by
            rw [pairTable_prs, lt, lS, List.getElem?_map, ep]
            rfl
          have hT15 := SqT.stay st15 hT14
          have hS15 := SqT.stay st15 hS14
          generalize t[p.1]?.getD none = o1 at et1 ot1 eo
          generalize s[p.2]?.getD none = o2 at es1 eo
          have etk : (pairTable t s).take (k + 1) = (pairTable t s).take k ++ [pairOf (ms.length : Int) o1 o2] := by
            rw [List.take_add_one, eo]
            rfl
          have lk : ((pairTable t s).take k).length ≤ 16 := by
            rw [List.length_take, pairTable_len, lt, lS]
            omega
          refine ⟨yp, _, rfl, hYp, rfl, _, _, rfl, _, _, rfl, rfl, ?_⟩
          refine seqI ?_
          walk_at "rs"
          refine ⟨xt, _, _, _, rfl, rfl, hT15, atI_nat et1, ?_⟩
          have fin : ∀ (b : V) v, optV (pairOf (ms.length : Int) o1 o2) = v → rAppend (V.ref Tb) [v] H16 fun _ H1 => ∃ s7 s8 s13,
              [some (V.ref a), some (V.ref R), some (V.ref ax), some (V.ref ay), some z, some (V.int (ms.length : Nat)), some (V.ref Pa), some (V.int (p.1 : Nat)), some (V.int (p.2 : Nat)), some (V.ref Ta), some (V.ref xt), some (V.ref xs2), some (V.ref Tb), some b, none, none, none, none] =
                [some (V.ref a), some (V.ref R), some (V.ref ax), some (V.ref ay), some z, some (V.int (ms.length : Nat)), some (V.ref Pa), s7, s8, some (V.ref Ta), some (V.ref xt), some (V.ref xs2), some (V.ref Tb), s13, none, none, none, none] ∧
              Ext Tb H14 H1 ∧ H1 Tb = some (.lst (((pairTable t s).take (k + 1)).map optV)) := fun b v ev =>
            ⟨Tb, _, _, rfl, rfl, e15, by rw [List.length_map]; exact Nat.lt_of_le_of_lt (Nat.le_trans lk (by decide : 16 ≤ 4000)) (by decide), _, _, _, rfl, Ext.trans x15 Ext.put, by rw [etk, List.map_append, ← ev]; exact upd_same⟩
          have ty : tyV K "list" (V.ref Tb) H16 := .inl ⟨rfl, _, SqL.of e15⟩
          cases o1 with
          | none => exact ite2 (fun _ => ⟨ty, fin _ _ (by cases o2 <;> rfl)⟩) (fun h => (h (decide_eq_true rfl)).elim)
          | some v =>
            obtain ⟨v0, v1⟩ := ot1 v rfl
            refine ite2 (fun h => by cases of_decide_eq_true h) (fun _ => ?_)
            refine ⟨xs2, _, _, _, rfl, rfl, hS15, atI_nat es1, ty, ?_⟩
            cases o2 with
            | none => exact ite2 (fun _ => fin _ _ rfl) (fun h => (h (decide_eq_true rfl)).elim)
            | some u =>
              refine ite2 (fun h => by cases of_decide_eq_true h) (fun _ => ?_)
              refine ⟨xt, _, _, _, rfl, rfl, hT15, atI_nat et1, _, _, rfl, rfl, Or.inr (by constructor <;> omega), ?_⟩
              refine ⟨xs2, _, _, _, rfl, rfl, hS15, atI_nat es1, _, _, rfl, rfl, ?_⟩
              exact fin _ _ rfl
        · rintro σ H15 ⟨u7, u8, u13, rfl, x15, e15⟩
          have eT : (pairTable t s).take xs.length = pairTable t s := List.take_of_length_le (by rw [pairTable_len, lt, lS]; omega)
          rw [eT] at e15
          walk_at "rs"
          have f15 : H15 Ta = some (.lst zs') := x15 _ _ nb f14
          refine ⟨.inl ⟨rfl, zs', SqL.of f15⟩, Tb, _, rfl, .inl ⟨SqL.of e15, fun tp htp => ?_⟩⟩
          have s16 := Same.new (o := .tup ((pairTable t s).map optV)) htp
          have f16 := s16 _ _ f15
          have d15 := DpAll.stay (Ext.stay x15 eb id) d14 (flat_tabs _)
          refine ⟨Ta, zs', _, rfl, rfl, f16, ?_, ?_⟩
          · have := DpAll.length d15
            rw [List.length_map, List.length_append, List.length_flatMap] at this
            simp only [List.length_map, List.map_const', List.sum_replicate_nat, List.length_take] at this
            have i3 : min i ts.length * us.length ≤ ts.length * us.length := Nat.mul_le_mul_right _ (Nat.min_le_right _ _)
            exact Nat.lt_of_le_of_lt (by omega : zs'.length ≤ 4000) (by decide)
          · have sF : Stay (upd H15 tp (.tup ((pairTable t s).map optV))) (upd (upd H15 tp (.tup ((pairTable t s).map optV))) Ta (.lst (zs' ++ [.ref tp]))) := Stay.put f16 id
            refine ⟨_, _, _, _, _, zs' ++ [.ref tp], rfl, Ext.trans (fr _ x15) (Ext.trans (Ext.same s16) Ext.put), upd_same, ?_⟩
            rw [app_take _ _ es, List.map_append]
            refine DpAll.app (DpAll.stay (Stay.trans (Stay.same s16) sF) d15 (flat_tabs _)) (.cons ?_ .nil)
            refine Dp.stay sF ?_ (flat_tabD _)
            exact .tup (.inl (.inl upd_same)) (DpAll.ofOpts _)
      · rintro σ H12 ⟨r7, r8, r11, r12, r13, zs', rfl, x12, e12, d12⟩
        refine ⟨_, _, _, _, _, _, zs', rfl, x12, e12, ?_⟩
        have eU : us.take yg.length = us := List.take_of_length_le (by omega)
        rw [eU] at d12
        rw [List.take_add_one, et]
        rw [List.flatMap_append]
        simpa using d12
    rintro σ H10 ⟨q7, q8, q10, q11, q12, q13, zs, rfl, x10, e10, d10⟩
    rw [List.take_of_length_le (by omega)] at d10
    walk_at "rs"
    obtain ⟨za, zd, zl, zf, rfl, hz, hzl, hzf⟩ := AlgAt.stay (stay x10) aZ
    obtain ⟨zb, zv, rfl, hzb, kzb⟩ := Dp.tupE hzl
    obtain rfl := DpAll.ints kzb
    have ePa := x10 Pa _ n9 e8
    have tl : (lexTables ts us).length = ts.length * us.length := lexTables_len _ _
    have okZ := lex_ok oA oB sA sB (by omega) (by omega)
    have pl := pairLevels_len (uniq ls) (uniq ms) ls ms
    refine ifJoinD (fun σ' H' => σ' = [some (.ref a), some (.ref R), some (.ref ax), some (.ref ay), some (.ref za), some (.int (ms.length : Nat)), some (.ref Pa), q7, q8, some (.ref Ta), q10, q11, q12, q13, none, none, none, none] ∧ Same H10 H') (fun U hU => ?_) ?_
    · simp only [tOr, tNot, L2.tB]
      walk_at "rs"
      refine ⟨za, zd, _, rfl, hz, za, zd, _, _, rfl, hz, af_f _ _, ?_⟩
      refine ⟨Ta, zs, rfl, .inl ⟨SqL.of e10, fun tp htp => ?_⟩⟩
      have sT := Same.new (o := .tup zs) htp
      refine ⟨_, _, tabsD (lexTables ts us), rfl, Dp.sameD sT hzf, .tup (.inl (.inl upd_same)) (DpAll.sameD sT d10), deep_tabs 1 (by omega) (fun t ht => ?_), fun H13 s13 => ?_⟩
      · rw [(okZ.tab ht).1, pl]
        omega
      walk_at "rs"
      refine ite2 (fun h => by cases h) (fun _ => ?_)
      have s14 := Same.trans sT s13
      have hz' := s14 _ _ hz
      refine ⟨za, zd, _, rfl, hz', za, zd, _, _, rfl, hz', af_l _ _, ?_⟩
      refine ⟨zb, _, rfl, .inr (SqT.sameT s14 hzb), Pa, xs, rfl, .inl (SqL.of (s14 _ _ ePa)), rfl, _, rfl, ?_⟩
      refine ite2 (fun h => ?_) (fun _ => hU _ _ ⟨rfl, s14⟩)
      rw [List.length_map, pl, lP, decide_eq_true rfl] at h
      cases h
    rintro σ H11 ⟨rfl, s11⟩
    have P11 := s11 _ _ ePa
    have z11 := s11 _ _ hz
    have b11 := SqT.sameT s11 hzb
    have X11 := SqT.sameT s11 (SqT.stay (stay x10) hX)
    have Y11 := SqT.sameT s11 (SqT.stay (stay x10) hY)
    have Bx11 := SqT.sameT s11 (SqT.stay (stay x10) hBx)
    have By11 := SqT.sameT s11 (SqT.stay (stay x10) hBy)
    have dP := DpAll.sameD s11 (DpAll.stay (stay x10) x8 (flat_prs _))
    clear s11 hz hzb hzf d10 e10 x10 stay e8 e9 x8
    have pr : ∀ i, i < xs.length → ∃ (v : Addr) (p : Nat × Nat) (x y lv : Int), xs[i]? = some (.ref v) ∧ SqT K H11 v [.int (p.1 : Nat), .int (p.2 : Nat)] ∧ (ls.map V.int)[p.1]? = some (.int x) ∧ (ms.map V.int)[p.2]? = some (.int y) ∧
        x ∈ ls ∧ y ∈ ms ∧ lv = ((plc (uniq ls) x : Nat) : Int) * ((uniq ms).length : Int) + ((plc (uniq ms) y : Nat) : Int) ∧ ((pairLevels (uniq ls) (uniq ms) ls ms).map V.int)[i]? = some (.int lv) := fun i hi => by
      have hp : i < (prs ls.length ms.length).length := by rw [prs_len, ← lP]; exact hi
      have ep := List.getElem?_eq_getElem hp
      generalize (prs ls.length ms.length)[i] = p at ep
      obtain ⟨p1, p2⟩ := prs_mem (List.mem_of_getElem? ep)
      obtain ⟨v, ev, hv⟩ := DpAll.get (i := i) (d := prD p) dP (by rw [List.getElem?_map, ep]; rfl)
      obtain ⟨vp, ov, rfl, hV, kV⟩ := Dp.tupE hv
      obtain ⟨yl, yr, rfl, hyl, hyr⟩ := dp_two kV
      obtain rfl := Dp.intE hyl
      obtain rfl := Dp.intE hyr
      have ex := List.getElem?_eq_getElem p1
      have ey := List.getElem?_eq_getElem p2
      refine ⟨vp, p, ls[p.1], ms[p.2], _, ev, hV, by rw [List.getElem?_map, ex]; rfl, by rw [List.getElem?_map, ey]; rfl, List.getElem_mem _, List.getElem_mem _, rfl, ?_⟩
      rw [List.getElem?_map, pairLevels_prs, List.getElem?_map, ep]
      simp only [Option.map_some, ex, ey, Option.getD_some]
    -- the order of the levels
    refine seqI ?_
    refine tforR (fun M H' => M = xs.length ∧ H11 = H') (fun R' hR' => ?_) ?_
    · simp only [iRng1]
      walk_at "rs"
      exact ⟨Pa, xs, rfl, .inl (SqL.of P11), _, rfl, by omega, by omega, hR' _ _ ⟨by omega, rfl⟩⟩
    rintro _ _ ⟨rfl, rfl⟩
    refine for_it (walk_range (lo := 0) (n := xs.length)) (fun i σ H' => ∃ s14 s15 s16 s17, σ = [some (.ref a), some (.ref R), some (.ref ax), some (.ref ay), some (.ref za), some (.int (ms.length : Nat)), some (.ref Pa), q7, q8, some (.ref Ta), q10, q11, q12, q13, s14, s15, s16, s17] ∧ Same H11 H')
      ⟨_, _, _, _, rfl, Same.refl _⟩ (fun _ _ _ _ _ => trivial) ?_ ?_
    · rintro i x σ H12 H13 hi ⟨q14, q15, q16, q17, rfl, s12⟩ ⟨h13, rfl⟩
      subst h13
      walk_at "rs"
      refine tforR (fun M H' => M = xs.length ∧ H13 = H') (fun R' hR' => ?_) ?_
      · simp only [iRng1]
        walk_at "rs"
        exact ⟨Pa, xs, rfl, .inl (SqL.of (s12 _ _ P11)), _, rfl, by omega, by omega, hR' _ _ ⟨by omega, rfl⟩⟩
      rintro _ _ ⟨rfl, rfl⟩
      refine for_it (walk_range (lo := 0) (n := xs.length)) (fun j σ H' => ∃ s15 s16 s17, σ = [some (.ref a), some (.ref R), some (.ref ax), some (.ref ay), some (.ref za), some (.int (ms.length : Nat)), some (.ref Pa), q7, q8, some (.ref Ta), q10, q11, q12, q13, some (.int (0 + (i : Nat))), s15, s16, s17] ∧ Same H11 H')
        ⟨_, _, _, rfl, s12⟩ (fun _ _ _ _ _ => trivial) ?_ ?_
      · rintro j x σ H14 H15 hj ⟨r15, r16, r17, rfl, s14⟩ ⟨h15, rfl⟩
        subst h15
        refine seqI ?_
        walk_at "rs"
        obtain ⟨vi, pi, x, y, li, evi, hvi, exi, eyi, mx, my, eli, gli⟩ := pr i hi
        obtain ⟨vj, pj, x', y', lj, evj, hvj, exj, eyj, mx', my', elj, glj⟩ := pr j hj
        refine ⟨ax, _, 0, _, rfl, rfl, SqT.sameT s14 X11, rfl, ?_⟩
        refine ⟨Pa, xs, _, _, rfl, rfl, SqL.of (s14 _ _ P11), by rw [Int.zero_add]; exact atI_nat evi, ?_⟩
        refine ⟨vi, _, 0, _, rfl, rfl, SqT.sameT s14 hvi, rfl, ?_⟩
        refine ⟨bx, _, _, _, rfl, rfl, SqT.sameT s14 Bx11, atI_nat exi, ?_⟩
        refine ⟨ay, _, 0, _, rfl, rfl, SqT.sameT s14 Y11, rfl, ?_⟩
        refine ⟨Pa, xs, _, _, rfl, rfl, SqL.of (s14 _ _ P11), by rw [Int.zero_add]; exact atI_nat evi, ?_⟩
        refine ⟨vi, _, 1, _, rfl, rfl, SqT.sameT s14 hvi, rfl, ?_⟩
        refine ⟨by_, _, _, _, rfl, rfl, SqT.sameT s14 By11, atI_nat eyi, by decide, fun p hp => ?_⟩
        have sp := Same.new (o := .tup [.int x, .int y]) hp
        have s16 := Same.trans s14 sp
        refine ⟨ax, _, 0, _, rfl, rfl, SqT.sameT s16 X11, rfl, ?_⟩
        refine ⟨Pa, xs, _, _, rfl, rfl, SqL.of (s16 _ _ P11), by rw [Int.zero_add]; exact atI_nat evj, ?_⟩
        refine ⟨vj, _, 0, _, rfl, rfl, SqT.sameT s16 hvj, rfl, ?_⟩
        refine ⟨bx, _, _, _, rfl, rfl, SqT.sameT s16 Bx11, atI_nat exj, ?_⟩
        refine ⟨ay, _, 0, _, rfl, rfl, SqT.sameT s16 Y11, rfl, ?_⟩
        refine ⟨Pa, xs, _, _, rfl, rfl, SqL.of (s16 _ _ P11), by rw [Int.zero_add]; exact atI_nat evj, ?_⟩
        refine ⟨vj, _, 1, _, rfl, rfl, SqT.sameT s16 hvj, rfl, ?_⟩
        refine ⟨by_, _, _, _, rfl, rfl, SqT.sameT s16 By11, atI_nat eyj, by decide, fun p' hp' => ⟨_, _, rfl, ?_⟩⟩
        have sp' := Same.new (o := .tup [.int x', .int y']) hp'
        have s17 := Same.trans s16 sp'
        have z17 := s17 _ _ z11
        have b17 := SqT.sameT s17 b11
        simp only [tIfS]
        walk_at "rs"
        refine ⟨za, zd, _, rfl, z17, za, zd, _, _, rfl, z17, af_l _ _, ?_⟩
        refine ⟨zb, _, _, _, rfl, rfl, b17, by rw [Int.zero_add]; exact atI_nat gli, ?_⟩
        refine ⟨za, zd, _, rfl, z17, za, zd, _, _, rfl, z17, af_l _ _, ?_⟩
        refine ⟨zb, _, _, _, rfl, rfl, b17, by rw [Int.zero_add]; exact atI_nat glj, ?_⟩
        refine ⟨_, _, rfl, rfl, p, p', [x, y], [x', y'], rfl, rfl, .inl (.inl (sp' _ _ upd_same)), .inl (.inl upd_same), rfl, _, rfl, ?_⟩
        have eo := ordPair sA sB mx my mx' my'
        rw [← eli, ← elj] at eo
        rw [eo]
        exact ite2 (fun h => by simp at h) (fun _ => ⟨_, _, _, rfl, s17⟩)
      · rintro σ H14 ⟨r15, r16, r17, rfl, s14⟩
        exact ⟨_, _, _, _, rfl, s14⟩
    rintro σ H12 ⟨q14, q15, q16, q17, rfl, s12⟩
    walk_at "rs"
    refine ⟨za, zd, _, rfl, s12 _ _ z11, za, zd, _, _, rfl, s12 _ _ z11, af_l _ _, ?_⟩
    refine ⟨zb, _, rfl, SqT.sameT s12 b11, by omega, fun p1 c1 hp1 hc1 cd1 => ?_⟩
    refine ⟨p1, _, c1, rfl, upd_same, by omega, fun ns b pw mem len hb => ?_⟩
    have s13 := Same.trans s12 (Same.trans (Same.new (o := SetO w p1 (fun j => decide (j ∈ pairLevels (uniq ls) (uniq ms) ls ms)) c1) hp1) (Same.new (o := .lst (ns.map V.int)) hb))
    have l1 : 1 ≤ (pairLevels (uniq ls) (uniq ms) ls ms).length := okZ.l1
    have in1 : ∀ k, k ∈ ns → k ∈ pairLevels (uniq ls) (uniq ms) ls ms := fun k hk => of_decide_eq_true ((mem k).mp hk)
    obtain ⟨g, hg⟩ : ∃ g, g ∈ ns := by
      have := List.getElem_mem (l := pairLevels (uniq ls) (uniq ms) ls ms) (n := 0) (by omega)
      exact ⟨_, (mem _).mpr (decide_eq_true this)⟩
    obtain ⟨ini, lst, rfl⟩ : ∃ ini lst, ns = ini ++ [lst] := by
      rcases List.eq_nil_or_concat ns with e | ⟨L, z, e⟩
      · rw [e] at hg
        cases hg
      · exact ⟨L, z, by rw [e, List.concat_eq_append]⟩
    have lt := pairLevels_lt sA sB (in1 lst (by simp))
    refine ⟨1, rfl, b, _, -1, .int lst, rfl, rfl, SqL.of upd_same, by rw [List.map_append]; exact atI_last _ _, ?_⟩
    refine ⟨ax, _, 0, _, rfl, rfl, SqT.sameT s13 X11, rfl, ?_⟩
    refine ⟨bx, _, rfl, SqT.sameT s13 Bx11, by omega, fun p2 c2 hp2 hc2 cd2 => ?_⟩
    have s14 := Same.trans s13 (Same.new (o := SetO w p2 (fun j => decide (j ∈ ls)) c2) hp2)
    refine ⟨p2, _, c2, rfl, upd_same, by omega, ?_⟩
    refine ⟨ay, _, 0, _, rfl, rfl, SqT.sameT s14 Y11, rfl, ?_⟩
    refine ⟨by_, _, rfl, SqT.sameT s14 By11, by omega, fun p3 c3 hp3 hc3 cd3 => ?_⟩
    refine ⟨p3, _, c3, rfl, upd_same, by omega, Or.inr (by constructor <;> omega), _, _, rfl, rfl, ?_⟩
    have e2 := sA.card cd2
    have e3 := sB.card cd3
    subst e2
    subst e3
    rw [decide_eq_true lt]
    exact q _
end
end Rw

/-! what the top has left, the law of lexicographic products -/
namespace Rw
open PySem PySem.Spec PyProof.Rows L2
open C8 (Cal Mak pe_c pe_mk)
abbrev s_Algebra_levels : Stmt := inClass (topS 12) 1
abbrev n_Algebra_levels : List Str := ["self"]
theorem sc_Algebra_levels : FnScope n_Algebra_levels ["self"] (defScope s_Algebra_levels) := ⟨rfl, rfl, rfl, by decide +kernel, rfl, by decide +kernel, by decide +kernel⟩
abbrev s_Algebra_functions : Stmt := inClass (topS 12) 2
abbrev n_Algebra_functions : List Str := ["self"]
theorem sc_Algebra_functions : FnScope n_Algebra_functions ["self"] (defScope s_Algebra_functions) := ⟨rfl, rfl, rfl, by decide +kernel, rfl, by decide +kernel, by decide +kernel⟩
section
theorem all_mk {l : PySem.W.OpenLaw} {w : World} {K : PySem.W.Frag} {h : Heap} {mg : Str → Option Value} {fa : Addr} (X : K.In h) (G : h.Ns mainGlobals mg) (hfa : mg "law" = some (.ref fa))
    {C : Addr} {f0 : Addr} {od0 an0 : Option Addr} {sl0 : Array (Option Value)} {oc0 kV0 dc0 pm0 cd0 ct0 : Value} {p1 : Addr} {q1 : List Value} {f1 : Addr} {od1 an1 : Option Addr} {sl1 : Array (Option Value)} {oc1 kV1 dc1 pm1 cd1 ct1 : Value} {p2 : Addr} {q2 : List Value} {f2 : Addr} {od2 an2 : Option Addr} {sl2 : Array (Option Value)} {oc2 kV2 dc2 pm2 cd2 ct2 : Value} {tk0 : Tok} {tk1 : Tok} {f3 : Addr} {od3 an3 : Option Addr} {sl3 : Array (Option Value)} {oc3 kV3 dc3 pm3 cd3 ct3 : Value} {f4 : Addr} {od4 an4 : Option Addr} {sl4 : Array (Option Value)} {oc4 kV4 dc4 pm4 cd4 ct4 : Value} {f5 : Addr} {od5 an5 : Option Addr} {sl5 : Array (Option Value)} {oc5 kV5 dc5 pm5 cd5 ct5 : Value} {f6 : Addr} {od6 an6 : Option Addr} {sl6 : Array (Option Value)} {oc6 kV6 dc6 pm6 cd6 ct6 : Value} {f7 : Addr} {od7 an7 : Option Addr} {sl7 : Array (Option Value)} {oc7 kV7 dc7 pm7 cd7 ct7 : Value} {f8 : Addr} {od8 an8 : Option Addr} {sl8 : Array (Option Value)} {oc8 kV8 dc8 pm8 cd8 ct8 : Value} {f9 : Addr} {od9 an9 : Option Addr} {sl9 : Array (Option Value)} {oc9 kV9 dc9 pm9 cd9 ct9 : Value} {f10 : Addr} {od10 an10 : Option Addr} {sl10 : Array (Option Value)} {oc10 kV10 dc10 pm10 cd10 ct10 : Value} {f11 : Addr} {od11 an11 : Option Addr} {sl11 : Array (Option Value)} {oc11 kV11 dc11 pm11 cd11 ct11 : Value} {f12 : Addr} {od12 an12 : Option Addr} {sl12 : Array (Option Value)} {oc12 kV12 dc12 pm12 cd12 ct12 : Value} {f13 : Addr} {od13 an13 : Option Addr} {sl13 : Array (Option Value)} {oc13 kV13 dc13 pm13 cd13 ct13 : Value} {f14 : Addr} {od14 an14 : Option Addr} {sl14 : Array (Option Value)} {oc14 kV14 dc14 pm14 cd14 ct14 : Value} {f15 : Addr} {od15 an15 : Option Addr} {sl15 : Array (Option Value)} {oc15 kV15 dc15 pm15 cd15 ct15 : Value} {f16 : Addr} {od16 an16 : Option Addr} {sl16 : Array (Option Value)} {oc16 kV16 dc16 pm16 cd16 ct16 : Value} {f17 : Addr} {od17 an17 : Option Addr} {sl17 : Array (Option Value)} {oc17 kV17 dc17 pm17 cd17 ct17 : Value}
    (aC : PySem.W.nsIn K mainGlobals "Algebra" = some (some (.ref C)))
    (pg : PySem.W.plainGet K C Str.empty = true)
    (hd : PySem.W.hasDictIn K C = true)
    (po : PySem.W.plainOver K C = true)
    (sa : PySem.W.findIn K (.ref C) "__setattr__" = some (some (.builtin "object.__setattr__")))
    (mk : PySem.W.makesIn K C = true)
    (kc : PySem.W.keepIn K (.ref C) = true)
    (n0 : PySem.W.findIn K (.ref C) "_levels" = some none)
    (n1 : PySem.W.findIn K (.ref C) "_functions" = some none)
    (x1 : PySem.W.findIn K (.ref C) "__class__" = some (some (.builtin "object.__class__")))
    (x2 : PySem.W.specialIn K (.builtin "object.__class__") "__get__" = some (some (.builtin "getset_descriptor.__get__")))
    (x3 : PySem.W.takesIn K (.builtin "object.__class__") = some true)
    (x4 : PySem.W.mroIn K C (.type "object") = some true)
    (a0 : PySem.W.findIn K (.ref C) "__init__" = some (some (.ref f0)))
    (i0 : PySem.W.isFn K (.ref f0) = true)
    (l0 : K.lookup f0 = some ⟨oc0, od0, .func (PySem.W.fnOf "__init__" "Algebra.__init__" (defArgs s_Algebra_init) (defBody s_Algebra_init) (defScope s_Algebra_init) .none kV0 dc0 pm0 an0 cd0 ct0), sl0⟩)
    (c0 : PySem.W.codeIn K cd0 "Algebra.__init__" = true)
    (k0 : PySem.W.keepIn K (.ref f0) = true)
    (a1 : PySem.W.findIn K (.ref C) "levels" = some (some (.ref p1)))
    (g1 : PySem.W.specialIn K (.ref p1) "__get__" = some (some (.builtin "property.__get__")))
    (t1 : PySem.W.takesIn K (.ref p1) = some true)
    (r1 : PySem.W.recIn K p1 "property" = some (.ref f1 :: q1))
    (l1 : K.lookup f1 = some ⟨oc1, od1, .func (PySem.W.fnOf "levels" "Algebra.levels" (defArgs s_Algebra_levels) (defBody s_Algebra_levels) (defScope s_Algebra_levels) .none kV1 dc1 pm1 an1 cd1 ct1), sl1⟩)
    (c1 : PySem.W.codeIn K cd1 "Algebra.levels" = true)
    (k1 : PySem.W.keepIn K (.ref f1) = true)
    (a2 : PySem.W.findIn K (.ref C) "functions" = some (some (.ref p2)))
    (g2 : PySem.W.specialIn K (.ref p2) "__get__" = some (some (.builtin "property.__get__")))
    (t2 : PySem.W.takesIn K (.ref p2) = some true)
    (r2 : PySem.W.recIn K p2 "property" = some (.ref f2 :: q2))
    (l2 : K.lookup f2 = some ⟨oc2, od2, .func (PySem.W.fnOf "functions" "Algebra.functions" (defArgs s_Algebra_functions) (defBody s_Algebra_functions) (defScope s_Algebra_functions) .none kV2 dc2 pm2 an2 cd2 ct2), sl2⟩)
    (c2 : PySem.W.codeIn K cd2 "Algebra.functions" = true)
    (k2 : PySem.W.keepIn K (.ref f2) = true)
    (m0 : PySem.W.nsIn K mainGlobals "MOST_ITEMS" = some (some (Value.int 64 tk0)))
    (m1 : PySem.W.nsIn K mainGlobals "MOST_LEVEL" = some (some (Value.int 4095 tk1)))
    (z_isinstance : PySem.W.nsIn K mainGlobals "isinstance" = some none)
    (z_int : PySem.W.nsIn K mainGlobals "int" = some none)
    (z_bool : PySem.W.nsIn K mainGlobals "bool" = some none)
    (z_tuple : PySem.W.nsIn K mainGlobals "tuple" = some none)
    (z_list : PySem.W.nsIn K mainGlobals "list" = some none)
    (z_all : PySem.W.nsIn K mainGlobals "all" = some none)
    (z_len : PySem.W.nsIn K mainGlobals "len" = some none)
    (z_range : PySem.W.nsIn K mainGlobals "range" = some none)
    (z_enumerate : PySem.W.nsIn K mainGlobals "enumerate" = some none)
    (z_sorted : PySem.W.nsIn K mainGlobals "sorted" = some none)
    (z_set : PySem.W.nsIn K mainGlobals "set" = some none)
    (z_str : PySem.W.nsIn K mainGlobals "str" = some none)
    (a3 : PySem.W.nsIn K mainGlobals "is_number" = some (some (.ref f3)))
    (l3 : K.lookup f3 = some ⟨oc3, od3, .func (PySem.W.fnOf "is_number" "is_number" (defArgs s_is_number) (defBody s_is_number) (defScope s_is_number) .none kV3 dc3 pm3 an3 cd3 ct3), sl3⟩)
    (c3 : PySem.W.codeIn K cd3 "is_number" = true)
    (k3 : PySem.W.keepIn K (.ref f3) = true)
    (a4 : PySem.W.nsIn K mainGlobals "is_tuple" = some (some (.ref f4)))
    (l4 : K.lookup f4 = some ⟨oc4, od4, .func (PySem.W.fnOf "is_tuple" "is_tuple" (defArgs s_is_tuple) (defBody s_is_tuple) (defScope s_is_tuple) .none kV4 dc4 pm4 an4 cd4 ct4), sl4⟩)
    (c4 : PySem.W.codeIn K cd4 "is_tuple" = true)
    (k4 : PySem.W.keepIn K (.ref f4) = true)
    (a5 : PySem.W.nsIn K mainGlobals "are_numbers" = some (some (.ref f5)))
    (l5 : K.lookup f5 = some ⟨oc5, od5, .func (PySem.W.fnOf "are_numbers" "are_numbers" (defArgs s_are_numbers) (defBody s_are_numbers) (defScope s_are_numbers) .none kV5 dc5 pm5 an5 cd5 ct5), sl5⟩)
    (c5 : PySem.W.codeIn K cd5 "are_numbers" = true)
    (k5 : PySem.W.keepIn K (.ref f5) = true)
    (a6 : PySem.W.nsIn K mainGlobals "_is_table" = some (some (.ref f6)))
    (l6 : K.lookup f6 = some ⟨oc6, od6, .func (PySem.W.fnOf "_is_table" "_is_table" (defArgs s_is_table) (defBody s_is_table) (defScope s_is_table) .none kV6 dc6 pm6 an6 cd6 ct6), sl6⟩)
    (c6 : PySem.W.codeIn K cd6 "_is_table" = true)
    (k6 : PySem.W.keepIn K (.ref f6) = true)
    (a7 : PySem.W.nsIn K mainGlobals "check_algebra" = some (some (.ref f7)))
    (l7 : K.lookup f7 = some ⟨oc7, od7, .func (PySem.W.fnOf "check_algebra" "check_algebra" (defArgs s_check_algebra) (defBody s_check_algebra) (defScope s_check_algebra) .none kV7 dc7 pm7 an7 cd7 ct7), sl7⟩)
    (c7 : PySem.W.codeIn K cd7 "check_algebra" = true)
    (k7 : PySem.W.keepIn K (.ref f7) = true)
    (a8 : PySem.W.nsIn K mainGlobals "_check_two" = some (some (.ref f8)))
    (l8 : K.lookup f8 = some ⟨oc8, od8, .func (PySem.W.fnOf "_check_two" "_check_two" (defArgs s_check_two) (defBody s_check_two) (defScope s_check_two) .none kV8 dc8 pm8 an8 cd8 ct8), sl8⟩)
    (c8 : PySem.W.codeIn K cd8 "_check_two" = true)
    (k8 : PySem.W.keepIn K (.ref f8) = true)
    (a9 : PySem.W.nsIn K mainGlobals "_check_many" = some (some (.ref f9)))
    (l9 : K.lookup f9 = some ⟨oc9, od9, .func (PySem.W.fnOf "_check_many" "_check_many" (defArgs s_check_many) (defBody s_check_many) (defScope s_check_many) .none kV9 dc9 pm9 an9 cd9 ct9), sl9⟩)
    (c9 : PySem.W.codeIn K cd9 "_check_many" = true)
    (k9 : PySem.W.keepIn K (.ref f9) = true)
    (a10 : PySem.W.nsIn K mainGlobals "_places" = some (some (.ref f10)))
    (l10 : K.lookup f10 = some ⟨oc10, od10, .func (PySem.W.fnOf "_places" "_places" (defArgs s_places) (defBody s_places) (defScope s_places) .none kV10 dc10 pm10 an10 cd10 ct10), sl10⟩)
    (c10 : PySem.W.codeIn K cd10 "_places" = true)
    (k10 : PySem.W.keepIn K (.ref f10) = true)
    (a11 : PySem.W.nsIn K mainGlobals "_pair_levels" = some (some (.ref f11)))
    (l11 : K.lookup f11 = some ⟨oc11, od11, .func (PySem.W.fnOf "_pair_levels" "_pair_levels" (defArgs s_pair_levels) (defBody s_pair_levels) (defScope s_pair_levels) .none kV11 dc11 pm11 an11 cd11 ct11), sl11⟩)
    (c11 : PySem.W.codeIn K cd11 "_pair_levels" = true)
    (k11 : PySem.W.keepIn K (.ref f11) = true)
    (a12 : PySem.W.nsIn K mainGlobals "_pair_table" = some (some (.ref f12)))
    (l12 : K.lookup f12 = some ⟨oc12, od12, .func (PySem.W.fnOf "_pair_table" "_pair_table" (defArgs s_pair_table) (defBody s_pair_table) (defScope s_pair_table) .none kV12 dc12 pm12 an12 cd12 ct12), sl12⟩)
    (c12 : PySem.W.codeIn K cd12 "_pair_table" = true)
    (k12 : PySem.W.keepIn K (.ref f12) = true)
    (a13 : PySem.W.nsIn K mainGlobals "lexicographic" = some (some (.ref f13)))
    (l13 : K.lookup f13 = some ⟨oc13, od13, .func (PySem.W.fnOf "lexicographic" "lexicographic" (defArgs s_lexicographic) (defBody s_lexicographic) (defScope s_lexicographic) .none kV13 dc13 pm13 an13 cd13 ct13), sl13⟩)
    (c13 : PySem.W.codeIn K cd13 "lexicographic" = true)
    (k13 : PySem.W.keepIn K (.ref f13) = true)
    (a14 : PySem.W.nsIn K mainGlobals "_law_taken" = some (some (.ref f14)))
    (l14 : K.lookup f14 = some ⟨oc14, od14, .func (PySem.W.fnOf "_law_taken" "_law_taken" (defArgs s_law_taken) (defBody s_law_taken) (defScope s_law_taken) .none kV14 dc14 pm14 an14 cd14 ct14), sl14⟩)
    (c14 : PySem.W.codeIn K cd14 "_law_taken" = true)
    (k14 : PySem.W.keepIn K (.ref f14) = true)
    (a15 : PySem.W.nsIn K mainGlobals "_law_alike" = some (some (.ref f15)))
    (l15 : K.lookup f15 = some ⟨oc15, od15, .func (PySem.W.fnOf "_law_alike" "_law_alike" (defArgs s_law_alike) (defBody s_law_alike) (defScope s_law_alike) .none kV15 dc15 pm15 an15 cd15 ct15), sl15⟩)
    (c15 : PySem.W.codeIn K cd15 "_law_alike" = true)
    (k15 : PySem.W.keepIn K (.ref f15) = true)
    (a16 : PySem.W.nsIn K mainGlobals "_law_algebra" = some (some (.ref f16)))
    (l16 : K.lookup f16 = some ⟨oc16, od16, .func (PySem.W.fnOf "_law_algebra" "_law_algebra" (defArgs s_law_algebra) (defBody s_law_algebra) (defScope s_law_algebra) .none kV16 dc16 pm16 an16 cd16 ct16), sl16⟩)
    (c16 : PySem.W.codeIn K cd16 "_law_algebra" = true)
    (k16 : PySem.W.keepIn K (.ref f16) = true)
    (a17 : PySem.W.nsIn K mainGlobals "law" = some (some (.ref f17)))
    (l17 : K.lookup f17 = some ⟨oc17, od17, .func (PySem.W.fnOf "law" "law" (defArgs s_law) (defBody s_law) (defScope s_law) .none kV17 dc17 pm17 an17 cd17 ct17), sl17⟩)
    (c17 : PySem.W.codeIn K cd17 "law" = true)
    (k17 : PySem.W.keepIn K (.ref f17) = true) :
    ∃ fd : FuncData, (∀ (s : Shared) (v : Value), BindsTo s fd ⟨[v], []⟩ [("script", v)]) ∧ ∀ base : Heap, K.In base → base.Ns mainGlobals mg → FnOk l.prog w K mg base CX0 6 fa fd ["script"] (spLaw K) := by
  have e := hfa.symm.trans (PySem.W.mg_of X G a17)
  cases e
  have cl : Cls K C := ⟨pg, hd, po, sa⟩
  have gC := PySem.W.mg_of X G aC
  have ci : ClsI K C := ⟨cl, x1, x2, x3, x4, if_pos (beq_self_eq_true _)⟩
  have F0 := fun_mk (st := s_Algebra_init) l0 c0 k0
  have b0 := F0.binds (ps := ["self", "levels", "functions"]) fun _ _ _ _ _ _ us hl => match us, hl with | [_, _, _], _ => rfl
  have F1 := fun_mk (st := s_Algebra_levels) l1 c1 k1
  have b1 := F1.binds (ps := ["self"]) fun _ _ _ _ _ _ us hl => match us, hl with | [_], _ => rfl
  have F2 := fun_mk (st := s_Algebra_functions) l2 c2 k2
  have b2 := F2.binds (ps := ["self"]) fun _ _ _ _ _ _ us hl => match us, hl with | [_], _ => rfl
  have T : Bl mg := ⟨PySem.W.mg_none_of X G z_isinstance, PySem.W.mg_none_of X G z_int, PySem.W.mg_none_of X G z_bool, PySem.W.mg_none_of X G z_tuple, PySem.W.mg_none_of X G z_list, PySem.W.mg_none_of X G z_all, PySem.W.mg_none_of X G z_len, PySem.W.mg_none_of X G z_range, PySem.W.mg_none_of X G z_enumerate, PySem.W.mg_none_of X G z_sorted, PySem.W.mg_none_of X G z_set, PySem.W.mg_none_of X G z_str⟩
  have TK : Ks mg := ⟨T, ⟨_, PySem.W.mg_of X G m0⟩, ⟨_, PySem.W.mg_of X G m1⟩⟩
  have F3 := fun_mk (st := s_is_number) l3 c3 k3
  have b3 := F3.binds (ps := ["value", "low", "high"]) fun _ _ _ _ _ _ us hl => match us, hl with | [_, _, _], _ => rfl
  have F4 := fun_mk (st := s_is_tuple) l4 c4 k4
  have b4 := F4.binds (ps := ["value", "least", "most"]) fun _ _ _ _ _ _ us hl => match us, hl with | [_, _, _], _ => rfl
  have F5 := fun_mk (st := s_are_numbers) l5 c5 k5
  have b5 := F5.binds (ps := ["value", "low", "high"]) fun _ _ _ _ _ _ us hl => match us, hl with | [_, _, _], _ => rfl
  have F6 := fun_mk (st := s_is_table) l6 c6 k6
  have b6 := F6.binds (ps := ["value", "many"]) fun _ _ _ _ _ _ us hl => match us, hl with | [_, _], _ => rfl
  have F7 := fun_mk (st := s_check_algebra) l7 c7 k7
  have b7 := F7.binds (ps := ["algebra"]) fun _ _ _ _ _ _ us hl => match us, hl with | [_], _ => rfl
  have F8 := fun_mk (st := s_check_two) l8 c8 k8
  have b8 := F8.binds (ps := ["one", "other"]) fun _ _ _ _ _ _ us hl => match us, hl with | [_, _], _ => rfl
  have F9 := fun_mk (st := s_check_many) l9 c9 k9
  have b9 := F9.binds (ps := ["many"]) fun _ _ _ _ _ _ us hl => match us, hl with | [_], _ => rfl
  have F10 := fun_mk (st := s_places) l10 c10 k10
  have b10 := F10.binds (ps := ["algebra"]) fun _ _ _ _ _ _ us hl => match us, hl with | [_], _ => rfl
  have F11 := fun_mk (st := s_pair_levels) l11 c11 k11
  have b11 := F11.binds (ps := ["one", "other"]) fun _ _ _ _ _ _ us hl => match us, hl with | [_, _], _ => rfl
  have F12 := fun_mk (st := s_pair_table) l12 c12 k12
  have b12 := F12.binds (ps := ["one_table", "other_table"]) fun _ _ _ _ _ _ us hl => match us, hl with | [_, _], _ => rfl
  have F13 := fun_mk (st := s_lexicographic) l13 c13 k13
  have b13 := F13.binds (ps := ["one", "other"]) fun _ _ _ _ _ _ us hl => match us, hl with | [_, _], _ => rfl
  have F14 := fun_mk (st := s_law_taken) l14 c14 k14
  have b14 := F14.binds (ps := ["row", "many"]) fun _ _ _ _ _ _ us hl => match us, hl with | [_, _], _ => rfl
  have F15 := fun_mk (st := s_law_alike) l15 c15 k15
  have b15 := F15.binds (ps := ["found", "due"]) fun _ _ _ _ _ _ us hl => match us, hl with | [_, _], _ => rfl
  have F16 := fun_mk (st := s_law_algebra) l16 c16 k16
  have b16 := F16.binds (ps := ["row", "most", "many"]) fun _ _ _ _ _ _ us hl => match us, hl with | [_, _, _], _ => rfl
  have F17 := fun_mk (st := s_law) l17 c17 k17
  refine ⟨PySem.W.fnOf "law" "law" (defArgs s_law) (defBody s_law) (defScope s_law) .none kV17 dc17 pm17 an17 cd17 ct17, fun s v => .of_eq rfl, fun base _ _ => ?_⟩
  have C_p_levels : Prp l.prog w K mg base 1 C "levels" "_levels" := ⟨cl, p1, f1, _, _, ⟨a1, g1, t1, ⟨_, r1⟩⟩, fn_getter l1 c1 sc_Algebra_levels rfl rfl cl n0, b1⟩
  have C_p_functions : Prp l.prog w K mg base 1 C "functions" "_functions" := ⟨cl, p2, f2, _, _, ⟨a2, g2, t2, ⟨_, r2⟩⟩, fn_getter l2 c2 sc_Algebra_functions rfl rfl cl n1, b2⟩
  have C_is_number : Cal l.prog w K mg base 1 "is_number" (spNum K) [] := cal_mk F3 (PySem.W.mg_of X G a3) b3 (ok_is_number T F3)
  have C_is_tuple : Cal l.prog w K mg base 1 "is_tuple" (spTup K) [] := cal_mk F4 (PySem.W.mg_of X G a4) b4 (ok_is_tuple T F4)
  have C_are_numbers : Cal l.prog w K mg base 2 "are_numbers" (spNums' K) [] := cal_mk F5 (PySem.W.mg_of X G a5) b5 (ok_are_numbers T F5 C_is_number)
  have C_is_table : Cal l.prog w K mg base 2 "_is_table" (spTable K) [] := cal_mk F6 (PySem.W.mg_of X G a6) b6 (ok_is_table T F6 C_is_number C_is_tuple)
  have C_Algebra : Mak l.prog w K mg base 3 "Algebra" C (spAlgInit K C) [] := ⟨f0, _, _, [], ⟨mk, a0, i0, kc⟩, ok_Algebra_init TK F0 cl n0 n1 C_is_tuple C_are_numbers C_is_table, gC, b0, .nil⟩
  have C_check_algebra : Cal l.prog w K mg base 1 "check_algebra" (spCheck K C) [] := cal_mk F7 (PySem.W.mg_of X G a7) b7 (ok_check_algebra TK gC F7 ci)
  have C_check_two : Cal l.prog w K mg base 2 "_check_two" (spCheck2 K C) [] := cal_mk F8 (PySem.W.mg_of X G a8) b8 (ok_check_two TK F8 C_check_algebra)
  have C_check_many : Cal l.prog w K mg base 1 "_check_many" (spMany) [] := cal_mk F9 (PySem.W.mg_of X G a9) b9 (ok_check_many TK F9)
  have C_places : Cal l.prog w K mg base 3 "_places" (spPlaces K C) [] := cal_mk F10 (PySem.W.mg_of X G a10) b10 (ok_places TK F10 C_p_levels)
  have C_pair_levels : Cal l.prog w K mg base 4 "_pair_levels" (spPairLevels K C) [] := cal_mk F11 (PySem.W.mg_of X G a11) b11 (ok_pair_levels TK F11 C_p_levels C_places)
  have C_pair_table : Cal l.prog w K mg base 1 "_pair_table" (spPairTable K) [] := cal_mk F12 (PySem.W.mg_of X G a12) b12 (ok_pair_table TK F12)
  have C_lexicographic : Cal l.prog w K mg base 5 "lexicographic" (spLex K C) [] := cal_mk F13 (PySem.W.mg_of X G a13) b13 (ok_lexicographic TK F13 C_p_levels C_p_functions C_check_two C_check_many C_pair_table C_pair_levels C_Algebra)
  have C_law_taken : Cal l.prog w K mg base 1 "_law_taken" (spTaken K) [] := cal_mk F14 (PySem.W.mg_of X G a14) b14 (ok_law_taken T F14)
  have C_law_alike := ok_alike (P := l.prog) (w := w) (base := base) T F15 (PySem.W.mg_of X G a15) b15 3
  have C_law_algebra : Cal l.prog w K mg base 2 "_law_algebra" (spLawAlg K) [] := cal_mk F16 (PySem.W.mg_of X G a16) b16 (ok_law_algebra T F16 C_law_taken)
  exact ok_law T F17 C_law_algebra C_Algebra C_lexicographic C_law_alike C_p_levels C_p_functions
theorem walk {l : PySem.W.OpenLaw} {q : Program} {loose : List Str} {XP : (Str → Option Value) → Heap → Prop} {YP : World → Heap → Prop} {d : DefRec} {K : Params → PySem.W.Frag} (hn : l.most = some 63) (hdf : d.params.defaults = [])
    (hY : ∀ (w : World) (h : Heap), YP w h → (K w.params).In h)
    (F : ∀ (w : World) (mg : Str → Option Value) (fa : Addr) (h : Heap), (K w.params).In h → h.Ns mainGlobals mg → mg d.name = some (.ref fa) →
      ∃ fd : FuncData, (∀ (s : Shared) (u : Value), BindsTo s fd ⟨[u], []⟩ [("script", u)]) ∧ ∀ base : Heap, (K w.params).In base → base.Ns mainGlobals mg → FnOk l.prog w (K w.params) mg base CX0 6 fa fd ["script"] (spLaw (K w.params))) :
    PySem.W.WalkO q loose XP YP l.row.toRowW d [] (fun f vs => PySem.call f vs) :=
  L2.walk_of (n := 63) (k := 6) (x := "script") (CX := fun _ => CX0) (sp := fun w => spLaw (K w.params)) hn (by decide) hdf ⟨rfl, by decide, by decide⟩ hY F (fun _ _ a ns hl _ hS => ⟨a, ns, rfl, hS, fun _ => rfl⟩) fun _ _ _ _ _ z => z
end
end Rw

open PySem PySem.W PyProof.Rows in
set_option maxRecDepth 100000 in
set_option maxHeartbeats 0 in
theorem PySem.Challenge.cw_routeweb_k09_whole_lexicographic_product_holds : PySem.Challenge.rw_routeweb_k09_whole_lexicographic_product.Holds := by
  w_on; o_law; k_head; (case hw => w_witness2)
  k_fill
  refine Rw.walk (l := PySem.Challenge.rw_routeweb_k09_whole_lexicographic_product) rfl rfl (fun w h Y => PySem.W.kIn_of Y) ?F
  case F =>
    intro w mg fa h KX G hmg
    refine' Rw.all_mk KX G hmg ?aC ?pg ?hd ?po ?sa ?mk ?kc ?n0 ?n1 ?x1 ?x2 ?x3 ?x4 ?a0 ?i0 ?l0 ?c0 ?k0 ?a1 ?g1 ?t1 ?r1 ?l1 ?c1 ?k1 ?a2 ?g2 ?t2 ?r2 ?l2 ?c2 ?k2 ?m0 ?m1 ?z_isinstance ?z_int ?z_bool ?z_tuple ?z_list ?z_all ?z_len ?z_range ?z_enumerate ?z_sorted ?z_set ?z_str ?a3 ?l3 ?c3 ?k3 ?a4 ?l4 ?c4 ?k4 ?a5 ?l5 ?c5 ?k5 ?a6 ?l6 ?c6 ?k6 ?a7 ?l7 ?c7 ?k7 ?a8 ?l8 ?c8 ?k8 ?a9 ?l9 ?c9 ?k9 ?a10 ?l10 ?c10 ?k10 ?a11 ?l11 ?c11 ?k11 ?a12 ?l12 ?c12 ?k12 ?a13 ?l13 ?c13 ?k13 ?a14 ?l14 ?c14 ?k14 ?a15 ?l15 ?c15 ?k15 ?a16 ?l16 ?c16 ?k16 ?a17 ?l17 ?c17 ?k17
    (case aC => k_is)
    (case pg => k_is)
    (case hd => k_is)
    (case po => k_is)
    (case sa => k_is)
    (case mk => k_is)
    (case kc => k_is)
    (case n0 => k_is)
    (case n1 => k_is)
    (case x1 => k_is)
    (case x2 => k_is)
    (case x3 => k_is)
    (case x4 => k_is)
    (case a0 => k_is)
    (case i0 => k_is)
    (case l0 => k_is)
    (case c0 => k_is)
    (case k0 => k_is)
    (case a1 => k_is)
    (case g1 => k_is)
    (case t1 => k_is)
    (case r1 => k_is)
    (case l1 => k_is)
    (case c1 => k_is)
    (case k1 => k_is)
    (case a2 => k_is)
    (case g2 => k_is)
    (case t2 => k_is)
    (case r2 => k_is)
    (case l2 => k_is)
    (case c2 => k_is)
    (case k2 => k_is)
    (case m0 => k_is)
    (case m1 => k_is)
    (case z_isinstance => k_is)
    (case z_int => k_is)
    (case z_bool => k_is)
    (case z_tuple => k_is)
    (case z_list => k_is)
    (case z_all => k_is)
    (case z_len => k_is)
    (case z_range => k_is)
    (case z_enumerate => k_is)
    (case z_sorted => k_is)
    (case z_set => k_is)
    (case z_str => k_is)
    (case a3 => k_is)
    (case l3 => k_is)
    (case c3 => k_is)
    (case k3 => k_is)
    (case a4 => k_is)
    (case l4 => k_is)
    (case c4 => k_is)
    (case k4 => k_is)
    (case a5 => k_is)
    (case l5 => k_is)
    (case c5 => k_is)
    (case k5 => k_is)
    (case a6 => k_is)
    (case l6 => k_is)
    (case c6 => k_is)
    (case k6 => k_is)
    (case a7 => k_is)
    (case l7 => k_is)
    (case c7 => k_is)
    (case k7 => k_is)
    (case a8 => k_is)
    (case l8 => k_is)
    (case c8 => k_is)
    (case k8 => k_is)
    (case a9 => k_is)
    (case l9 => k_is)
    (case c9 => k_is)
    (case k9 => k_is)
    (case a10 => k_is)
    (case l10 => k_is)
    (case c10 => k_is)
    (case k10 => k_is)
    (case a11 => k_is)
    (case l11 => k_is)
    (case c11 => k_is)
    (case k11 => k_is)
    (case a12 => k_is)
    (case l12 => k_is)
    (case c12 => k_is)
    (case k12 => k_is)
    (case a13 => k_is)
    (case l13 => k_is)
    (case c13 => k_is)
    (case k13 => k_is)
    (case a14 => k_is)
    (case l14 => k_is)
    (case c14 => k_is)
    (case k14 => k_is)
    (case a15 => k_is)
    (case l15 => k_is)
    (case c15 => k_is)
    (case k15 => k_is)
    (case a16 => k_is)
    (case l16 => k_is)
    (case c16 => k_is)
    (case k16 => k_is)
    (case a17 => k_is)
    (case l17 => k_is)
    (case c17 => k_is)
    (case k17 => k_is)
