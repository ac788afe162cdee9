import PyProof.Rows.All
import Wide.All
import OpenK.AllK
import Wide.FinOn
import HandS.ForMost
import HandS.ForExc
import HandS.Wide
import HandS.Lambda
import HandS.ExcInit
import HandS.ExcCtx
import HandS.ExcIs
import HandS.ExcField
import KE.KNest
import HandS.Walk
import HandS.TupAny
import HandS.Zip
import KE.GoesEnumKw
import KE.GoesNew
import HandS.IsInst
import HandS.StrMore
import HandS.Star
import HandS.SortInts
import PyProof.ReprReads
import HandS.Set
import HandS.SetBool
import HandS.SetTxt0
import HandS.Strs
import HandS.More
import PyProof.Rows.SetFrom
import HandS.TupSets
import HandS.SetFor
import HandS.Conv
import HandS.Ends
import HandS.RaiseMore
import HandS.DictComp
import HandS.Style
import KE.KDictIter
import HandS.Iter
import KE.DataMinMax
import HandS.SortKw
import PyProof.InstEq
import PyProof.InstNe
import HandS.NamedTupSort
import HandS.MakeKw
import HandS.ExcOwn
import HandS.TryOnly
import HandS.ExcValue
import KE.KDictSum
import HandS.Sort
import KE.SortData
import PyProof.ListStr
import HandS.TupLe
import HandS.Text
import HandS.Remove
import KE.KDictKeyed
import KE.GoesZip
import KE.GoesEnum
import PyProof.EqKinds
import PyProof.FactsAll.dict
import PyProof.P3In
import HandS.DictEq
import KE.SortKeyHeap
import HandS.HotCalls
import HandS.SuiteRaise
import PySem.Challenge.RW_roadqueues_k36_putters_refused
set_option Elab.async false
set_option linter.all false
set_option maxRecDepth 100000
set_option maxHeartbeats 4000000
/-! Rq, part 0: trees and a store of cells over the abstract heap; results; what holds behind a piece of code. -/
namespace Rq
open PySem PySem.Spec PyProof.Rows L2

/-- data as trees; cel k: the k-th cell of the store; raw: any value of the abstract heap -/
inductive D where
  | non | bl (b : Bool) | int (i : Int) | str (x : Str)
  | lst (xs : List D) | lsr (xs : List D) | tup (xs : List D) | dct (kvs : List (Key × D)) | ins (C : Addr) (fs : List (Str × D))
  | cel (k : Nat) | raw (v : V)
  | exc (x : Str) (d : D) | fn (f c : Addr) (q : Str) (σ : List (Option V)) (sl : List (Option D))
/-- the defs that may make lambdas, in the laws of this program -/
def lamNames : List Str := ["_law_right", "joined", "_law_is_long_told", "_law_are_rates_told", "_law_are_rows_told", "_law_is_great_told", "_law_are_rates_refused", "_law_is_refused", "_law_are_crossed_refused", "_law_is_blown_told", "_law_are_judged_told", "_law_noted"]
/-- their tables of code objects, each with the name that its code objects bear -/
def tabsOf (K : PySem.W.Frag) : List (Addr × Str) := lamNames.filterMap fun x => (PySem.W.tabIn K x).map fun p => (p.2, (x ++ ".<locals>.") ++ "<lambda>")
/-- an exception that was caught: of the class at C, its dict at dx -/
def exv (a C dx : Addr) : HO := .ext fun h => ∃ (oe : Obj) (vs : Array Value), h.get? a = some oe ∧ L2N.Zn (.ref C) (some dx) oe ∧ oe.data = .fields vs
/-- what may still change -/
inductive Cell where
  | lst (xs : List D) | dct (kvs : List (Key × D)) | ins (C : Addr) (fs : List (Str × D))
abbrev ST := List (Option Cell)
abbrev SL := List (Option D)

def Ex (G G' : Hp) : Prop := ∀ a o, G a = some o → G' a = some o
theorem Ex.refl (G : Hp) : Ex G G := fun _ _ h => h
theorem Ex.trans {G G1 G2 : Hp} (a : Ex G G1) (b : Ex G1 G2) : Ex G G2 := fun x o h => b x o (a x o h)
theorem Ex.new {G : Hp} {p : Addr} {o : HO} (h : G p = none) : Ex G (upd G p o) := fun a u e => by
  rw [upd_ne (ne_of_none e h)]; exact e
theorem Ex.free {G G' : Hp} {p : Addr} (e : Ex G G') (h : G' p = none) : G p = none := by
  cases h1 : G p with
  | none => rfl
  | some o => rw [e p o h1] at h; cases h
theorem Ex.rd {H H' : Hp} {a : Addr} {u : HO} (e : Ex H H') (h : Rd H a u) : Rd H' a u := by
  rcases h with h | ⟨o, h⟩
  · exact Or.inl (e a _ h)
  · exact Or.inr ⟨o, e a _ h⟩
theorem Ex.l {K : PySem.W.Frag} {H H' : Hp} {a : Addr} {xs : List V} (e : Ex H H') (h : SqL K H a xs) : SqL K H' a xs := by
  rcases h with h | h
  · exact Or.inl (e.rd h)
  · exact Or.inr h
theorem sqOf {K : PySem.W.Frag} {H : Hp} {a : Addr} {xs : List V} (h : H a = some (.lst xs)) : SqL K H a xs := Or.inl (Or.inl h)
theorem Ex.t {K : PySem.W.Frag} {H H' : Hp} {a : Addr} {xs : List V} (e : Ex H H') (h : SqT K H a xs) : SqT K H' a xs := by
  rcases h with h | h
  · exact Or.inl (e.rd h)
  · exact Or.inr h

/-- as is a beginning of as' -/
def Pf (as as' : List Addr) : Prop := ∀ (k : Nat) (a : Addr), as[k]? = some a → as'[k]? = some a
theorem Pf.refl (as : List Addr) : Pf as as := fun _ _ h => h
theorem Pf.trans {as bs cs : List Addr} (p : Pf as bs) (q : Pf bs cs) : Pf as cs := fun k a h => q k a (p k a h)
theorem Pf.app (as bs : List Addr) : Pf as (as ++ bs) := fun k a h => by
  rw [List.getElem?_append_left (List.getElem?_eq_some_iff.mp h).1]; exact h

section
variable (K : PySem.W.Frag) (G : Hp) (as : List Addr)
mutual
inductive DR : V → D → Prop
  | non : DR .non .non
  | bl (b : Bool) : DR (.bl b) (.bl b)
  | int (i : Int) : DR (.int i) (.int i)
  | str (x : Str) : DR (.str x) (.str x)
  | lst {a : Addr} {xs : List V} {ds : List D} : G a = some (.lst xs) → DRs xs ds → DR (.ref a) (.lst ds)
  | lsr {a : Addr} {xs : List V} {ds : List D} : SqL K G a xs → DRs xs ds → DR (.ref a) (.lsr ds)
  | tup {a : Addr} {xs : List V} {ds : List D} : SqT K G a xs → DRs xs ds → DR (.ref a) (.tup ds)
  | dct {a : Addr} {o : Obj} {xs : List (Key × V)} {ds : List (Key × D)} : G a = some (.frz o (.dK xs)) → DRk xs ds → DR (.ref a) (.dct ds)
  | ins {a C dx : Addr} {xs : List (Str × V)} {ds : List (Str × D)} : G a = some (.ins C dx xs) → DRf xs ds → DR (.ref a) (.ins C ds)
  | cel {a : Addr} {k : Nat} : as[k]? = some a → DR (.ref a) (.cel k)
  | raw (v : V) : DR v (.raw v)
  | exc {a C dx : Addr} {x : Str} {v : V} {d : D} : PySem.W.nsIn K mainGlobals x = some (some (.ref C)) → G a = some (exv a C dx) → G dx = some (.xd [("value", v)]) → DR v d → DR (.ref a) (.exc x d)
  | fn {f c : Addr} {q : Str} {σ : List (Option V)} {sl : List (Option D)} : G c = some (LamX.CodeO c q) → DRo σ sl → DR (.ref f) (.fn f c q σ sl)
inductive DRs : List V → List D → Prop
  | nil : DRs [] []
  | cons {v : V} {d : D} {vs : List V} {ds : List D} : DR v d → DRs vs ds → DRs (v :: vs) (d :: ds)
inductive DRk : List (Key × V) → List (Key × D) → Prop
  | nil : DRk [] []
  | cons {k : Key} {v : V} {d : D} {vs : List (Key × V)} {ds : List (Key × D)} : DR v d → DRk vs ds → DRk ((k, v) :: vs) ((k, d) :: ds)
inductive DRo : List (Option V) → List (Option D) → Prop
  | nil : DRo [] []
  | non {v : Option V} {vs : List (Option V)} {ds : List (Option D)} : DRo vs ds → DRo (v :: vs) (none :: ds)
  | cons {v : V} {d : D} {vs : List (Option V)} {ds : List (Option D)} : DR v d → DRo vs ds → DRo (some v :: vs) (some d :: ds)
inductive DRf : List (Str × V) → List (Str × D) → Prop
  | nil : DRf [] []
  | cons {k : Str} {v : V} {d : D} {vs : List (Str × V)} {ds : List (Str × D)} : DR v d → DRf vs ds → DRf ((k, v) :: vs) ((k, d) :: ds)
end
end
section
variable {K : PySem.W.Frag} {G G' H H' : Hp} {as as' : List Addr}
mutual
theorem DR.mono (e : Ex G G') (p : Pf as as') : ∀ {v : V} {d : D}, DR K G as v d → DR K G' as' v d
  | _, _, .non => .non
  | _, _, .bl b => .bl b
  | _, _, .int i => .int i
  | _, _, .str x => .str x
  | _, _, .lst h t => .lst (e _ _ h) (DRs.mono e p t)
  | _, _, .lsr h t => .lsr (e.l h) (DRs.mono e p t)
  | _, _, .tup h t => .tup (e.t h) (DRs.mono e p t)
  | _, _, .dct h t => .dct (e _ _ h) (DRk.mono e p t)
  | _, _, .ins h t => .ins (e _ _ h) (DRf.mono e p t)
  | _, _, .cel h => .cel (p _ _ h)
  | _, _, .raw v => .raw v
  | _, _, .exc h1 h2 h3 t => .exc h1 (e _ _ h2) (e _ _ h3) (DR.mono e p t)
  | _, _, .fn h t => .fn (e _ _ h) (DRo.mono e p t)
theorem DRs.mono (e : Ex G G') (p : Pf as as') : ∀ {v : List V} {d : List D}, DRs K G as v d → DRs K G' as' v d
  | _, _, .nil => .nil
  | _, _, .cons h t => .cons (DR.mono e p h) (DRs.mono e p t)
theorem DRk.mono (e : Ex G G') (p : Pf as as') : ∀ {v : List (Key × V)} {d : List (Key × D)}, DRk K G as v d → DRk K G' as' v d
  | _, _, .nil => .nil
  | _, _, .cons h t => .cons (DR.mono e p h) (DRk.mono e p t)
theorem DRo.mono (e : Ex G G') (p : Pf as as') : ∀ {v : List (Option V)} {d : List (Option D)}, DRo K G as v d → DRo K G' as' v d
  | _, _, .nil => .nil
  | _, _, .non t => .non (DRo.mono e p t)
  | _, _, .cons h t => .cons (DR.mono e p h) (DRo.mono e p t)
theorem DRf.mono (e : Ex G G') (p : Pf as as') : ∀ {v : List (Str × V)} {d : List (Str × D)}, DRf K G as v d → DRf K G' as' v d
  | _, _, .nil => .nil
  | _, _, .cons h t => .cons (DR.mono e p h) (DRf.mono e p t)
end
theorem DRs.length {vs : List V} {ds : List D} (h : DRs K G as vs ds) : vs.length = ds.length := by
  induction vs generalizing ds with
  | nil => cases h; rfl
  | cons v vs ih => cases h with | cons a b => simp [ih b]
theorem DRs.get {vs : List V} {ds : List D} (h : DRs K G as vs ds) : ∀ (i : Nat) (d : D), ds[i]? = some d → ∃ v, vs[i]? = some v ∧ DR K G as v d := by
  induction vs generalizing ds with
  | nil => cases h; intro i d e; simp at e
  | cons v vs ih =>
    cases h with
    | cons a b =>
      intro i d e
      cases i with
      | zero => simp at e; subst e; exact ⟨v, by simp, a⟩
      | succ i => simpa using ih b i d (by simpa using e)
theorem DRs.getV {vs : List V} {ds : List D} (h : DRs K G as vs ds) : ∀ (i : Nat) (v : V), vs[i]? = some v → ∃ d, ds[i]? = some d ∧ DR K G as v d := by
  induction vs generalizing ds with
  | nil => intro i d e; simp at e
  | cons v vs ih =>
    cases h with
    | cons a b =>
      intro i d e
      cases i with
      | zero => simp at e; subst e; exact ⟨_, by simp, a⟩
      | succ i => simpa using ih b i d (by simpa using e)
theorem DRs.app {vs ws : List V} {ds es : List D} (h : DRs K G as vs ds) (t : DRs K G as ws es) : DRs K G as (vs ++ ws) (ds ++ es) := by
  induction vs generalizing ds with
  | nil => cases h; exact t
  | cons v vs ih => cases h with | cons a b => exact .cons a (ih b)
theorem DRs.set {vs : List V} {ds : List D} {v : V} {d : D} (h : DRs K G as vs ds) (r : DR K G as v d) (i : Nat) : DRs K G as (vs.set i v) (ds.set i d) := by
  induction vs generalizing ds i with
  | nil => cases h; exact .nil
  | cons w vs ih =>
    cases h with
    | cons a b =>
      cases i with
      | zero => exact .cons r b
      | succ i => exact .cons a (ih b i)
end

/-! ### the store -/
def CellAt (K : PySem.W.Frag) (G : Hp) (as : List Addr) (H : Hp) (a : Addr) : Cell → Prop
  | .lst xs => ∃ vs, H a = some (.lst vs) ∧ DRs K G as vs xs
  | .dct xs => ∃ vs, H a = some (.dK vs) ∧ DRk K G as vs xs
  | .ins C xs => ∃ dx vs, H a = some (.ins C dx vs) ∧ DRf K G as vs xs
theorem CellAt.mono {K : PySem.W.Frag} {G G' H H' : Hp} {as as' : List Addr} {a : Addr} {c : Cell} (e : Ex G G') (p : Pf as as') (h : H' a = H a) (x : CellAt K G as H a c) : CellAt K G' as' H' a c := by
  cases c with
  | lst xs => obtain ⟨vs, q, r⟩ := x; exact ⟨vs, by rw [h]; exact q, r.mono e p⟩
  | dct xs => obtain ⟨vs, q, r⟩ := x; exact ⟨vs, by rw [h]; exact q, r.mono e p⟩
  | ins C xs => obtain ⟨dx, vs, q, r⟩ := x; exact ⟨dx, vs, by rw [h]; exact q, r.mono e p⟩
theorem CellAt.some {K : PySem.W.Frag} {G H : Hp} {as : List Addr} {a : Addr} {c : Cell} (x : CellAt K G as H a c) : ∃ o, H a = Option.some o := by
  cases c with
  | lst xs => obtain ⟨vs, q, r⟩ := x; exact ⟨_, q⟩
  | dct xs => obtain ⟨vs, q, r⟩ := x; exact ⟨_, q⟩
  | ins C xs => obtain ⟨dx, vs, q, r⟩ := x; exact ⟨_, q⟩
theorem CellAt.plain {K : PySem.W.Frag} {G H : Hp} {as : List Addr} {a : Addr} {c : Cell} (x : CellAt K G as H a c) : ∀ ps, H a ≠ Option.some (.tbl ps) := fun ps z => by
  cases c with
  | lst xs => obtain ⟨vs, q, r⟩ := x; rw [z] at q; cases q
  | dct xs => obtain ⟨vs, q, r⟩ := x; rw [z] at q; cases q
  | ins C xs => obtain ⟨dx, vs, q, r⟩ := x; rw [z] at q; cases q
/-- the tables stand; the code objects that they tell never change -/
def TabsG (T : List (Addr × Str)) (G H : Hp) : Prop := ∀ p ∈ T, ∃ ps : Array Value, H p.1 = Option.some (.tbl ps) ∧ TriplesOk ps.toList ∧ ∀ (pos : Pos) (cv : Value), codeAmong pos ps.toList = Option.some cv → ∃ c, cv = .ref c ∧ G c = Option.some (LamX.CodeO c p.2)
theorem TabsG.tabs {T : List (Addr × Str)} {G H : Hp} (t : TabsG T G H) (e : Ex G H) : LamX.Tabs T H := fun p hp => by
  obtain ⟨ps, h1, h2, h3⟩ := t p hp
  refine ⟨ps, h1, h2, fun pos cv hc => ?_⟩
  obtain ⟨c, e1, e2⟩ := h3 pos cv hc
  exact ⟨c, e1, e _ _ e2⟩
theorem TabsG.mono {T : List (Addr × Str)} {G G' H H' : Hp} (t : TabsG T G H) (e : Ex G G') (h : ∀ a ps, H a = Option.some (.tbl ps) → H' a = Option.some (.tbl ps)) : TabsG T G' H' := fun p hp => by
  obtain ⟨ps, h1, h2, h3⟩ := t p hp
  refine ⟨ps, h _ _ h1, h2, fun pos cv hc => ?_⟩
  obtain ⟨c, e1, e2⟩ := h3 pos cv hc
  exact ⟨c, e1, e _ _ e2⟩
theorem tbl_upd {H : Hp} {p : Addr} {o : HO} (h : ∀ ps, H p ≠ Option.some (.tbl ps)) : ∀ a ps, H a = Option.some (.tbl ps) → upd H p o a = Option.some (.tbl ps) := fun a ps e => by
  rw [upd_ne fun z => h ps (by rw [← z]; exact e)]; exact e
theorem tbl_new {H : Hp} {p : Addr} (h : H p = none) : ∀ ps, H p ≠ Option.some (.tbl ps) := fun ps z => by rw [h] at z; cases z
theorem tbl_of {H : Hp} {p : Addr} {o : HO} (h : H p = Option.some o) (hn : ∀ ps, o ≠ .tbl ps := by intro _ z; cases z) : ∀ ps, H p ≠ Option.some (.tbl ps) := fun ps z => by rw [h] at z; exact hn ps (Option.some.inj z)
structure SRel (K : PySem.W.Frag) (G H : Hp) (as : List Addr) (st : ST) : Prop where
  ex : Ex G H
  len : as.length = st.length
  cell : ∀ (k : Nat) (c : Cell), st[k]? = some (some c) → ∃ a, as[k]? = some a ∧ G a = none ∧ CellAt K G as H a c
  inj : ∀ (j k : Nat) (a : Addr) (c c' : Cell), st[j]? = some (some c) → st[k]? = some (some c') → as[j]? = some a → as[k]? = some a → j = k
  tab : TabsG (tabsOf K) G H
  gt : ∀ b ps, G b ≠ some (.tbl ps)
section
variable {K : PySem.W.Frag} {G G' H H' : Hp} {as as' : List Addr} {st : ST}
/-- a new object that never changes -/
theorem SRel.fix {p : Addr} {o : HO} (S : SRel K G H as st) (hp : H p = none) (hn : ∀ ps, o ≠ .tbl ps) : SRel K (upd G p o) (upd H p o) as st where
  ex := fun a u h => by
    by_cases e : a = p
    · subst e; rw [upd_same] at h ⊢; exact h
    · rw [upd_ne e] at h ⊢; exact S.ex a u h
  len := S.len
  cell := fun k c h => by
    obtain ⟨a, h1, h2, h3⟩ := S.cell k c h
    obtain ⟨o', h4⟩ := h3.some
    have ne : a ≠ p := ne_of_none h4 hp
    exact ⟨a, h1, by rw [upd_ne ne]; exact h2, h3.mono (Ex.new (S.ex.free hp)) (Pf.refl _) (upd_ne ne)⟩
  inj := S.inj
  tab := S.tab.mono (Ex.new (S.ex.free hp)) (tbl_upd (tbl_new hp))
  gt := fun b ps z => by
    by_cases e : b = p
    · subst e; rw [upd_same] at z; exact hn ps (Option.some.inj z)
    · rw [upd_ne e] at z; exact S.gt b ps z
/-- a new cell -/
theorem SRel.cellNew {p : Addr} {o : HO} {c : Cell} (S : SRel K G H as st) (hp : H p = none) (hc : CellAt K G (as ++ [p]) (upd H p o) p c) : SRel K G (upd H p o) (as ++ [p]) (st ++ [some c]) where
  ex := S.ex.trans (Ex.new hp)
  len := by simp [S.len]
  cell := fun k d h => by
    by_cases hk : k < st.length
    · rw [List.getElem?_append_left hk] at h
      obtain ⟨a, h1, h2, h3⟩ := S.cell k d h
      obtain ⟨o', h4⟩ := h3.some
      exact ⟨a, Pf.app _ _ _ _ h1, h2, h3.mono (Ex.refl _) (Pf.app _ _) (upd_ne (ne_of_none h4 hp))⟩
    · rw [List.getElem?_append_right (by omega)] at h
      have hk2 : k = st.length := by
        by_cases z : k - st.length = 0
        · omega
        · rw [List.getElem?_eq_none (by simp; omega)] at h; cases h
      subst hk2
      simp at h
      subst h
      refine ⟨p, ?_, S.ex.free hp, hc⟩
      rw [← S.len]; simp
  inj := fun j k a c1 c2 h1 h2 h3 h4 => by
    have hl := S.len
    have key : ∀ (i : Nat) (d : Cell), (st ++ [some c])[i]? = some (some d) → (as ++ [p])[i]? = some a → (i < st.length ∧ as[i]? = some a ∧ st[i]? = some (some d) ∧ a ≠ p) ∨ (i = st.length ∧ a = p) := fun i d q1 q2 => by
      by_cases hk : i < st.length
      · rw [List.getElem?_append_left hk] at q1
        rw [List.getElem?_append_left (by omega)] at q2
        obtain ⟨a', z1, _, z3⟩ := S.cell i d q1
        rw [q2] at z1; cases z1
        obtain ⟨o', h4⟩ := z3.some
        exact .inl ⟨hk, q2, q1, ne_of_none h4 hp⟩
      · rw [List.getElem?_append_right (by omega)] at q2
        have hk2 : i - as.length = 0 := by
          by_cases z : i - as.length = 0
          · exact z
          · rw [List.getElem?_eq_none (by simp; omega)] at q2; cases q2
        rw [hk2] at q2
        simp at q2
        exact .inr ⟨by omega, q2.symm⟩
    rcases key j c1 h1 h3 with ⟨u1, u2, u3, u4⟩ | ⟨u1, u2⟩ <;> rcases key k c2 h2 h4 with ⟨w1, w2, w3, w4⟩ | ⟨w1, w2⟩
    · exact S.inj j k a c1 c2 u3 w3 u2 w2
    · exact absurd w2 u4
    · exact absurd u2 w4
    · omega
  tab := S.tab.mono (Ex.refl _) (tbl_upd (tbl_new hp))
  gt := S.gt
/-- a cell gets another content -/
theorem SRel.cellSet {k : Nat} {c c' : Cell} {a : Addr} {o : HO} (S : SRel K G H as st) (hk : st[k]? = some (some c)) (ha : as[k]? = some a) (hc : CellAt K G as (upd H a o) a c') : SRel K G (upd H a o) as (st.set k (some c')) where
  ex := fun b u h => by
    obtain ⟨a', z1, z2, z3⟩ := S.cell k c hk
    rw [ha] at z1; cases z1
    rw [upd_ne (ne_of_none h z2)]
    exact S.ex b u h
  len := by rw [List.length_set]; exact S.len
  cell := fun j d h => by
    by_cases e : k = j
    · subst e
      have hl : k < st.length := (List.getElem?_eq_some_iff.mp hk).1
      rw [List.getElem?_set_self hl] at h
      cases h
      obtain ⟨a', z1, z2, z3⟩ := S.cell k c hk
      rw [ha] at z1; cases z1
      exact ⟨a, ha, z2, hc⟩
    · rw [List.getElem?_set_ne e] at h
      obtain ⟨b, z1, z2, z3⟩ := S.cell j d h
      refine ⟨b, z1, z2, z3.mono (Ex.refl _) (Pf.refl _) (upd_ne fun q => ?_)⟩
      subst q
      exact e (S.inj k j _ c d hk h ha z1)
  inj := fun i j b c1 c2 h1 h2 h3 h4 => by
    have key : ∀ (i : Nat) (d : Cell), (st.set k (some c'))[i]? = some (some d) → ∃ d', st[i]? = some (some d') := fun i d q => by
      by_cases e : k = i
      · subst e; exact ⟨c, hk⟩
      · rw [List.getElem?_set_ne e] at q; exact ⟨d, q⟩
    obtain ⟨d1, z1⟩ := key i c1 h1
    obtain ⟨d2, z2⟩ := key j c2 h2
    exact S.inj i j b d1 d2 z1 z2 h3 h4
  tab := by
    obtain ⟨a', z1, _, z3⟩ := S.cell k c hk
    rw [ha] at z1; cases z1
    exact S.tab.mono (Ex.refl _) (tbl_upd z3.plain)
  gt := S.gt
theorem set_none_get {st : ST} {k i : Nat} {d : Cell} (q : (st.set k none)[i]? = some (some d)) : st[i]? = some (some d) ∧ k ≠ i := by
  by_cases e : k = i
  · subst e
    by_cases hl : k < st.length
    · rw [List.getElem?_set_self hl] at q; cases q
    · rw [List.getElem?_eq_none (by simpa using hl)] at q; cases q
  · rw [List.getElem?_set_ne e] at q; exact ⟨q, e⟩
/-- a list cell is a tree from now on -/
theorem SRel.frzL {k : Nat} {xs : List D} (S : SRel K G H as st) (hk : st[k]? = some (some (.lst xs))) : ∃ a vs, as[k]? = some a ∧ Ex G (upd G a (.lst vs)) ∧ SRel K (upd G a (.lst vs)) H as (st.set k none) ∧ DR K (upd G a (.lst vs)) as (.ref a) (.lst xs) := by
  obtain ⟨a, h1, h2, vs, h3, h4⟩ := S.cell k _ hk
  have e1 : Ex G (upd G a (.lst vs)) := Ex.new h2
  refine ⟨a, vs, h1, e1, ⟨fun b u h => ?_, by rw [List.length_set]; exact S.len, fun j d h => ?_, fun i j b c1 c2 q1 q2 q3 q4 => ?_, S.tab.mono e1 (fun _ _ z => z), fun b ps z => ?_⟩, .lst upd_same (h4.mono e1 (Pf.refl _))⟩
  · by_cases e : b = a
    · subst e; rw [upd_same] at h; cases h; exact h3
    · rw [upd_ne e] at h; exact S.ex b u h
  · obtain ⟨h', ne⟩ := set_none_get h
    obtain ⟨b, z1, z2, z3⟩ := S.cell j d h'
    refine ⟨b, z1, ?_, z3.mono e1 (Pf.refl _) rfl⟩
    rw [upd_ne fun q => ne (S.inj k j a _ d hk h' h1 (by rw [← q]; exact z1))]
    exact z2
  · exact S.inj i j b c1 c2 (set_none_get q1).1 (set_none_get q2).1 q3 q4
  · by_cases e : b = a
    · subst e; rw [upd_same] at z; cases z
    · rw [upd_ne e] at z; exact S.gt b ps z
/-- a cell is forgotten -/
theorem SRel.forget {k : Nat} (S : SRel K G H as st) : SRel K G H as (st.set k none) :=
  ⟨S.ex, by rw [List.length_set]; exact S.len, fun j d h => S.cell j d (set_none_get h).1, fun i j b c1 c2 q1 q2 q3 q4 => S.inj i j b c1 c2 (set_none_get q1).1 (set_none_get q2).1 q3 q4, S.tab, S.gt⟩
end

/-! ### the frame's names -/
structure SlR (K : PySem.W.Frag) (G : Hp) (as : List Addr) (σ : L2.St) (sl : SL) : Prop where
  len : σ.length = sl.length
  get : ∀ (i : Nat) (d : D), sl[i]? = some (some d) → ∃ v, σ[i]? = some (some v) ∧ DR K G as v d
section
variable {K : PySem.W.Frag} {G G' : Hp} {as as' : List Addr} {σ : L2.St} {sl : SL}
theorem SlR.mono (e : Ex G G') (p : Pf as as') (h : SlR K G as σ sl) : SlR K G' as' σ sl := ⟨h.len, fun i d q => by
  obtain ⟨v, h1, h2⟩ := h.get i d q
  exact ⟨v, h1, h2.mono e p⟩⟩
theorem SlR.set {v : V} {d : D} (h : SlR K G as σ sl) (r : DR K G as v d) (i : Nat) : SlR K G as (σ.set i (some v)) (sl.set i (some d)) := ⟨by simp [h.len], fun j e q => by
  by_cases z : i = j
  · subst z
    by_cases hl : i < sl.length
    · rw [List.getElem?_set_self hl] at q
      cases q
      exact ⟨v, List.getElem?_set_self (by rw [h.len]; exact hl), r⟩
    · rw [List.getElem?_eq_none (by simpa using hl)] at q; cases q
  · rw [List.getElem?_set_ne z] at q
    obtain ⟨w, h1, h2⟩ := h.get j e q
    exact ⟨w, by rw [List.getElem?_set_ne z]; exact h1, h2⟩⟩
theorem DRo.slr : ∀ {σ : List (Option V)} {sl : List (Option D)}, DRo K G as σ sl → SlR K G as σ sl
  | _, _, .nil => ⟨rfl, fun i d q => by simp at q⟩
  | _, _, .non t => by
    have h := DRo.slr t
    refine ⟨by simp [h.len], fun i d q => ?_⟩
    cases i with
    | zero => simp at q
    | succ i => simpa using h.get i d (by simpa using q)
  | _, _, .cons a t => by
    have h := DRo.slr t
    refine ⟨by simp [h.len], fun i d q => ?_⟩
    cases i with
    | zero => simp at q; subst q; exact ⟨_, by simp, a⟩
    | succ i => simpa using h.get i d (by simpa using q)
theorem SlR.dro : ∀ {σ : L2.St} {sl : SL}, SlR K G as σ sl → DRo K G as σ sl
  | [], [], _ => .nil
  | [], _ :: _, h => by have := h.len; simp at this
  | _ :: _, [], h => by have := h.len; simp at this
  | v :: σ, d :: sl, h => by
    have t : SlR K G as σ sl := ⟨by simpa using h.len, fun i e q => by simpa using h.get (i + 1) e (by simpa using q)⟩
    cases d with
    | none => exact .non t.dro
    | some d =>
      obtain ⟨w, h1, h2⟩ := h.get 0 d (by simp)
      simp at h1
      subst h1
      exact .cons h2 t.dro
def wipeD (sl : SL) : List Nat → SL
  | [] => sl
  | v :: vs => (wipeD sl vs).set v none
theorem SlR.unset (h : SlR K G as σ sl) (i : Nat) : SlR K G as (σ.set i none) (sl.set i none) := ⟨by simp [h.len], fun j e q => by
  by_cases z : i = j
  · subst z
    by_cases hl : i < sl.length
    · rw [List.getElem?_set_self hl] at q; cases q
    · rw [List.getElem?_eq_none (by simpa using hl)] at q; cases q
  · rw [List.getElem?_set_ne z] at q
    obtain ⟨w, h1, h2⟩ := h.get j e q
    exact ⟨w, by rw [List.getElem?_set_ne z]; exact h1, h2⟩⟩
theorem SlR.wipe (h : SlR K G as σ sl) : ∀ vs : List Nat, SlR K G as (L2.wipe σ vs) (wipeD sl vs)
  | [] => h
  | v :: vs => (SlR.wipe h vs).unset v
theorem SlR.start {vs : List V} {ds : List D} {N : List Str} (h : DRs K G as vs ds) : SlR K G as (L2.start N vs) (ds.map some ++ List.replicate (N.length - ds.length) none) := by
  have hl := h.length
  refine ⟨by unfold L2.start; simp [hl], fun i d q => ?_⟩
  by_cases z : i < ds.length
  · rw [List.getElem?_append_left (by simpa using z), List.getElem?_map] at q
    obtain ⟨d', e1, e2⟩ := Option.map_eq_some_iff.mp q
    cases e2
    obtain ⟨v, h1, h2⟩ := h.get i d e1
    refine ⟨v, ?_, h2⟩
    unfold L2.start
    rw [List.getElem?_append_left (by simpa [hl] using z), List.getElem?_map, h1]; rfl
  · rw [List.getElem?_append_right (by simpa using z), List.getElem?_replicate] at q
    split at q <;> cases q
end
/-! ### configurations and steps -/
structure Cf where
  G : Hp
  H : Hp
  as : List Addr
  st : ST
def Live (as : List Addr) (st : ST) (a : Addr) : Prop := ∃ (k : Nat) (c : Cell), st[k]? = some (some c) ∧ as[k]? = some a
/-- neither a table nor a code object -/
def Kqp (o : HO) (a : Addr) : Prop := (∀ ps, o ≠ .tbl ps) ∧ ∀ q : Str, o ≠ LamX.CodeO a q
theorem kqp_lst {xs : List V} {a : Addr} : Kqp (.lst xs) a := ⟨(fun _ z => by cases z), (fun _ z => by unfold LamX.CodeO at z; cases z)⟩
theorem kqp_dct {xs : List (Key × V)} {a : Addr} : Kqp (.dK xs) a := ⟨(fun _ z => by cases z), (fun _ z => by unfold LamX.CodeO at z; cases z)⟩
structure Step (c c' : Cf) : Prop where
  ex : Ex c.G c'.G
  pf : Pf c.as c'.as
  kp : ∀ a o, c.H a = some o → Kqp o a → ¬ Live c.as c.st a → c.G a = none → c'.H a = some o ∧ ¬ Live c'.as c'.st a ∧ c'.G a = none
theorem Step.kq {c c' : Cf} (s : Step c c') {a : Addr} {o : HO} (h1 : c.H a = some o) (h2 : ¬ Live c.as c.st a) (h3 : c.G a = none) (hn : Kqp o a := by first | exact kqp_lst | exact kqp_dct) : c'.H a = some o ∧ ¬ Live c'.as c'.st a ∧ c'.G a = none := s.kp a o h1 hn h2 h3
/-- what stands at p is no table -/
abbrev PlainAt (H : Hp) (p : Addr) : Prop := ∀ ps, H p ≠ some (.tbl ps)
theorem Step.refl (c : Cf) : Step c c := ⟨Ex.refl _, Pf.refl _, fun a o h1 _ h2 h3 => ⟨h1, h2, h3⟩⟩
theorem Step.trans {c d e : Cf} (a : Step c d) (b : Step d e) : Step c e := ⟨a.ex.trans b.ex, a.pf.trans b.pf, fun x o h1 hn h2 h3 => by
  obtain ⟨q1, q2, q3⟩ := a.kp x o h1 hn h2 h3
  exact b.kp x o q1 hn q2 q3⟩
abbrev Cf.ok (K : PySem.W.Frag) (c : Cf) : Prop := SRel K c.G c.H c.as c.st
abbrev Cf.DR (K : PySem.W.Frag) (c : Cf) (v : V) (d : D) : Prop := Rq.DR K c.G c.as v d
abbrev Cf.DRs (K : PySem.W.Frag) (c : Cf) (v : List V) (d : List D) : Prop := Rq.DRs K c.G c.as v d
abbrev Cf.SlR (K : PySem.W.Frag) (c : Cf) (σ : L2.St) (sl : SL) : Prop := Rq.SlR K c.G c.as σ sl
section
variable {K : PySem.W.Frag} {c c' : Cf}
theorem Step.dr {v : V} {d : D} (s : Step c c') (h : c.DR K v d) : c'.DR K v d := DR.mono s.ex s.pf h
theorem Step.drs {v : List V} {d : List D} (s : Step c c') (h : c.DRs K v d) : c'.DRs K v d := DRs.mono s.ex s.pf h
theorem Step.sl {σ : L2.St} {sl : SL} (s : Step c c') (h : c.SlR K σ sl) : c'.SlR K σ sl := SlR.mono s.ex s.pf h
/-- a new object that never changes -/
theorem Cf.fix {p : Addr} {o : HO} (S : c.ok K) (hp : c.H p = none) (hn : ∀ ps, o ≠ .tbl ps := by first | (intro _ z; cases z) | (intro _ z; unfold exv at z; cases z)) : Cf.ok K ⟨upd c.G p o, upd c.H p o, c.as, c.st⟩ ∧ Step c ⟨upd c.G p o, upd c.H p o, c.as, c.st⟩ :=
  ⟨SRel.fix S hp hn, Ex.new (S.ex.free hp), Pf.refl _, fun a u h1 _ h2 h3 => by
    have ne : a ≠ p := ne_of_none h1 hp
    exact ⟨by show upd c.H p o a = _; rw [upd_ne ne]; exact h1, h2, by show upd c.G p o a = _; rw [upd_ne ne]; exact h3⟩⟩
theorem live_app {as : List Addr} {st : ST} {p a : Addr} {d : Cell} (hl : as.length = st.length) (h : Live (as ++ [p]) (st ++ [some d]) a) : Live as st a ∨ a = p := by
  obtain ⟨k, c, h1, h2⟩ := h
  by_cases hk : k < st.length
  · rw [List.getElem?_append_left hk] at h1
    rw [List.getElem?_append_left (by omega)] at h2
    exact .inl ⟨k, c, h1, h2⟩
  · rw [List.getElem?_append_right (by omega)] at h2
    have hk2 : k - as.length = 0 := by
      by_cases z : k - as.length = 0
      · exact z
      · rw [List.getElem?_eq_none (by simp; omega)] at h2; cases h2
    rw [hk2] at h2
    simp at h2
    exact .inr h2.symm
theorem Cf.cellNew {p : Addr} {o : HO} {d : Cell} (S : c.ok K) (hp : c.H p = none) (hc : CellAt K c.G (c.as ++ [p]) (upd c.H p o) p d) :
    Cf.ok K ⟨c.G, upd c.H p o, c.as ++ [p], c.st ++ [some d]⟩ ∧ Step c ⟨c.G, upd c.H p o, c.as ++ [p], c.st ++ [some d]⟩ :=
  ⟨SRel.cellNew S hp hc, Ex.refl _, Pf.app _ _, fun a u h1 _ h2 h3 => by
    have ne : a ≠ p := ne_of_none h1 hp
    refine ⟨by show upd c.H p o a = _; rw [upd_ne ne]; exact h1, fun z => ?_, h3⟩
    rcases live_app S.len z with z | z
    · exact h2 z
    · exact ne z⟩
theorem Cf.cellSet {k : Nat} {d d' : Cell} {a : Addr} {o : HO} (S : c.ok K) (hk : c.st[k]? = some (some d)) (ha : c.as[k]? = some a) (hc : CellAt K c.G c.as (upd c.H a o) a d') :
    Cf.ok K ⟨c.G, upd c.H a o, c.as, c.st.set k (some d')⟩ ∧ Step c ⟨c.G, upd c.H a o, c.as, c.st.set k (some d')⟩ :=
  ⟨SRel.cellSet S hk ha hc, Ex.refl _, Pf.refl _, fun b u h1 _ h2 h3 => by
    have ne : b ≠ a := fun e => h2 ⟨k, d, hk, by rw [e]; exact ha⟩
    refine ⟨by show upd c.H a o b = _; rw [upd_ne ne]; exact h1, fun ⟨j, e, z1, z2⟩ => ?_, h3⟩
    by_cases q : k = j
    · subst q
      have z2 : c.as[k]? = some b := z2
      rw [ha] at z2; cases z2; exact ne rfl
    · have z1 : (c.st.set k (some d'))[j]? = some (some e) := z1
      rw [List.getElem?_set_ne q] at z1
      exact h2 ⟨j, e, z1, z2⟩⟩
theorem Cf.frzL {k : Nat} {xs : List D} (S : c.ok K) (hk : c.st[k]? = some (some (.lst xs))) : ∃ a vs, c.as[k]? = some a ∧ Cf.ok K ⟨upd c.G a (.lst vs), c.H, c.as, c.st.set k none⟩ ∧ Step c ⟨upd c.G a (.lst vs), c.H, c.as, c.st.set k none⟩ ∧
    Rq.DR K (upd c.G a (.lst vs)) c.as (.ref a) (.lst xs) := by
  obtain ⟨a, vs, h1, h2, h3, h4⟩ := SRel.frzL S hk
  refine ⟨a, vs, h1, h3, ⟨h2, Pf.refl _, fun b u q1 _ q2 q3 => ?_⟩, h4⟩
  have ne : b ≠ a := fun e => q2 ⟨k, _, hk, by rw [e]; exact h1⟩
  exact ⟨q1, fun ⟨j, e, z1, z2⟩ => q2 ⟨j, e, (set_none_get z1).1, z2⟩, by show upd c.G a _ b = _; rw [upd_ne ne]; exact q3⟩
end
end Rq
set_option Elab.async false
set_option linter.all false
set_option maxRecDepth 100000
set_option maxHeartbeats 4000000
/-! Rq, part 1: results, expressions, statements. -/
namespace Rq
open PySem PySem.Spec PyProof.Rows L2

inductive Res (α : Type) where
  | ok (a : α) (st : ST)
  | err (C : Str) (d : D) (sl : SL) (st : ST)
  | stuck
def Res.bind {α β : Type} (r : Res α) (k : α → ST → Res β) : Res β :=
  match r with
  | .ok a st => k a st
  | .err C d sl st => .err C d sl st
  | .stuck => .stuck
/-- an expression's meaning -/
abbrev EF := SL → ST → Res D
abbrev AF := SL → ST → Res (List D)
inductive Fl where
  | nx (sl : SL) | rt (d : D) | bk (sl : SL) | ct (sl : SL)
abbrev SF := SL → ST → Res Fl

section
variable {K : PySem.W.Frag} {W : WX} {c c' : Cf} {st st' : ST} {sl : SL} {σ : L2.St} {α β : Type}
/-- what is asked of an error -/
def ErrP (K : PySem.W.Frag) (W : WX) (c : Cf) (x : Str) (d : D) (sl : SL) (st : ST) : Prop :=
  ∀ C c' dx v σ', PySem.W.nsIn K mainGlobals x = some (some (.ref C)) → Step c c' → c'.ok K → c'.st = st → c'.SlR K σ' sl → c'.G dx = some (.xd [("value", v)]) → c'.DR K v d → W (.ref C) (some dx) σ' c'.H
/-- what is asked of a result: Rl, how a thing of the heap is the tree's -/
def Post (K : PySem.W.Frag) (W : WX) (c : Cf) (Rl : Cf → β → α → Prop) (Q : β → Hp → Prop) : Res α → Prop
  | .ok d st => ∀ v c', Step c c' → c'.ok K → c'.st = st → Rl c' v d → Q v c'.H
  | .err C d sl st => ErrP K W c C d sl st
  | .stuck => False
theorem ErrP.mono {C : Str} {d : D} (s : Step c c') (h : ErrP K W c C d sl st) : ErrP K W c' C d sl st :=
  fun C0 c2 dx v σ' hx s2 => h C0 c2 dx v σ' hx (s.trans s2)
theorem Post.mono {Rl : Cf → β → α → Prop} {Q : β → Hp → Prop} {r : Res α} (s : Step c c') (h : Post K W c Rl Q r) : Post K W c' Rl Q r := by
  cases r with
  | ok d st => exact fun v c2 s2 => h v c2 (s.trans s2)
  | err C d sl st => exact ErrP.mono s h
  | stuck => exact h
theorem Post.bind {α' β' : Type} {Rl : Cf → β → α → Prop} {Rl' : Cf → β' → α' → Prop} {Q : β → Hp → Prop} {Q' : β' → Hp → Prop} {r : Res α'} {k : α' → ST → Res α} (h : Post K W c Rl Q (r.bind k))
    (q : ∀ v d c', Step c c' → c'.ok K → Rl' c' v d → Post K W c' Rl Q (k d c'.st) → Q' v c'.H) : Post K W c Rl' Q' r := by
  cases r with
  | ok d st =>
    exact fun v c2 s2 o2 e2 r2 => by
      subst e2
      exact q v d c2 s2 o2 r2 (Post.mono s2 h)
  | err C d sl st => exact h
  | stuck => exact h
abbrev RlD (K : PySem.W.Frag) : Cf → V → D → Prop := fun c v d => c.DR K v d
abbrev RlA (K : PySem.W.Frag) : Cf → List V → List D → Prop := fun c v d => c.DRs K v d
def tE (K : PySem.W.Frag) (W : WX) (f : EF) : TE := fun σ H Q => ∃ c sl, c.H = H ∧ c.ok K ∧ c.SlR K σ sl ∧ Post K W c (RlD K) Q (f sl c.st)
def tA (K : PySem.W.Frag) (W : WX) (f : AF) : TA := fun σ H Q => ∃ c sl, c.H = H ∧ c.ok K ∧ c.SlR K σ sl ∧ Post K W c (RlA K) Q (f sl c.st)
def FlP (K : PySem.W.Frag) (E : Ends) (c : Cf) : Fl → Prop
  | .nx sl => ∀ σ', c.SlR K σ' sl → E.nx σ' c.H
  | .rt d => ∀ v, c.DR K v d → E.rt v c.H
  | .bk sl => ∀ σ', c.SlR K σ' sl → E.bk σ' c.H
  | .ct sl => ∀ σ', c.SlR K σ' sl → E.ct σ' c.H
def PostS (K : PySem.W.Frag) (W : WX) (c : Cf) (E : Ends) : Res Fl → Prop
  | .ok fl st => ∀ c', Step c c' → c'.ok K → c'.st = st → FlP K E c' fl
  | .err C d sl st => ErrP K W c C d sl st
  | .stuck => False
theorem PostS.mono {E : Ends} {r : Res Fl} (s : Step c c') (h : PostS K W c E r) : PostS K W c' E r := by
  cases r with
  | ok d st => exact fun c2 s2 => h c2 (s.trans s2)
  | err C d sl st => exact ErrP.mono s h
  | stuck => exact h
theorem PostS.bind {α' β' : Type} {E : Ends} {Rl' : Cf → β' → α' → Prop} {Q' : β' → Hp → Prop} {r : Res α'} {k : α' → ST → Res Fl} (h : PostS K W c E (r.bind k))
    (q : ∀ v d c', Step c c' → c'.ok K → Rl' c' v d → PostS K W c' E (k d c'.st) → Q' v c'.H) : Post K W c Rl' Q' r := by
  cases r with
  | ok d st =>
    exact fun v c2 s2 o2 e2 r2 => by
      subst e2
      exact q v d c2 s2 o2 r2 (PostS.mono s2 h)
  | err C d sl st => exact h
  | stuck => exact h
def tS (K : PySem.W.Frag) (W : WX) (F : SF) : TS := fun E σ H => ∃ c sl, c.H = H ∧ c.ok K ∧ c.SlR K σ sl ∧ PostS K W c E (F sl c.st)
end

/-! ### judgements -/
def PX (X : Cx) (W : WX) (e : Expr) (f : EF) : Prop := PE X e (tE X.K W f)
def PXs (X : Cx) (W : WX) (es : List Expr) (f : AF) : Prop := PA X es (tA X.K W f)
def PY (X : Cx) (W : WX) (s : Stmt) (F : SF) : Prop := PS X s (tS X.K W F)
def PYs (X : Cx) (W : WX) (s : List Stmt) (F : SF) : Prop := PSs X s (tS X.K W F)
section
variable {X : Cx} {W : WX} {e a b c : Expr} {es : List Expr} {f g h : EF} {pos : Pos}
theorem pe_imp {t t' : TE} (p : PE X e t) (i : ∀ σ H Q, t' σ H Q → t σ H Q) : PE X e t' := ⟨fun pins s σ H Q I w => p.run pins s σ H Q I (i σ H Q w)⟩
theorem pt_imp {t t' : TT} (p : PT X e t) (i : ∀ σ H Q, t' σ H Q → t σ H Q) : PT X e t' := ⟨fun pins s σ H Q I w => p.run pins s σ H Q I (i σ H Q w)⟩
theorem pa_imp {t t' : TA} (p : PA X es t) (i : ∀ σ H Q, t' σ H Q → t σ H Q) : PA X es t' := ⟨fun pos pins s σ H Q I w => p.run pos pins s σ H Q I (i σ H Q w)⟩
theorem ps_imp {s : Stmt} {t t' : TS} (p : PS X s t) (i : ∀ D σ H, t' D σ H → t D σ H) : PS X s t' := ⟨fun pins s σ H D I w => p.run pins s σ H D I (i D σ H w)⟩
theorem pss_imp {s : List Stmt} {t t' : TS} (p : PSs X s t) (i : ∀ D σ H, t' D σ H → t D σ H) : PSs X s t' := ⟨fun pins s σ H D I w => p.run pins s σ H D I (i D σ H w)⟩

/-! names, constants -/
def fVar (i : Nat) : EF := fun sl st => match sl[i]? with
  | some (some d) => .ok d st
  | _ => .stuck
def fC (d : D) : EF := fun _ st => .ok d st
theorem tE_var {K : PySem.W.Frag} {i : Nat} {σ : L2.St} {H : Hp} {Q : VK} (w : tE K W (fVar i) σ H Q) : tVar i σ H Q := by
  obtain ⟨c, sl, rfl, S, L, P⟩ := w
  unfold fVar at P
  split at P
  · next d h =>
    obtain ⟨v, h1, h2⟩ := L.get i d h
    exact ⟨v, h1, P v c (Step.refl _) S rfl h2⟩
  · exact P.elim
theorem tE_c {K : PySem.W.Frag} {v : V} {d : D} {σ : L2.St} {H : Hp} {Q : VK} (r : ∀ c : Cf, c.DR K v d) (w : tE K W (fC d) σ H Q) : tC v σ H Q := by
  obtain ⟨c, sl, rfl, S, L, P⟩ := w
  exact P v c (Step.refl _) S rfl (r _)
theorem xv (i : Nat) {x : Str} {pos : Pos} (hN : X.N[i]? = some x := by rfl) (hv : Vis X.env.scope x := by first | exact Or.inl rfl | exact Or.inr (Or.inl rfl) | exact Or.inr (Or.inr rfl)) (hd : (x == ("__debug__" : Str)) = false := by decide)
    (hcd : (x == ("__classdict__" : Str)) = false := by decide) : PX X W (.Name x pos) (fVar i) := pe_imp (pe_var hN hv hd hcd) fun _ _ _ w => tE_var w
theorem x_int {i j} : PX X W (.Constant (.int i) j pos) (fC (.int i)) := pe_imp pe_int fun _ _ _ w => tE_c (fun _ => .int _) w
theorem x_bl {b j} : PX X W (.Constant (.bool b) j pos) (fC (.bl b)) := pe_imp pe_bl fun _ _ _ w => tE_c (fun _ => .bl _) w
theorem x_non {j} : PX X W (.Constant .none j pos) (fC .non) := pe_imp pe_non fun _ _ _ w => tE_c (fun _ => .non) w
theorem x_str {x j} : PX X W (.Constant (.str x) j pos) (fC (.str x)) := pe_imp pe_str fun _ _ _ w => tE_c (fun _ => .str _) w
/-- a module's constant, as a given tree -/
theorem x_glob {x : Str} {v : V} {d : D} {u : Value} (hg : Gl X x) (hm : X.mg x = some u) (r : RelV v u) (rd : ∀ c : Cf, c.DR X.K v d) (hd : (x == ("__debug__" : Str)) = false := by decide) : PX X W (.Name x pos) (fC d) :=
  pe_imp (pe_glob hg hm r hd) fun _ _ _ w => tE_c rd w

/-! two operands -/
def f2 (z : D → D → ST → Res D) (f g : EF) : EF := fun sl st => (f sl st).bind fun x st1 => (g sl st1).bind fun y st2 => z x y st2
/-- r is met by z -/
def Op2 (K : PySem.W.Frag) (W : WX) (r : R2) (z : D → D → ST → Res D) : Prop :=
  ∀ (c : Cf) v w x y Q, c.ok K → c.DR K v x → c.DR K w y → Post K W c (RlD K) Q (z x y c.st) → r v w c.H Q
theorem tE_f2 {K : PySem.W.Frag} {r : R2} {z : D → D → ST → Res D} (o : Op2 K W r z) {σ : L2.St} {H : Hp} {Q : VK} (w : tE K W (f2 z f g) σ H Q) : tOp r (tE K W f) (tE K W g) σ H Q := by
  obtain ⟨c, sl, rfl, S, L, P⟩ := w
  refine ⟨c, sl, rfl, S, L, Post.bind P fun v d c1 s1 o1 r1 P1 => ?_⟩
  refine ⟨c1, sl, rfl, o1, s1.sl L, Post.bind P1 fun w' d' c2 s2 o2 r2 P2 => ?_⟩
  exact o c2 v w' d d' Q o2 (s2.dr r1) r2 P2
theorem x_op {op : Operator} {r : R2} {z : D → D → ST → Res D} (ho : OpR X (binaryOp op) r) (o : Op2 X.K W r z) (ha : PX X W a f) (hb : PX X W b g) : PX X W (.BinOp a op b pos) (f2 z f g) :=
  pe_imp (pe_op ho ha hb) fun _ _ _ w => tE_f2 o w
theorem x_cmp {op : CmpOp} {r : R2} {z : D → D → ST → Res D} (ho : OpR X (compareOp op) r) (o : Op2 X.K W r z) (ha : PX X W a f) (hb : PX X W b g) (hm : behindInMarks op b = false) : PX X W (.Compare a [op] [b] pos) (f2 z f g) :=
  pe_imp (pe_cmpR ho ha hb hm) fun _ _ _ w => tE_f2 o w
def f1 (z : D → ST → Res D) (f : EF) : EF := fun sl st => (f sl st).bind fun x st1 => z x st1
def Op1 (K : PySem.W.Frag) (W : WX) (r : V → Hp → VK → Prop) (z : D → ST → Res D) : Prop :=
  ∀ (c : Cf) v x Q, c.ok K → c.DR K v x → Post K W c (RlD K) Q (z x c.st) → r v c.H Q
theorem tE_f1 {K : PySem.W.Frag} {r : V → Hp → VK → Prop} {z : D → ST → Res D} (o : Op1 K W r z) {σ : L2.St} {H : Hp} {Q : VK} (w : tE K W (f1 z f) σ H Q) : tE K W f σ H fun x H1 => r x H1 Q := by
  obtain ⟨c, sl, rfl, S, L, P⟩ := w
  refine ⟨c, sl, rfl, S, L, Post.bind P fun v d c1 s1 o1 r1 P1 => ?_⟩
  exact o c1 v d Q o1 r1 P1
theorem x_un {op : UnaryOp} {r : V → Hp → VK → Prop} {z : D → ST → Res D} (ho : UnR X (unaryOp op) r) (o : Op1 X.K W r z) (ha : PX X W a f) : PX X W (.UnaryOp op a pos) (f1 z f) :=
  pe_imp (pe_un ho ha) fun _ _ _ w => tE_f1 o w
/-- a value answer -/
theorem Post.ok {K : PySem.W.Frag} {c : Cf} {Q : VK} {v : V} {d : D} (S : c.ok K) (r : c.DR K v d) (P : Post K W c (RlD K) Q (.ok d c.st)) : Q v c.H :=
  P v c (Step.refl _) S rfl r

/-! ints -/
def zI (p : Int → Int → Bool) (o : Int → Int → D) : D → D → ST → Res D
  | .int i, .int j, st => if p i j then .ok (o i j) st else .stuck
  | _, _, _ => .stuck
theorem zI_ok {K : PySem.W.Frag} {p : Int → Int → Bool} {o : Int → Int → D} {v : Int → Int → V} (ro : ∀ (c : Cf) i j, c.DR K (v i j) (o i j)) {C : Int → Int → Prop} (hp : ∀ i j, p i j = true → C i j) : Op2 K W (rI C v) (zI p o) := by
  intro c x y d e Q S r1 r2 P
  unfold zI at P
  split at P
  · split at P
    · next hp' =>
      cases r1; cases r2
      exact ⟨_, _, rfl, rfl, hp _ _ hp', Post.ok S (ro _ _ _) P⟩
    · exact P.elim
  · exact P.elim
theorem zI0_ok {K : PySem.W.Frag} {o : Int → Int → D} {v : Int → Int → V} (ro : ∀ (c : Cf) i j, c.DR K (v i j) (o i j)) : Op2 K W (rI0 v) (zI (fun _ _ => true) o) := by
  intro c x y d e Q S r1 r2 P
  unfold zI at P
  split at P
  · cases r1; cases r2
    exact ⟨_, _, rfl, rfl, Post.ok S (ro _ _ _) P⟩
  · exact P.elim
end
end Rq
set_option Elab.async false
set_option linter.all false
set_option maxRecDepth 100000
set_option maxHeartbeats 4000000
/-! Rq, part 2: statements, argument lists, displays, calls of defs. -/
namespace Rq
open PySem PySem.Spec PyProof.Rows L2
section
variable {X : Cx} {W : WX} {e a b c : Expr} {es : List Expr} {f g h : EF} {pos : Pos} {s : Stmt} {ss : List Stmt} {F F2 : SF}
/-! ### statements -/
def fNext : SF := fun sl st => .ok (.nx sl) st
def fSeq (F F2 : SF) : SF := fun sl st => (F sl st).bind fun fl st1 => match fl with
  | .nx sl1 => F2 sl1 st1
  | fl => .ok fl st1
theorem tS_next {K : PySem.W.Frag} {E : Ends} {σ : L2.St} {H : Hp} (w : tS K W fNext E σ H) : tNext E σ H := by
  obtain ⟨c, sl, rfl, S, L, P⟩ := w
  exact P c (Step.refl _) S rfl σ L
theorem y_nil : PYs X W [] fNext := pss_imp pss_nil fun _ _ _ w => tS_next w
theorem y_pass : PY X W (.Pass pos) fNext := ps_imp ps_pass fun _ _ _ w => tS_next w
theorem y_cons (h1 : PY X W s F) (h2 : PYs X W ss F2) : PYs X W (s :: ss) (fSeq F F2) := pss_imp (pss_cons h1 h2) fun E σ H w => by
  obtain ⟨c, sl, rfl, S, L, P⟩ := w
  refine ⟨c, sl, rfl, S, L, ?_⟩
  unfold fSeq at P
  cases q : F sl c.st with
  | stuck => rw [q] at P; exact P
  | err C d sl' st' => rw [q] at P; exact P
  | ok fl st1 =>
    rw [q] at P
    intro c1 s1 o1 e1
    subst e1
    cases fl with
    | nx sl1 => exact fun σ' L' => ⟨c1, sl1, rfl, o1, L', PostS.mono s1 P⟩
    | rt d => exact P c1 s1 o1 rfl
    | bk sl1 => exact P c1 s1 o1 rfl
    | ct sl1 => exact P c1 s1 o1 rfl
theorem y_one (h1 : PY X W s F) : PYs X W [s] F := pss_one h1
def fBreak : SF := fun sl st => .ok (.bk sl) st
def fCont : SF := fun sl st => .ok (.ct sl) st
theorem y_break : PY X W (.Break pos) fBreak := ps_imp ps_break fun _ σ H w => by
  obtain ⟨c, sl, rfl, S, L, P⟩ := w
  exact P c (Step.refl _) S rfl σ L
theorem y_continue : PY X W (.Continue pos) fCont := ps_imp ps_continue fun _ σ H w => by
  obtain ⟨c, sl, rfl, S, L, P⟩ := w
  exact P c (Step.refl _) S rfl σ L
/-- what is never reached -/
def fNever : SF := fun _ _ => .stuck
theorem y_never : PY X W s fNever := ps_imp ps_never fun _ _ _ w => by obtain ⟨_, _, _, _, _, P⟩ := w; exact P
theorem ys_never : PYs X W ss fNever := pss_imp pss_never fun _ _ _ w => by obtain ⟨_, _, _, _, _, P⟩ := w; exact P
def fExpr (f : EF) : SF := fun sl st => (f sl st).bind fun _ st1 => .ok (.nx sl) st1
theorem y_expr (h : PX X W e f) (hs : swapsWith e none pos.line X.env = pure false := by rfl) : PY X W (.Expr e pos) (fExpr f) := ps_imp (ps_expr h hs) fun E σ H w => by
  obtain ⟨c, sl, rfl, S, L, P⟩ := w
  exact ⟨c, sl, rfl, S, L, PostS.bind P fun v d c1 s1 o1 r1 P1 => P1 c1 (Step.refl _) o1 rfl σ (s1.sl L)⟩
def fRet (f : EF) : SF := fun sl st => (f sl st).bind fun d st1 => .ok (.rt d) st1
theorem y_ret (h : PX X W e f) : PY X W (.Return (some e) pos) (fRet f) := ps_imp (ps_ret h) fun E σ H w => by
  obtain ⟨c, sl, rfl, S, L, P⟩ := w
  exact ⟨c, sl, rfl, S, L, PostS.bind P fun v d c1 s1 o1 r1 P1 => P1 c1 (Step.refl _) o1 rfl v r1⟩
def fRetN : SF := fun _ st => .ok (.rt .non) st
theorem y_retN : PY X W (.Return none pos) fRetN := ps_imp ps_retN fun E σ H w => by
  obtain ⟨c, sl, rfl, S, L, P⟩ := w
  exact P c (Step.refl _) S rfl .non .non
def fSet (i : Nat) (f : EF) : SF := fun sl st => (f sl st).bind fun d st1 => .ok (.nx (sl.set i (some d))) st1
theorem y_set (i : Nat) {x : Str} {pos' : Pos} (hN : X.N.Nodup) (h : PX X W e f) (hi : X.N[i]? = some x := by rfl) (hx : Loc X.env.scope x := by first | exact .inl rfl | exact .inr rfl) (hs : swapsWith e (some (.Name x pos')) pos.line X.env = pure false := by rfl)
    (hf : X.fn x = true ∨ X.env.scope.names.lookup x = some .local := by first | exact .inl rfl | exact .inr rfl | assumption) :
    PY X W (.Assign [.Name x pos'] e pos) (fSet i f) := ps_imp (ps_set hN hi hx h hs hf) fun E σ H w => by
  obtain ⟨c, sl, rfl, S, L, P⟩ := w
  exact ⟨c, sl, rfl, S, L, PostS.bind P fun v d c1 s1 o1 r1 P1 => P1 c1 (Step.refl _) o1 rfl _ ((s1.sl L).set r1 i)⟩
/-- a test -/
def fTest (c : EF) (k : Bool → SL → ST → Res α) : SL → ST → Res α := fun sl st => (c sl st).bind fun d st1 => match d with
  | .bl b => k b sl st1
  | _ => .stuck
def fIf (c : EF) (F F2 : SF) : SF := fTest c fun b => if b then F else F2
theorem y_if {A B : List Stmt} (hc : PX X W c f) (ha : PYs X W A F) (hb : PYs X W B F2) (he : ∀ whole, isTrue c X.env whole = (do let v ← whole; standAt c.pos; holding [v] (truthy v)) := by intro _; rfl) : PY X W (.If c A B pos) (fIf f F F2) :=
  ps_imp (ps_if (pt_val hc he) ha hb) fun E σ H w => by
  obtain ⟨c, sl, rfl, S, L, P⟩ := w
  refine ⟨c, sl, rfl, S, L, PostS.bind P fun v d c1 s1 o1 r1 P1 => ?_⟩
  cases d with
  | bl q =>
    cases r1
    refine ⟨q, rfl, ?_⟩
    cases q with
    | true => exact ⟨c1, sl, rfl, o1, s1.sl L, P1⟩
    | false => exact ⟨c1, sl, rfl, o1, s1.sl L, P1⟩
  | _ => exact P1.elim
/-! ### argument lists, displays -/
def fNil : AF := fun _ st => .ok [] st
def fCons (f : EF) (g : AF) : AF := fun sl st => (f sl st).bind fun d st1 => (g sl st1).bind fun ds st2 => .ok (d :: ds) st2
theorem xs_nil : PXs X W [] fNil := pa_imp pa_nil fun σ H Q w => by
  obtain ⟨c, sl, rfl, S, L, P⟩ := w
  exact P [] c (Step.refl _) S rfl .nil
theorem xs_cons {g : AF} (ha : PX X W e f) (hr : PXs X W es g) (hs : starEach (e :: es) X.env = (false, eval e X.env) :: starEach es X.env := by rfl) : PXs X W (e :: es) (fCons f g) := pa_imp (pa_cons ha hr hs) fun σ H Q w => by
  obtain ⟨c, sl, rfl, S, L, P⟩ := w
  refine ⟨c, sl, rfl, S, L, Post.bind P fun v d c1 s1 o1 r1 P1 => ?_⟩
  refine ⟨c1, sl, rfl, o1, s1.sl L, Post.bind P1 fun vs ds c2 s2 o2 r2 P2 => ?_⟩
  exact P2 (v :: vs) c2 (Step.refl _) o2 rfl (.cons (s2.dr r1) r2)
/-- a line that lists keep to -/
abbrev szOk (n : Nat) : Bool := decide (n ≤ 1000000)
theorem szOk.le {n : Nat} (h : szOk n = true) : n ≤ sizeLine := Nat.le_trans (of_decide_eq_true h) (by decide)
def fTup (g : AF) : EF := fun sl st => (g sl st).bind fun ds st1 => if szOk ds.length then .ok (.tup ds) st1 else .stuck
def fLst (g : AF) : EF := fun sl st => (g sl st).bind fun ds st1 => if szOk ds.length then .ok (.lst ds) st1 else .stuck
def fNew (g : AF) : EF := fun sl st => (g sl st).bind fun ds st1 => if szOk ds.length then .ok (.cel st1.length) (st1 ++ [some (.lst ds)]) else .stuck
/-- a new list as a cell is asked of what makes a new list at p -/
theorem newCell {K : PySem.W.Frag} {c : Cf} {p : Addr} {vs : List V} {ds : List D} {Q : VK} (S : c.ok K) (hp : c.H p = none) (r : c.DRs K vs ds)
    (P : Post K W c (RlD K) Q (.ok (.cel c.st.length) (c.st ++ [some (.lst ds)]))) : Q (.ref p) (upd c.H p (.lst vs)) := by
  obtain ⟨h1, h2⟩ := Cf.cellNew S hp (d := .lst ds) (o := .lst vs) ⟨vs, upd_same, r.mono (Ex.refl _) (Pf.app _ _)⟩
  exact P _ _ h2 h1 rfl (.cel (by show (c.as ++ [p])[c.st.length]? = some p; rw [← S.len]; simp))
theorem newTree {K : PySem.W.Frag} {c : Cf} {p : Addr} {vs : List V} {ds : List D} {Q : VK} (S : c.ok K) (hp : c.H p = none) (r : c.DRs K vs ds)
    (P : Post K W c (RlD K) Q (.ok (.lst ds) c.st)) : Q (.ref p) (upd c.H p (.lst vs)) := by
  obtain ⟨h1, h2⟩ := Cf.fix S hp (o := .lst vs)
  exact P _ _ h2 h1 rfl (.lst upd_same (h2.drs r))
theorem newTup {K : PySem.W.Frag} {c : Cf} {p : Addr} {vs : List V} {ds : List D} {Q : VK} (S : c.ok K) (hp : c.H p = none) (r : c.DRs K vs ds)
    (P : Post K W c (RlD K) Q (.ok (.tup ds) c.st)) : Q (.ref p) (upd c.H p (.tup vs)) := by
  obtain ⟨h1, h2⟩ := Cf.fix S hp (o := .tup vs)
  exact P _ _ h2 h1 rfl (.tup (.inl (.inl upd_same)) (h2.drs r))
theorem x_tup {x1} {g : AF} (h : PXs X W es g) : PX X W (.Tuple es x1 pos) (fTup g) := pe_imp (pe_tup h) fun σ H Q w => by
  obtain ⟨c, sl, rfl, S, L, P⟩ := w
  refine ⟨c, sl, rfl, S, L, Post.bind P fun vs ds c1 s1 o1 r1 P1 => ?_⟩
  split at P1
  · next z => exact ⟨by rw [r1.length]; exact szOk.le z, fun p hp => newTup o1 hp r1 P1⟩
  · exact P1.elim
theorem x_lst {g : AF} (h : PXs X W es g) : PX X W (.List es pos) (fLst g) := pe_imp (pe_lst h) fun σ H Q w => by
  obtain ⟨c, sl, rfl, S, L, P⟩ := w
  refine ⟨c, sl, rfl, S, L, Post.bind P fun vs ds c1 s1 o1 r1 P1 => ?_⟩
  split at P1
  · next z => exact ⟨by rw [r1.length]; exact szOk.le z, fun p hp => newTree o1 hp r1 P1⟩
  · exact P1.elim
theorem x_new {g : AF} (h : PXs X W es g) : PX X W (.List es pos) (fNew g) := pe_imp (pe_lst h) fun σ H Q w => by
  obtain ⟨c, sl, rfl, S, L, P⟩ := w
  refine ⟨c, sl, rfl, S, L, Post.bind P fun vs ds c1 s1 o1 r1 P1 => ?_⟩
  split at P1
  · next z => exact ⟨by rw [r1.length]; exact szOk.le z, fun p hp => newCell o1 hp r1 P1⟩
  · exact P1.elim
/-- a list cell becomes a tree -/
def zFrz : D → ST → Res D
  | .cel k, st => match st[k]? with
    | some (some (.lst xs)) => .ok (.lst xs) (st.set k none)
    | _ => .stuck
  | d, st => .ok d st
theorem x_frz (h : PX X W e f) : PX X W e (f1 zFrz f) := pe_imp h fun σ H Q w => by
  obtain ⟨c, sl, rfl, S, L, P⟩ := w
  refine ⟨c, sl, rfl, S, L, Post.bind P fun v d c1 s1 o1 r1 P1 => ?_⟩
  cases d with
  | cel k =>
    unfold zFrz at P1
    dsimp only at P1
    split at P1
    · next xs hk =>
      obtain ⟨a, vs, h1, h2, h3, h4⟩ := Cf.frzL o1 hk
      cases r1 with
      | cel h5 =>
        rw [h1] at h5; cases h5
        have z := P1 _ _ h3 h2 rfl h4
        exact z
    · exact P1.elim
  | _ => exact P1 _ c1 (Step.refl _) o1 rfl r1

/-! ### calls of defs -/
abbrev DF := List D → ST → Res D
/-- the promise of a def that does F -/
def spF (K : PySem.W.Frag) (n : Nat) (F : DF) : Sp := fun vs H Q E => ∃ c ds, c.H = H ∧ c.ok K ∧ c.DRs K vs ds ∧ ds.length = n ∧ Post K (fun c d _ H => E c d H) c (RlD K) Q (F ds c.st)
/-- nothing is raised -/
def Res.ne {α : Type} : Res α → Res α
  | .err _ _ _ _ => .stuck
  | r => r
def fCall0 (n : Nat) (F : DF) (g : AF) : EF := fun sl st => (g sl st).bind fun ds st1 => bif ds.length == n then (F ds st1).ne else .stuck
theorem Post.ne {K : PySem.W.Frag} {W W' : WX} {α β : Type} {c : Cf} {Rl : Cf → β → α → Prop} {Q : β → Hp → Prop} {r : Res α} (P : Post K W c Rl Q r.ne) : Post K W' c Rl Q r := by
  cases r with
  | ok d st => exact P
  | err C d sl st => exact P.elim
  | stuck => exact P
theorem tE_call0 {K : PySem.W.Frag} {n : Nat} {Fn : DF} {g : AF} {σ : L2.St} {H : Hp} {Q : VK} (w : tE K W (fCall0 n Fn g) σ H Q) : tCall (spF K n Fn) [] E0 (tA K W g) σ H Q := by
  obtain ⟨c, sl, rfl, S, L, P⟩ := w
  refine ⟨c, sl, rfl, S, L, Post.bind P fun vs ds c1 s1 o1 r1 P1 => ?_⟩
  cases hn : (ds.length == n) with
  | false => rw [hn] at P1; exact P1.elim
  | true =>
    rw [hn] at P1
    exact ⟨c1, ds, rfl, o1, by rw [List.append_nil]; exact r1, eq_of_beq hn, Post.ne P1⟩
theorem x_call0 {x : Str} {p : Pos} {k : Nat} {fa : Addr} {fd : FuncData} {ps : List Str} {n : Nat} {Fn : DF} {g : AF} (FO : FnOk X.prog X.w X.K X.mg X.base CX0 k fa fd ps (spF X.K n Fn)) (hr : Room k X.A) (hm : X.mg x = some (.ref fa)) (hk : PySem.W.keepIn X.K (.ref fa) = true)
    (hb : Binds X.K fd ps []) (ha : PXs X W (e :: es) g) (hg : Gl X x := by rfl) (hdb : (x == ("__debug__" : Str)) = false := by decide) (he : starEach (e :: es) X.env = (false, eval e X.env) :: starEach es X.env := by rfl) (hpl : (backTo pos (starEach es X.env)).any (·.1) = false := by rfl) :
    PX X W (.Call (.Name x p) (e :: es) [] pos) (fCall0 n Fn g) := pe_imp (pe_call FO hr hg hm hk hb .nil pass0 ha hdb he hpl) fun _ _ _ w => tE_call0 w
/-! ### bodies of defs -/
def bodyF (N : Nat) (F : SF) : DF := fun ds st => match F (ds.map some ++ List.replicate (N - ds.length) none) st with
  | .ok (.rt d) st1 => .ok d st1
  | .ok (.nx _) st1 => .ok .non st1
  | .ok _ _ => .stuck
  | .err C d sl st1 => .err C d sl st1
  | .stuck => .stuck
abbrev W0 : WX := fun _ _ _ _ => False
theorem fn0 {P : Program} {w : World} {K : PySem.W.Frag} {mg : Str → Option Value} {base : Heap} {x qual : Str} {st : Stmt} {fa : Addr} {fd : FuncData} {N ps : List Str} {k : Nat} {F : SF} {n : Nat} (Fu : Fun K x qual st fa fd) (S : FnScope N ps (defScope st)) (hn : ps.length = n)
    (h : ∀ (cdv : Value) (A : Around) (outer : List Env) (s : Shared) (H : Hp) (E : XK), Room k (A.deeper (envOfC qual (defScope st) s.heap.objs.size fa cdv)) → PYs (cxOf CX0 P w K mg base N qual (defScope st) fa cdv A outer s H E).nox W0 (defBody st) F) :
    FnOk P w K mg base CX0 (k + 1) fa fd ps (spF K n fun ds st => (bodyF N.length F ds st).ne) := by
  refine Fu.ok S (fun vs H Q E h => ?_) (fun cdv A outer s H vs Q E hr hs => ?_)
  · obtain ⟨c, ds, _, _, r, e, _⟩ := h
    rw [r.length, e, hn]
  · obtain ⟨c, ds, rfl, o, r, e, P⟩ := hs
    refine ⟨_, h cdv A outer s c.H E hr, c, _, rfl, o, SlR.start r, ?_⟩
    show PostS K W0 c _ (F _ c.st)
    unfold bodyF at P
    dsimp only at P
    cases q : F (ds.map some ++ List.replicate (N.length - ds.length) none) c.st with
    | stuck => rw [q] at P; exact P
    | err C d sl st => rw [q] at P; exact P.elim
    | ok fl st1 =>
      rw [q] at P
      intro c1 s1 o1 e1
      subst e1
      cases fl with
      | nx sl => exact fun σ' L' => P .non c1 s1 o1 rfl .non
      | rt d => exact fun v r => P v c1 s1 o1 rfl r
      | bk sl => exact P.elim
      | ct sl => exact P.elim
end
end Rq
set_option Elab.async false
set_option linter.all false
set_option maxRecDepth 100000
set_option maxHeartbeats 4000000
/-! Rq, part 3: what is walked, for, list comprehensions. -/
namespace Rq
open PySem PySem.Spec PyProof.Rows L2

/-- the walk J gives the trees ds, one after another -/
def Ylds (K : PySem.W.Frag) (c : Cf) (J : It) (ds : List D) : Prop := ∃ Y, Walk J ds.length (fun H => Ex c.G H) Y ∧ ∀ (i : Nat) x H H' d, ds[i]? = some d → Ex c.G H → Y i H x H' →
  (H' = H ∧ c.DR K x d) ∨ ∃ p vs es, x = .ref p ∧ H p = none ∧ H' = upd H p (.tup vs) ∧ d = .tup es ∧ c.DRs K vs es
def tI (K : PySem.W.Frag) (W : WX) (fi : AF) : TI := fun σ H R => ∃ c sl, c.H = H ∧ c.ok K ∧ c.SlR K σ sl ∧ Post K W c (fun c J ds => Ylds K c J ds) R (fi sl c.st)
def XI (X : Cx) (W : WX) (tg iter : Expr) (fi : AF) : Prop := PI X tg iter (tI X.K W fi)
theorem pi_imp {X : Cx} {tg e : Expr} {t t' : TI} (p : PI X tg e t) (i : ∀ σ H R, t' σ H R → t σ H R) : PI X tg e t' := ⟨fun pins s σ H R I w => p.run pins s σ H R I (i σ H R w)⟩
section
variable {K : PySem.W.Frag} {c : Cf}
theorem ylds_list {a : Addr} {vs : List V} {ds : List D} (h : SqL K c.G a vs) (r : c.DRs K vs ds) : Ylds K c (Itl K a) ds := by
  refine ⟨YAt vs, by rw [← DRs.length r]; exact (walk_list (K := K) (a := a) (xs := vs)).mono (fun H (e : Ex c.G H) => e.l h) (fun _ _ _ _ _ _ y => y), fun i x H H' d hd e y => .inl ⟨y.1, ?_⟩⟩
  obtain ⟨v, h1, h2⟩ := DRs.get r i d hd
  have := y.2
  rw [h1] at this; cases this
  exact h2
theorem ylds_tup {a : Addr} {vs : List V} {ds : List D} (h : SqT K c.G a vs) (r : c.DRs K vs ds) : Ylds K c (Itt K a) ds := by
  refine ⟨YAt vs, by rw [← DRs.length r]; exact (walk_tup (K := K) (a := a) (xs := vs)).mono (fun H (e : Ex c.G H) => e.t h) (fun _ _ _ _ _ _ y => y), fun i x H H' d hd e y => .inl ⟨y.1, ?_⟩⟩
  obtain ⟨v, h1, h2⟩ := DRs.get r i d hd
  have := y.2
  rw [h1] at this; cases this
  exact h2
def rangeD (lo : Int) (n : Nat) : List D := (List.range n).map fun (i : Nat) => D.int (lo + (i : Int))
theorem ylds_range {lo : Int} {n : Nat} : Ylds K c (Itr lo n) (rangeD lo n) := by
  have e : (rangeD lo n).length = n := by simp [rangeD]
  refine ⟨YFn fun i => .int (lo + (i : Nat)), by rw [e]; exact (walk_range (lo := lo) (n := n)).mono (fun _ _ => trivial) (fun _ _ _ _ _ _ y => y), fun i x H H' d hd e y => .inl ⟨y.1, ?_⟩⟩
  have := y.2
  subst this
  unfold rangeD at hd
  rw [List.getElem?_map] at hd
  obtain ⟨j, h1, h2⟩ := Option.map_eq_some_iff.mp hd
  have h3 : j = i := by
    rw [List.getElem?_eq_some_iff] at h1
    obtain ⟨_, h1⟩ := h1
    rw [List.getElem_range] at h1
    exact h1.symm
  subst h3; subst h2
  exact .int _
/-- signs of a text -/
def signsD (z : Str) : List D := z.cps.toList.map fun n => D.str ⟨#[n]⟩
theorem ylds_str {z : Str} : Ylds K c (Its z) (signsD z) := by
  have e : (signsD z).length = z.cps.size := by simp [signsD]
  refine ⟨fun i H v H' => H' = H ∧ ∃ c, z.cps[i]? = some c ∧ v = .str ⟨#[c]⟩, by rw [e]; exact (walk_str (z := z)).mono (fun _ _ => trivial) (fun _ _ _ _ _ _ y => y), fun i x H H' d hd e y => .inl ⟨y.1, ?_⟩⟩
  obtain ⟨n, h1, h2⟩ := y.2
  subst h2
  unfold signsD at hd
  rw [List.getElem?_map, Array.getElem?_toList, h1] at hd
  cases hd
  exact .str _
def kD : Key → D
  | .inl i => .int i
  | .inr x => .str x
theorem DRk.getV {G : Hp} {as : List Addr} {vs : List (Key × V)} {ds : List (Key × D)} (h : DRk K G as vs ds) : ∀ (i : Nat) (k : Key) (d : D), ds[i]? = some (k, d) → ∃ v, vs[i]? = some (k, v) ∧ DR K G as v d := by
  induction vs generalizing ds with
  | nil => cases h; intro i k d e; simp at e
  | cons v vs ih =>
    cases h with
    | cons a b =>
      intro i k d e
      cases i with
      | zero => simp at e; obtain ⟨rfl, rfl⟩ := e; exact ⟨_, by simp, a⟩
      | succ i => simpa using ih b i k d (by simpa using e)
theorem DRk.length {G : Hp} {as : List Addr} {vs : List (Key × V)} {ds : List (Key × D)} (h : DRk K G as vs ds) : vs.length = ds.length := by
  induction vs generalizing ds with
  | nil => cases h; rfl
  | cons v vs ih => cases h with | cons a b => simp [ih b]
theorem kV_dr (k : Key) : c.DR K (kV k) (kD k) := by
  cases k with
  | inl i => exact .int i
  | inr x => exact .str x
theorem ylds_keys {a : Addr} {o : Obj} {vs : List (Key × V)} {ds : List (Key × D)} (h : c.G a = some (.frz o (.dK vs))) (r : DRk K c.G c.as vs ds) : Ylds K c (Itk a o vs) (ds.map fun p => kD p.1) := by
  have e : (ds.map fun p => kD p.1).length = vs.length := by simp [r.length]
  refine ⟨fun i H x H' => H' = H ∧ ∃ k v, vs[i]? = some (k, v) ∧ x = kV k, by rw [e]; exact (walk_keys (d := a) (o := o) (kvs := vs)).mono (fun H (e : Ex c.G H) => e _ _ h) (fun _ _ _ _ _ _ y => y), fun i x H H' d hd e y => .inl ⟨y.1, ?_⟩⟩
  obtain ⟨k, v, h1, h2⟩ := y.2
  subst h2
  rw [List.getElem?_map] at hd
  obtain ⟨⟨k', d'⟩, h3, h4⟩ := Option.map_eq_some_iff.mp hd
  obtain ⟨v', h5, _⟩ := r.getV i k' d' h3
  rw [h1] at h5; cases h5
  subst h4
  exact kV_dr k
end
section
variable {X : Cx} {W : WX} {tg e a b : Expr} {f g : EF} {pos : Pos}
/-- a walk over a list, a tuple, a text -/
def fSeqI (f : EF) : AF := fun sl st => (f sl st).bind fun d st1 => match d with
  | .lst xs => .ok xs st1
  | .lsr xs => .ok xs st1
  | .tup xs => .ok xs st1
  | .str z => .ok (signsD z) st1
  | _ => .stuck
theorem xi_seq (h : PX X W e f) : XI X W tg e (fSeqI f) := ⟨fun pins s σ H R I w => by
  obtain ⟨c, sl, rfl, S, L, P⟩ := w
  unfold fSeqI at P
  cases q : f sl c.st with
  | stuck => rw [q] at P; exact P.elim
  | err C d sl' st' =>
    rw [q] at P
    refine (pi_list h).run pins s σ _ R I ⟨c, sl, rfl, S, L, ?_⟩
    rw [q]; exact P
  | ok d st1 =>
    rw [q] at P
    cases d with
    | lst xs =>
      refine (pi_list h).run pins s σ _ R I ⟨c, sl, rfl, S, L, ?_⟩
      rw [q]
      intro v c1 s1 o1 e1 r1
      cases r1 with
      | lst h1 h2 => exact ⟨_, rfl, ⟨_, o1.ex.l (sqOf h1)⟩, P _ c1 s1 o1 e1 (ylds_list (sqOf h1) h2)⟩
    | lsr xs =>
      refine (pi_list h).run pins s σ _ R I ⟨c, sl, rfl, S, L, ?_⟩
      rw [q]
      intro v c1 s1 o1 e1 r1
      cases r1 with
      | lsr h1 h2 => exact ⟨_, rfl, ⟨_, o1.ex.l h1⟩, P _ c1 s1 o1 e1 (ylds_list h1 h2)⟩
    | tup xs =>
      refine (pi_tup h).run pins s σ _ R I ⟨c, sl, rfl, S, L, ?_⟩
      rw [q]
      intro v c1 s1 o1 e1 r1
      cases r1 with
      | tup h1 h2 => exact ⟨_, rfl, ⟨_, o1.ex.t h1⟩, P _ c1 s1 o1 e1 (ylds_tup h1 h2)⟩
    | str z =>
      refine (pi_str h).run pins s σ _ R I ⟨c, sl, rfl, S, L, ?_⟩
      rw [q]
      intro v c1 s1 o1 e1 r1
      cases r1
      exact ⟨z, rfl, P _ c1 s1 o1 e1 ylds_str⟩
    | _ => exact P.elim⟩
/-- range(n), range(lo, n) -/
def fRange1 (g : AF) : AF := fun sl st => (g sl st).bind fun ds st1 => match ds with
  | [.int n] => if -1000000000 ≤ n ∧ n ≤ 1000000000 then .ok (rangeD 0 n.toNat) st1 else .stuck
  | _ => .stuck
def fRange2 (g : AF) : AF := fun sl st => (g sl st).bind fun ds st1 => match ds with
  | [.int lo, .int n] => if -1000000000 ≤ lo ∧ lo ≤ 1000000000 ∧ -1000000000 ≤ n ∧ n ≤ 1000000000 then .ok (rangeD lo (n - lo).toNat) st1 else .stuck
  | _ => .stuck
theorem xi_range1 {p : Pos} {g : AF} (hm : X.mg "range" = none) (ha : PXs X W [a] g) (hg : Gl X "range" := by rfl) (hs : starEach [a] X.env = [(false, eval a X.env)] := by rfl) : XI X W tg (.Call (.Name "range" p) [a] [] pos) (fRange1 g) :=
  pi_imp (pi_range1 hg hm ha hs) fun σ H R w => by
  obtain ⟨c, sl, rfl, S, L, P⟩ := w
  refine ⟨c, sl, rfl, S, L, Post.bind P fun vs ds c1 s1 o1 r1 P1 => ?_⟩
  split at P1
  · next n =>
    split at P1
    · next h =>
      cases r1 with
      | cons a b =>
        cases a; cases b
        exact ⟨n, rfl, by omega, by omega, P1 _ c1 (Step.refl _) o1 rfl ylds_range⟩
    · exact P1.elim
  · exact P1.elim
theorem xi_range2 {p : Pos} {g : AF} (hm : X.mg "range" = none) (ha : PXs X W [a, b] g) (hg : Gl X "range" := by rfl) (hs : starEach [a, b] X.env = [(false, eval a X.env), (false, eval b X.env)] := by rfl) (hs2 : starEach [b] X.env = [(false, eval b X.env)] := by rfl) :
    XI X W tg (.Call (.Name "range" p) [a, b] [] pos) (fRange2 g) :=
  pi_imp (pi_range2 hg hm ha hs hs2) fun σ H R w => by
  obtain ⟨c, sl, rfl, S, L, P⟩ := w
  refine ⟨c, sl, rfl, S, L, Post.bind P fun vs ds c1 s1 o1 r1 P1 => ?_⟩
  split at P1
  · next lo n =>
    split at P1
    · next h =>
      cases r1 with
      | cons a b =>
        cases a
        cases b with
        | cons a b =>
          cases a; cases b
          exact ⟨lo, n, rfl, by omega, P1 _ c1 (Step.refl _) o1 rfl ylds_range⟩
    · exact P1.elim
  · exact P1.elim

/-! ### targets -/
/-- but for the slots in ts all is as it was -/
def Only (ts : List Nat) (σ σ' : L2.St) : Prop := σ'.length = σ.length ∧ ∀ j, j ∉ ts → σ'[j]? = σ[j]?
theorem Only.refl (σ : L2.St) : Only [] σ σ := ⟨rfl, fun _ _ => rfl⟩
theorem wipe_get {σ : L2.St} {vs : List Nat} {j : Nat} (h : j ∈ vs) : (wipe σ vs)[j]? = if j < σ.length then some none else none := by
  induction vs with
  | nil => cases h
  | cons v vs ih =>
    unfold wipe
    by_cases e : v = j
    · subst e
      by_cases hl : v < σ.length
      · rw [List.getElem?_set_self (by rw [wipe_length]; exact hl), if_pos hl]
      · rw [List.getElem?_eq_none (by rw [List.length_set, wipe_length]; omega), if_neg hl]
    · rw [List.getElem?_set_ne e]
      rcases List.mem_cons.mp h with q | q
      · exact absurd q.symm e
      · exact ih q
theorem Only.wipe {ts vs : List Nat} {σ σ' : L2.St} (o : Only ts σ σ') (h : ∀ i ∈ ts, i ∈ vs) : L2.wipe σ' vs = L2.wipe σ vs := by
  refine List.ext_getElem? fun j => ?_
  by_cases hj : j ∈ vs
  · rw [wipe_get hj, wipe_get hj, o.1]
  · rw [wipe_out hj, wipe_out hj]
    exact o.2 j fun z => hj (h j z)
theorem wipe_wipe {σ : L2.St} {vs : List Nat} : L2.wipe (L2.wipe σ vs) vs = L2.wipe σ vs := by
  refine List.ext_getElem? fun j => ?_
  by_cases hj : j ∈ vs
  · rw [wipe_get hj, wipe_get hj, wipe_length]
  · rw [wipe_out hj]
abbrev TF := D → SL → Option SL
structure GT (X : Cx) (tg : Expr) (ts : List Nat) (g : TG) (tf : TF) : Prop where
  pg : PG X tg g
  ok : ∀ (G H : Hp) as v d σ sl sl' (Q : L2.St → Hp → Prop), Ex G H → DR X.K G as v d → SlR X.K G as σ sl → tf d sl = some sl' → (∀ σ', SlR X.K G as σ' sl' → Only ts σ σ' → Q σ' H) → g v σ H Q
def tName (i : Nat) : TF := fun d sl => some (sl.set i (some d))
theorem gt_name (i : Nat) {x : Str} (hN : X.N.Nodup) (hi : X.N[i]? = some x := by rfl) (hx : Loc X.env.scope x := by first | exact .inl rfl | exact .inr rfl) (hf : X.fn x = true ∨ X.env.scope.names.lookup x = some .local := by first | exact .inl rfl | exact .inr rfl | assumption) : GT X (.Name x pos) [i] (gName i) (tName i) :=
  ⟨pg_name hN hi hx hf, fun G H as v d σ sl sl' Q e r L h k => by
    cases h
    exact k _ (L.set r i) ⟨List.length_set, fun j hj => List.getElem?_set_ne fun e => hj (by rw [e]; exact List.mem_singleton.mpr rfl)⟩⟩
abbrev TFs := List D → SL → Option SL
structure GTs (X : Cx) (es : List Expr) (ts : List Nat) (g : TGs) (tf : TFs) : Prop where
  pg : PGs X es g
  ok : ∀ (G H : Hp) as vs ds σ sl sl' (Q : L2.St → Hp → Prop), Ex G H → DRs X.K G as vs ds → SlR X.K G as σ sl → tf ds sl = some sl' → (∀ σ', SlR X.K G as σ' sl' → Only ts σ σ' → Q σ' H) → g vs σ H Q
def tfNil : TFs := fun ds sl => match ds with
  | [] => some sl
  | _ => none
def tfCons (t : TF) (u : TFs) : TFs := fun ds sl => match ds with
  | d :: r => (t d sl).bind fun sl1 => u r sl1
  | [] => none
theorem gts_nil : GTs X [] [] gNil tfNil := ⟨pgs_nil, fun G H as vs ds σ sl sl' Q e r L h k => by
  cases r with
  | nil => cases h; exact ⟨rfl, k _ L (Only.refl _)⟩
  | cons a b => cases h⟩
theorem Only.trans {ts us : List Nat} {σ σ1 σ2 : L2.St} (a : Only ts σ σ1) (b : Only us σ1 σ2) : Only (ts ++ us) σ σ2 := ⟨b.1.trans a.1, fun j hj => (b.2 j fun z => hj (List.mem_append_right _ z)).trans (a.2 j fun z => hj (List.mem_append_left _ z))⟩
theorem gts_cons {es : List Expr} {ts us : List Nat} {g : TG} {gs : TGs} {t : TF} {u : TFs} (h1 : GT X e ts g t) (h2 : GTs X es us gs u) (hs : (assignEach (e :: es) X.env).map (·.2) = assign e X.env :: (assignEach es X.env).map (·.2) := by rfl) : GTs X (e :: es) (ts ++ us) (gCons g gs) (tfCons t u) := by
  obtain ⟨pg, hg⟩ := h1
  obtain ⟨pgs, hgs⟩ := h2
  refine ⟨pgs_cons pg pgs hs, fun G H as vs ds σ sl sl' Q e r L h k => ?_⟩
  cases r with
  | nil => cases h
  | cons a b =>
    unfold tfCons at h
    obtain ⟨sl1, q1, q2⟩ := Option.bind_eq_some_iff.mp h
    exact ⟨_, _, rfl, hg G H as _ _ σ sl sl1 _ e a L q1 fun σ1 L1 o1 => hgs G H as _ _ σ1 sl1 sl' _ e b L1 q2 fun σ2 L2 o2 => k σ2 L2 (o1.trans o2)⟩
def tTupT (n : Nat) (u : TFs) : TF := fun d sl => match d with
  | .tup ds => if ds.length = n then u ds sl else none
  | _ => none
theorem gt_tup {es : List Expr} {k n : Nat} {ts : List Nat} {g : TGs} {u : TFs} (hc : X.calm = true) (h : GTs X es ts g u) (hn : (assignEach es X.env).length = n := by rfl) (hst : (assignEach es X.env).findIdx? (·.1) = none := by rfl) : GT X (.Tuple es k pos) ts (gTup X.K n g) (tTupT n u) := by
  obtain ⟨pg, hg⟩ := h
  refine ⟨pg_tup hc pg hn hst, fun G H as v d σ sl sl' Q e r L q kk => ?_⟩
  cases r with
  | tup h1 h2 =>
    unfold tTupT at q
    dsimp only at q
    split at q
    · next hl => exact ⟨_, _, rfl, e.t h1, by rw [h2.length]; exact hl, hg G H as _ _ σ sl sl' Q e h2 L q kk⟩
    · cases q
  | _ => cases q

/-! ### for -/
def loopF (tf : TF) (B : SF) : List D → SL → ST → Res Fl
  | [], sl, st => .ok (.nx sl) st
  | d :: r, sl, st => match tf d sl with
    | none => .stuck
    | some sl1 => (B sl1 st).bind fun fl st1 => match fl with
      | .nx sl2 => loopF tf B r sl2 st1
      | .ct sl2 => loopF tf B r sl2 st1
      | .bk sl2 => .ok (.nx sl2) st1
      | .rt d => .ok (.rt d) st1
def fFor (fi : AF) (tf : TF) (B : SF) : SF := fun sl st => (fi sl st).bind fun ds st1 => loopF tf B ds sl st1
/-- what a turn's item brings -/
theorem Ylds.turn {K : PySem.W.Frag} {c0 c : Cf} {i : Nat} {x : V} {H' : Hp} {d : D} (S : c.ok K) (s : Step c0 c)
    (y : (H' = c.H ∧ c0.DR K x d) ∨ ∃ p vs es, x = .ref p ∧ c.H p = none ∧ H' = upd c.H p (.tup vs) ∧ d = .tup es ∧ c0.DRs K vs es) : ∃ c', c'.H = H' ∧ c'.ok K ∧ Step c c' ∧ c'.DR K x d ∧ c'.st = c.st := by
  rcases y with ⟨rfl, r⟩ | ⟨p, vs, es, rfl, hp, rfl, rfl, r⟩
  · exact ⟨c, rfl, S, Step.refl _, s.dr r, rfl⟩
  · obtain ⟨h1, h2⟩ := Cf.fix S hp (o := .tup vs)
    exact ⟨_, rfl, h1, h2, .tup (.inl (.inl upd_same)) ((s.trans h2).drs r), rfl⟩
theorem drop_cons {α : Type} {l : List α} {i : Nat} (h : i < l.length) : ∃ d, l[i]? = some d ∧ l.drop i = d :: l.drop (i + 1) := ⟨l[i], by simp [h], by rw [List.drop_eq_getElem_cons h]⟩
theorem y_for {iter : Expr} {body : List Stmt} {fi : AF} {ts : List Nat} {g : TG} {tf : TF} {B : SF} (hp : PassesOwn (model X.prog X.w) X.A X.env X.xe) (hc : X.calm = true) (hi : XI X W tg iter fi) (hg : GT X tg ts g tf) (hb : PYs X W body B)
    (hs : ∀ x, foldedSetIterable iter X.env x = pure x := by intro _; rfl) : PY X W (.For tg iter body [] pos) (fFor fi tf B) := by
  obtain ⟨pg, hg⟩ := hg
  refine ps_imp (ps_for hp hc hi pg hb hs) fun E σ H w => ?_
  obtain ⟨c, sl, rfl, S, L, P⟩ := w
  refine ⟨c, sl, rfl, S, L, PostS.bind P fun J ds c1 s1 o1 ⟨Y, wk, yl⟩ P1 => ?_⟩
  refine for_it wk (fun i σ' H' => ∃ c' sl', c'.H = H' ∧ c'.ok X.K ∧ c'.SlR X.K σ' sl' ∧ Step c1 c' ∧ PostS X.K W c' E (loopF tf B (ds.drop i) sl' c'.st)) ⟨c1, sl, rfl, o1, s1.sl L, Step.refl _, by simpa using P1⟩ ?_ ?_ ?_
  · rintro i σ' H' _ ⟨c', sl', rfl, o', _, s', _⟩
    exact s'.ex.trans o'.ex
  · rintro i x σ' H' H2 hlt ⟨c', sl', rfl, o', L', s', P'⟩ y
    obtain ⟨d, hd, e⟩ := drop_cons hlt
    obtain ⟨c2, rfl, o2, s2, r2, e2⟩ := Ylds.turn (i := i) o' s' (yl i x _ H2 d hd (s'.ex.trans o'.ex) y)
    rw [e] at P'
    unfold loopF at P'
    cases q : tf d sl' with
    | none => rw [q] at P'; exact P'.elim
    | some sl1 =>
      rw [q] at P'
      refine hg c2.G c2.H c2.as x d σ' sl' sl1 _ o2.ex r2 (s2.sl L') q fun σ2 L2 _ => ?_
      refine ⟨c2, sl1, rfl, o2, L2, ?_⟩
      have P2 := PostS.mono s2 P'
      rw [← e2] at P2
      dsimp only at P2
      cases qb : B sl1 c2.st with
      | stuck => rw [qb] at P2; exact P2
      | err C d sl st => rw [qb] at P2; exact P2
      | ok fl st1 =>
        rw [qb] at P2
        intro c3 s3 o3 e3
        subst e3
        cases fl with
        | nx sl2 => exact fun σ3 L3 => ⟨c3, sl2, rfl, o3, L3, (s'.trans s2).trans s3, PostS.mono s3 P2⟩
        | ct sl2 => exact fun σ3 L3 => ⟨c3, sl2, rfl, o3, L3, (s'.trans s2).trans s3, PostS.mono s3 P2⟩
        | bk sl2 => exact fun σ3 L3 => P2 c3 s3 o3 rfl σ3 L3
        | rt d => exact fun v r => P2 c3 s3 o3 rfl v r
  · rintro σ' H' ⟨c', sl', rfl, o', L', s', P'⟩
    rw [List.drop_length] at P'
    exact P' c' (Step.refl _) o' rfl σ' L'

/-! ### list comprehensions -/
abbrev CF := SL → ST → Res Bool
def cYes : CF := fun _ st => .ok true st
def cOne (f : EF) : CF := fTest f fun b _ st => .ok b st
structure XTs (X : Cx) (ifs : List Expr) (t : TT) (cf : CF) : Prop where
  pt : PTs X ifs t
  ok : ∀ c σ sl (Q : Bool → Hp → Prop), c.ok X.K → c.SlR X.K σ sl → Post X.K W0 c (fun _ (b : Bool) (b' : Bool) => b = b') Q (cf sl c.st) → t σ c.H Q
theorem xts_nil : XTs X [] tYes cYes := ⟨pts_nil, fun c σ sl Q S L P => P true c (Step.refl _) S rfl rfl⟩
theorem xts_one {t : Expr} (h : PX X W0 t f) (he : ∀ whole, isTrue t X.env whole = (do let v ← whole; standAt t.pos; holding [v] (truthy v)) := by intro _; rfl) : XTs X [t] (tB (tE X.K W0 f)) (cOne f) := ⟨pts_one (pt_val h he), fun c σ sl Q S L P => by
  refine ⟨c, sl, rfl, S, L, Post.bind P fun v d c1 s1 o1 r1 P1 => ?_⟩
  cases d with
  | bl q => cases r1; exact ⟨q, rfl, P1 q c1 (Step.refl _) o1 rfl rfl⟩
  | _ => exact P1.elim⟩
/-- the turns: what is made -/
def compF (tf : TF) (cf : CF) (el : EF) (slw : SL) : List D → ST → Res (List D)
  | [], st => .ok [] st
  | d :: r, st => match tf d slw with
    | none => .stuck
    | some sl1 => (cf sl1 st).ne.bind fun b st1 => if b then (el sl1 st1).ne.bind fun y st2 => (compF tf cf el slw r st2).bind fun ys st3 => .ok (y :: ys) st3
      else compF tf cf el slw r st1
def fLcK (kk : List D → ST → Res D) (fi : AF) (tf : TF) (cf : CF) (el : EF) (vs : List Nat) : EF := fun sl st => (fi sl st).bind fun ds st1 => if szOk ds.length then (compF tf cf el (wipeD sl vs) ds st1).bind kk else .stuck
/-- as a tree; as a cell -/
abbrev kTree : List D → ST → Res D := fun ys st => .ok (.lst ys) st
abbrev kCell : List D → ST → Res D := fun ys st => .ok (.cel st.length) (st ++ [some (.lst ys)])
end
end Rq
set_option Elab.async false
set_option linter.all false
set_option maxRecDepth 100000
set_option maxHeartbeats 4000000
/-! Rq, part 4: list comprehensions. -/
namespace Rq
open PySem PySem.Spec PyProof.Rows L2
section
variable {K : PySem.W.Frag} {c c1 : Cf} {p : Addr} {o : HO}
theorem not_live (S : c.ok K) (h : c.H p = none) : ¬ Live c.as c.st p := fun ⟨k, d, h1, h2⟩ => by
  obtain ⟨a, z1, _, z3⟩ := S.cell k d h1
  rw [h2] at z1; cases z1
  obtain ⟨o, e⟩ := z3.some
  rw [h] at e; cases e
/-- an object beside the configuration is laid or changed -/
theorem Cf.out (S : c.ok K) (h1 : ¬ Live c.as c.st p) (h2 : c.G p = none) (hp : PlainAt c.H p := by first | exact tbl_new ‹_› | exact tbl_of ‹_›) : Cf.ok K ⟨c.G, upd c.H p o, c.as, c.st⟩ where
  ex := fun a u e => by
    show upd c.H p o a = _
    rw [upd_ne (ne_of_none e h2)]; exact S.ex a u e
  len := S.len
  cell := fun k d e => by
    obtain ⟨a, z1, z2, z3⟩ := S.cell k d e
    exact ⟨a, z1, z2, z3.mono (Ex.refl _) (Pf.refl _) (upd_ne fun q => h1 ⟨k, d, e, by rw [← q]; exact z1⟩)⟩
  inj := S.inj
  tab := S.tab.mono (Ex.refl _) (tbl_upd hp)
  gt := S.gt
theorem Step.out (s : Step c1 c) (h : c1.H p = none) : Step c1 ⟨c.G, upd c.H p o, c.as, c.st⟩ := ⟨s.ex, s.pf, fun a u e1 en e2 e3 => by
  obtain ⟨q1, q2, q3⟩ := s.kp a u e1 en e2 e3
  exact ⟨by show upd c.H p o a = _; rw [upd_ne (ne_of_none e1 h)]; exact q1, q2, q3⟩⟩
/-- it becomes a tree -/
theorem Cf.adopt (S : c.ok K) (h : c.H p = some o) (h1 : ¬ Live c.as c.st p) (h2 : c.G p = none) (hn : ∀ ps, o ≠ .tbl ps := by intro _ z; cases z) : Cf.ok K ⟨upd c.G p o, c.H, c.as, c.st⟩ where
  ex := fun a u e => by
    by_cases q : a = p
    · subst q
      have e : upd c.G a o a = some u := e
      rw [upd_same] at e; cases e; exact h
    · have e : upd c.G p o a = some u := e
      rw [upd_ne q] at e; exact S.ex a u e
  len := S.len
  cell := fun k d e => by
    obtain ⟨a, z1, z2, z3⟩ := S.cell k d e
    have ne : a ≠ p := fun q => h1 ⟨k, d, e, by rw [← q]; exact z1⟩
    exact ⟨a, z1, by show upd c.G p o a = _; rw [upd_ne ne]; exact z2, z3.mono (Ex.new h2) (Pf.refl _) rfl⟩
  inj := S.inj
  tab := S.tab.mono (Ex.new h2) (fun _ _ z => z)
  gt := fun b ps z => by
    have z : upd c.G p o b = some (.tbl ps) := z
    by_cases e : b = p
    · subst e; rw [upd_same] at z; exact hn ps (Option.some.inj z)
    · rw [upd_ne e] at z; exact S.gt b ps z
theorem Step.adopt (s : Step c1 c) (h : c1.H p = none) (h2 : c.G p = none) : Step c1 ⟨upd c.G p o, c.H, c.as, c.st⟩ := ⟨s.ex.trans (Ex.new h2), s.pf, fun a u e1 en e2 e3 => by
  obtain ⟨q1, q2, q3⟩ := s.kp a u e1 en e2 e3
  exact ⟨q1, q2, by show upd c.G p o a = _; rw [upd_ne (ne_of_none e1 h)]; exact q3⟩⟩
/-- it becomes a cell -/
theorem app_cases {as : List Addr} {st : ST} {d : Cell} {k : Nat} {e : Cell} (hl : as.length = st.length) (h : (st ++ [some d])[k]? = some (some e)) : (st[k]? = some (some e) ∧ (as ++ [p])[k]? = as[k]?) ∨ (k = st.length ∧ e = d ∧ (as ++ [p])[k]? = some p) := by
  by_cases hk : k < st.length
  · rw [List.getElem?_append_left hk] at h
    exact .inl ⟨h, List.getElem?_append_left (by omega)⟩
  · rw [List.getElem?_append_right (by omega)] at h
    have hk2 : k = st.length := by
      by_cases z : k - st.length = 0
      · omega
      · rw [List.getElem?_eq_none (by simp; omega)] at h; cases h
    subst hk2
    simp at h
    exact .inr ⟨rfl, h.symm, by rw [← hl]; simp⟩
theorem Cf.adoptC {d : Cell} (S : c.ok K) (h : CellAt K c.G (c.as ++ [p]) c.H p d) (h1 : ¬ Live c.as c.st p) (h2 : c.G p = none) : Cf.ok K ⟨c.G, c.H, c.as ++ [p], c.st ++ [some d]⟩ where
  ex := S.ex
  len := by simp [S.len]
  cell := fun k e q => by
    rcases app_cases (p := p) S.len q with ⟨z, w⟩ | ⟨z1, z2, z3⟩
    · obtain ⟨a, y1, y2, y3⟩ := S.cell k e z
      exact ⟨a, by show (c.as ++ [p])[k]? = _; rw [w]; exact y1, y2, y3.mono (Ex.refl _) (Pf.app _ _) rfl⟩
    · subst z2
      exact ⟨p, z3, h2, h⟩
  inj := fun j k a e e' q1 q2 q3 q4 => by
    rcases app_cases (p := p) S.len q1 with ⟨z, w⟩ | ⟨z1, z2, z3⟩ <;> rcases app_cases (p := p) S.len q2 with ⟨y, x⟩ | ⟨y1, y2, y3⟩
    · have q3 : (c.as ++ [p])[j]? = some a := q3
      have q4 : (c.as ++ [p])[k]? = some a := q4
      rw [w] at q3; rw [x] at q4
      exact S.inj j k a e e' z y q3 q4
    · have q3 : (c.as ++ [p])[j]? = some a := q3
      have q4 : (c.as ++ [p])[k]? = some a := q4
      rw [w] at q3; rw [y3] at q4; cases q4
      exact absurd ⟨j, e, z, q3⟩ h1
    · have q3 : (c.as ++ [p])[j]? = some a := q3
      have q4 : (c.as ++ [p])[k]? = some a := q4
      rw [z3] at q3; cases q3; rw [x] at q4
      exact absurd ⟨k, e', y, q4⟩ h1
    · omega
  tab := S.tab
  gt := S.gt
theorem Step.adoptC {d : Cell} (S : c.ok K) (s : Step c1 c) (h : c1.H p = none) : Step c1 ⟨c.G, c.H, c.as ++ [p], c.st ++ [some d]⟩ := ⟨s.ex, s.pf.trans (Pf.app _ _), fun a u e1 en e2 e3 => by
  obtain ⟨q1, q2, q3⟩ := s.kp a u e1 en e2 e3
  refine ⟨q1, fun z => ?_, q3⟩
  rcases live_app S.len z with z | z
  · exact q2 z
  · exact ne_of_none e1 h z⟩
end
theorem Res.bind_assoc {α β γ : Type} (r : Res α) (k : α → ST → Res β) (l : β → ST → Res γ) : (r.bind k).bind l = r.bind fun a st => (k a st).bind l := by
  cases r <;> rfl
section
variable {X : Cx} {W : WX} {tg iter elt : Expr} {ifs : List Expr} {scope : Scope} {pos : Pos} {fi : AF} {tf : TF} {cf : CF} {el : EF} {ts : List Nat}
/-- how the new list at D is told behind the loop -/
def Told (K : PySem.W.Frag) (W : WX) (Q : VK) (kk : List D → ST → Res D) : Prop :=
  ∀ c1 c D vs ys, c1.H D = none → Step c1 c → c.ok K → c.H D = some (.lst vs) → ¬ Live c.as c.st D → c.G D = none → c.DRs K vs ys → Post K W c1 (RlD K) Q (kk ys c.st) → Q (.ref D) c.H
theorem told_tree {K : PySem.W.Frag} {W : WX} {Q : VK} : Told K W Q kTree := fun c1 c D vs ys h0 s S h1 h2 h3 r P =>
  P (.ref D) ⟨upd c.G D (.lst vs), c.H, c.as, c.st⟩ (s.adopt h0 h3) (Cf.adopt S h1 h2 h3) rfl (.lst upd_same (r.mono (Ex.new h3) (Pf.refl _)))
theorem told_cell {K : PySem.W.Frag} {W : WX} {Q : VK} : Told K W Q kCell := fun c1 c D vs ys h0 s S h1 h2 h3 r P =>
  P (.ref D) ⟨c.G, c.H, c.as ++ [D], c.st ++ [some (.lst ys)]⟩ (Step.adoptC S s h0) (Cf.adoptC (d := .lst ys) S ⟨vs, h1, r.mono (Ex.refl _) (Pf.app _ _)⟩ h2 h3) rfl (.cel (by show (c.as ++ [D])[c.st.length]? = some D; rw [← S.len]; simp))
theorem lc_read {own : List (Str × Nat)} {g : TG} {tt : TT} {kk : List D → ST → Res D} {σ : L2.St} {c : Cf} {sl : SL} {Q : VK} (S : c.ok X.K) (L : c.SlR X.K σ sl) (hw : ∀ i ∈ ts, i ∈ own.map (·.2))
    (hg : ∀ (G H : Hp) as v d σ sl sl' (Q : L2.St → Hp → Prop), Ex G H → DR X.K G as v d → SlR X.K G as σ sl → tf d sl = some sl' → (∀ σ', SlR X.K G as σ' sl' → Only ts σ σ' → Q σ' H) → g v σ H Q)
    (ht : ∀ c σ sl (Q : Bool → Hp → Prop), c.ok X.K → c.SlR X.K σ sl → Post X.K W0 c (fun _ (b : Bool) (b' : Bool) => b = b') Q (cf sl c.st) → tt σ c.H Q) (T : Told X.K W Q kk)
    (P : Post X.K W c (RlD X.K) Q (fLcK kk fi tf cf el (own.map (·.2)) sl c.st)) :
    tLc (tI X.K W fi) g tt (tE X.K W0 el) (own.map (·.2)) σ c.H Q := by
  refine ⟨c, sl, rfl, S, L, Post.bind P fun J ds c1 s1 o1 ⟨Y, wk, yl⟩ P1 D hD => ?_⟩
  have P1 : Post X.K W c1 (RlD X.K) Q (if szOk ds.length then (compF tf cf el (wipeD sl (own.map (·.2))) ds c1.st).bind kk else .stuck) := P1
  by_cases hz : szOk ds.length = true
  case neg => rw [if_neg hz] at P1; exact P1.elim
  rw [if_pos hz] at P1
  have hsz : ds.length ≤ 1000000 := of_decide_eq_true hz
  refine lc_it wk (fun i H' => ∃ c' vs ys, c'.H = H' ∧ c'.ok X.K ∧ Step c1 c' ∧ c'.H D = some (.lst vs) ∧ ¬ Live c'.as c'.st D ∧ c'.G D = none ∧ c'.DRs X.K vs ys ∧ vs.length ≤ i ∧
      Post X.K W c1 (RlD X.K) Q ((compF tf cf el (wipeD sl (own.map (·.2))) (ds.drop i) c'.st).bind fun zs st2 => kk (ys ++ zs) st2)) ?_ ?_ ?_ ?_
  · refine ⟨⟨c1.G, upd c1.H D (.lst []), c1.as, c1.st⟩, [], [], rfl, Cf.out o1 (not_live o1 hD) (o1.ex.free hD), (Step.refl c1).out hD, upd_same, (not_live (c := c1) o1 hD :), o1.ex.free hD, .nil, Nat.le_refl _, ?_⟩
    simpa using P1
  · rintro i H' _ ⟨c', vs, ys, rfl, o', s', _⟩
    exact s'.ex.trans o'.ex
  · rintro i x H' H2 hlt ⟨c', vs, ys, rfl, o', s', hd1, hd2, hd3, r', hl, P'⟩ y
    obtain ⟨d, hd, e⟩ := drop_cons hlt
    obtain ⟨c2, rfl, o2, s2, r2, e2⟩ := Ylds.turn (i := i) o' s' (yl i x _ H2 d hd (s'.ex.trans o'.ex) y)
    obtain ⟨k1, k2, k3⟩ := s2.kq hd1 hd2 hd3
    rw [e] at P'
    unfold compF at P'
    cases q : tf d (wipeD sl (own.map (·.2))) with
    | none => rw [q] at P'; exact P'.elim
    | some sl1 =>
      rw [q] at P'
      dsimp only at P'
      refine hg c2.G c2.H c2.as x d (wipe σ (own.map (·.2))) _ sl1 _ o2.ex r2 (s2.sl (s'.sl ((s1.sl L).wipe _))) q ?_
      intro σ2 L2 on
      refine ⟨by rw [on.wipe hw, wipe_wipe], ?_⟩
      rw [← e2] at P'
      refine ht c2 σ2 sl1 _ o2 L2 ?_
      cases qc : cf sl1 c2.st with
      | stuck => rw [qc] at P'; exact P'.elim
      | err C d sl st => rw [qc] at P'; exact P'.elim
      | ok b st1 =>
        rw [qc] at P'
        intro b' c3 s3 o3 e3 hb
        subst e3
        obtain rfl : b' = b := hb
        obtain ⟨k4, k5, k6⟩ := s3.kq k1 k2 k3
        cases b' with
        | false =>
          simp only [Bool.false_eq_true, if_false]
          exact ⟨c3, vs, ys, rfl, o3, (s'.trans s2).trans s3, k4, k5, k6, s3.drs (s2.drs r'), by omega, P'⟩
        | true =>
          simp only [if_true]
          refine ⟨c3, sl1, rfl, o3, s3.sl L2, ?_⟩
          have P3 : Post X.K W c1 (RlD X.K) Q (Res.bind (Res.bind (el sl1 c3.st).ne fun y st2 => (compF tf cf el (wipeD sl (own.map (·.2))) (ds.drop (i + 1)) st2).bind fun ys st3 => .ok (y :: ys) st3) fun zs st2 => kk (ys ++ zs) st2) := P'
          cases qe : el sl1 c3.st with
          | stuck => rw [qe] at P3; exact P3.elim
          | err C d sl st => rw [qe] at P3; exact P3.elim
          | ok yd st4 =>
            rw [qe] at P3
            intro v c4 s4 o4 e4 r4
            subst e4
            obtain ⟨k7, k8, k9⟩ := s4.kq k4 k5 k6
            have P4 : Post X.K W c1 (RlD X.K) Q ((compF tf cf el (wipeD sl (own.map (·.2))) (ds.drop (i + 1)) c4.st).bind fun zs st2 => kk ((ys ++ [yd]) ++ zs) st2) := by
              have P3 : Post X.K W c1 (RlD X.K) Q (Res.bind ((compF tf cf el (wipeD sl (own.map (·.2))) (ds.drop (i + 1)) c4.st).bind fun ys st3 => .ok (yd :: ys) st3) fun zs st2 => kk (ys ++ zs) st2) := P3
              rw [Res.bind_assoc] at P3
              simpa [Res.bind] using P3
            have hv : vs.length < ds.length := by omega
            refine ⟨vs, k7, Nat.lt_of_lt_of_le (Nat.lt_of_lt_of_le hv hsz) (by decide), ?_⟩
            exact ⟨⟨c4.G, upd c4.H D (.lst (vs ++ [v])), c4.as, c4.st⟩, vs ++ [v], ys ++ [yd], rfl, Cf.out o4 k8 k9, (((s'.trans s2).trans s3).trans s4).out hD, upd_same, k8, k9, DRs.app (s4.drs (s3.drs (s2.drs r'))) (.cons r4 .nil), by simp; omega, P4⟩
  · rintro H' ⟨c', vs, ys, rfl, o', s', hd1, hd2, hd3, r', hl, P'⟩
    rw [List.drop_length] at P'
    unfold compF at P'
    have P' : Post X.K W c1 (RlD X.K) Q (kk (ys ++ []) c'.st) := P'
    rw [List.append_nil] at P'
    exact T c1 c' D vs ys hD s' o' hd1 hd2 hd3 r' P'
/-- [elt for tg in iter if ..] -/
theorem x_lcK {own : List (Str × Nat)} {g : TG} {tt : TT} {kk : List D → ST → Res D} (T : ∀ Q, Told X.K W Q kk) (hc : X.calm = true) (hN : X.N.Nodup) (hi : XI X W tg iter fi) (ok : BlkOk X.N X.env.scope scope own)
    (hg : ∀ (s : Shared) (H : Hp) (C : Addr) (cl : List (Str × Addr)) (fp : List Addr), GT (X.blk s H scope (compEnvC scope cl C X.env) fp) tg ts g tf) (hw : ∀ i ∈ ts, i ∈ own.map (·.2))
    (ht : ∀ (s : Shared) (H : Hp) (C : Addr) (cl : List (Str × Addr)) (fp : List Addr), XTs (X.blk s H scope (compEnvC scope cl C X.env) fp) ifs tt cf)
    (he : ∀ (s : Shared) (H : Hp) (C : Addr) (cl : List (Str × Addr)) (fp : List Addr), PX (X.blk s H scope (compEnvC scope cl C X.env) fp) W0 elt el) (hs : ∀ x, foldedSetIterable iter X.env x = pure x := by intro _; rfl) :
    PX X W (.ListComp elt [⟨tg, iter, ifs, 0⟩] scope pos) (fLcK kk fi tf cf el (own.map (·.2))) :=
  pe_imp (pe_lc (te := tE X.K W0 el) hc hN hi ok (fun s H C cl fp => (hg s H C cl fp).pg) (fun s H C cl fp => (ht s H C cl fp).pt) (fun s H C cl fp => he s H C cl fp) hs) fun σ H Q w => by
    obtain ⟨c, sl, rfl, S, L, P⟩ := w
    have hg0 := (hg X.s_0 X.H_0 0 [] []).ok
    have ht0 := (ht X.s_0 X.H_0 0 [] []).ok
    exact lc_read S L hw hg0 ht0 (T Q) P
end
end Rq
set_option Elab.async false
set_option linter.all false
set_option maxRecDepth 100000
set_option maxHeartbeats 4000000
/-! Rq, part 5: defs and their calls where no repr is under way (so that repr may be walked). -/
namespace Rq
open PySem PySem.Spec PyProof.Rows L2
/-- as the hand layer's FnOk, where no repr is under way -/
structure FG (P : Program) (w : World) (K : PySem.W.Frag) (mg : Str → Option Value) (base : Heap) (CX : CXT) (k : Nat) (f : Addr) (fd : FuncData) (ps : List Str) (sp : Sp) : Prop where
  len : ∀ vs H Q E, sp vs H Q E → vs.length = ps.length
  run : ∀ (A : Around) (outer : List Env) (s : Shared) (H : Hp) (args : Args) (us : List Value) (vs : List V) (Q : VK) (E : XK),
    A.guards = some [] → Room k A → Env0 P w K mg base A outer s H → BindsTo s fd args (ps.zip us) → Vals vs us → sp vs H Q E →
      codeAny (model P w) A (.call (.ref f) args) (CR CX outer P w H s Q E) s
section
variable {P : Program} {w : World} {K : PySem.W.Frag} {mg : Str → Option Value} {base : Heap} {CX : CXT}
theorem FG.mono {j k : Nat} {f : Addr} {fd : FuncData} {ps : List Str} {sp : Sp} (F : FG P w K mg base CX j f fd ps sp) (h : j ≤ k) : FG P w K mg base CX k f fd ps sp :=
  ⟨F.len, fun A outer s H args us vs Q E g r => F.run A outer s H args us vs Q E g (r.mono h)⟩
/-- a def by its body -/
theorem fg_of {x qual : Str} {st : Stmt} {fa : Addr} {fd : FuncData} {N ps : List Str} {k : Nat} {sp : Sp} (Fu : Fun K x qual st fa fd) (S : FnScope N ps (defScope st)) (len : ∀ vs H Q E, sp vs H Q E → vs.length = ps.length)
    (hb : ∀ (cdv : Value) (A : Around) (outer : List Env) (s : Shared) (H : Hp) (vs : List V) (Q : VK) (E : XK), (A.deeper (envOfC qual (defScope st) s.heap.objs.size fa cdv)).guards = some [] →
      Room k (A.deeper (envOfC qual (defScope st) s.heap.objs.size fa cdv)) → sp vs H Q E →
      ∃ t, PSs (cxOf CX P w K mg base N qual (defScope st) fa cdv A outer s H E) (defBody st) t ∧ t { nx := fun _ H' => Q .non H', rt := Q } (L2.start N vs) H) :
    FG P w K mg base CX (k + 1) fa fd ps sp := by
  obtain ⟨oc, od, kV, doc, pm, an, cdv, ct, osl, rfl, lk, hcd⟩ := Fu.ex
  refine ⟨len, ?_⟩
  intro A outer s H args us vs Q E gd hr e0 bi rv hsp
  have lv := len _ _ _ _ hsp
  have old : ∀ b o, base.get? b = some o → s.heap.get? b = some o := fun b o e => (e0.bs b o e).1
  have kin : K.In s.heap := e0.mod.kin.keeps old
  have nl : s.heap.NoLimit := e0.mod.nolimit.keeps old
  have kinds : ∀ y ∈ ps.zip us, (defScope st).names.lookup y.1 = some .local ∨ ((defScope st).names.lookup y.1 = some .cell ∧ ((cellsFrom (s.heap.objs.size + 1) (defScope st).names []).lookup y.1).isSome = true) := by
    rintro ⟨n, v⟩ hy
    cases S.par n (List.of_mem_zip hy).1 with
    | inl q => exact .inl q
    | inr q => exact .inr ⟨q, PySem.W.cellsFrom_some _ _ _ (.inl q)⟩
  have gd' : (A.deeper (envOfC qual (defScope st) s.heap.objs.size fa cdv)).guards = some [] := by
    first
      | exact gd
      | (unfold Around.deeper; exact gd)
      | (simp [Around.deeper, gd])
  obtain ⟨t, ht, hq⟩ := hb cdv A outer s H vs Q E gd' (hr.deeper _) hsp
  refine codeAny_call_function hr.depth (kin _ _ lk) rfl S.co S.gen rfl (PySem.W.codeRec_of kin hcd) (bi _ _ _ _ ?_)
  refine wpAny_newFunctionEnv_cells S.kind kinds fun env ee s1 ic => ?_
  subst ee
  have I := inv_start (CX := CX) (E := E) S hr.hd e0 lv rv ic
  refine ⟨nl.keeps ic.toInCall.keep, codeAny_func (wpAny_mono (ht.run [] s1 _ H _ I hq) (fun fl s2 q2 => ?_) fun _ _ z => z)⟩
  cases fl with
  | next => obtain ⟨σ2, H2, J, q⟩ := q2; exact ⟨V.non, H2, J.os, J.bare, J.base, J.hok, rfl, q⟩
  | brk => obtain ⟨_, _, _, z⟩ := q2; exact False.elim z
  | cont => obtain ⟨_, _, _, z⟩ := q2; exact False.elim z
  | ret u => obtain ⟨v, σ2, H2, J, r2, q⟩ := q2; exact ⟨v, H2, J.os, J.bare, J.base, J.hok, r2, q⟩
end
section
variable {X : Cx} {W : WX} {e : Expr} {es : List Expr} {pos : Pos}
theorem runG {pins : List (Addr × Obj)} {σ : L2.St} {H : Hp} {s : Shared} {Q : VK} {us ds : List Value} {vs dvs : List V} {CX : CXT} {k : Nat} {f : Addr} {fd : FuncData} {ps : List Str} {sp : Sp} {E : XK} (F : FG X.prog X.w X.K X.mg X.base CX k f fd ps sp) (gd : X.A.guards = some []) (hr : Room k X.A) (hb : Binds X.K fd ps ds) (hd : Vals dvs ds)
    (hx : Passes CX X E) (I : Inv X pins σ H s) (r : Vals vs us) (h : sp (vs ++ dvs) H Q E) : wpAny (model X.prog X.w) X.A (call (.ref f) us) (EP X pins σ Q) X.xe s := by
  have rr := r.append hd
  have ll : (us ++ ds).length = ps.length := by rw [← rr.length]; exact F.len _ _ _ _ h
  refine wpAny_call (codeAny_mono (F.run X.A X.stack s H ⟨us, []⟩ (us ++ ds) (vs ++ dvs) Q E gd hr I.env0 (hb s us I.kIn ll) rr h) ?_)
  intro res s2 q
  match res with
  | .error er => exact hx pins σ H s er s2 I q
  | .ok (.ret u) => exact I.after q
  | .ok .next => exact False.elim q
  | .ok .brk => exact False.elim q
  | .ok .cont => exact False.elim q
theorem x_call {x : Str} {p : Pos} {k : Nat} {fa : Addr} {fd : FuncData} {ps : List Str} {n : Nat} {Fn : DF} {g : AF} (FO : FG X.prog X.w X.K X.mg X.base CX0 k fa fd ps (spF X.K n Fn)) (gd : X.A.guards = some []) (hr : Room k X.A) (hm : X.mg x = some (.ref fa)) (hk : PySem.W.keepIn X.K (.ref fa) = true)
    (hb : Binds X.K fd ps []) (ha : PXs X W (e :: es) g) (hg : Gl X x := by rfl) (hdb : (x == ("__debug__" : Str)) = false := by decide) (he : starEach (e :: es) X.env = (false, eval e X.env) :: starEach es X.env := by rfl) (hpl : (backTo pos (starEach es X.env)).any (·.1) = false := by rfl) :
    PX X W (.Call (.Name x p) (e :: es) [] pos) (fCall0 n Fn g) := by
  have z : PE X (.Call (.Name x p) (e :: es) [] pos) (tCall (spF X.K n Fn) [] E0 (tA X.K W g)) := by
    constructor
    intro pins s σ H Q I h
    refine wpAny_Call_Name_kw (ld_glob I hg hm ?_ hdb)
    exact PySem.W.callWith_K (h₀ := X.base) I.ok.mod.kin hk (thn (ha.run pos pins s σ H _ I h) fun us s1 ⟨vs, H1, I1, r, q⟩ => ⟨I1.kIn, runG FO gd hr hb .nil pass0 I1 r q⟩) he hpl
  exact pe_imp z fun _ _ _ w => tE_call0 w
/-- the body of a def that raises nothing -/
theorem fn1 {P : Program} {w : World} {K : PySem.W.Frag} {mg : Str → Option Value} {base : Heap} {x qual : Str} {st : Stmt} {fa : Addr} {fd : FuncData} {N ps : List Str} {k : Nat} {F : SF} {n : Nat} (Fu : Fun K x qual st fa fd) (S : FnScope N ps (defScope st)) (hn : ps.length = n)
    (h : ∀ (cdv : Value) (A : Around) (outer : List Env) (s : Shared) (H : Hp) (E : XK), (A.deeper (envOfC qual (defScope st) s.heap.objs.size fa cdv)).guards = some [] → Room k (A.deeper (envOfC qual (defScope st) s.heap.objs.size fa cdv)) →
      PYs (cxOf CX0 P w K mg base N qual (defScope st) fa cdv A outer s H E).nox W0 (defBody st) F) :
    FG P w K mg base CX0 (k + 1) fa fd ps (spF K n fun ds st => (bodyF N.length F ds st).ne) := by
  refine fg_of Fu S (fun vs H Q E h => ?_) (fun cdv A outer s H vs Q E gd hr hs => ?_)
  · obtain ⟨c, ds, _, _, r, e, _⟩ := h
    rw [r.length, e, hn]
  · obtain ⟨c, ds, rfl, o, r, e, P⟩ := hs
    refine ⟨_, PSs.nox (h cdv A outer s c.H E gd hr), c, _, rfl, o, SlR.start r, ?_⟩
    show PostS K W0 c _ (F _ c.st)
    unfold bodyF at P
    dsimp only at P
    cases q : F (ds.map some ++ List.replicate (N.length - ds.length) none) c.st with
    | stuck => rw [q] at P; exact P
    | err C d sl st => rw [q] at P; exact P.elim
    | ok fl st1 =>
      rw [q] at P
      intro c1 s1 o1 e1
      subst e1
      cases fl with
      | nx sl => exact fun σ' L' => P .non c1 s1 o1 rfl .non
      | rt d => exact fun v r => P v c1 s1 o1 rfl r
      | bk sl => exact P.elim
      | ct sl => exact P.elim
theorem FG.imp {P : Program} {w : World} {K : PySem.W.Frag} {mg : Str → Option Value} {base : Heap} {CX : CXT} {k : Nat} {fa : Addr} {fd : FuncData} {ps : List Str} {sp sp' : Sp} (h : FG P w K mg base CX k fa fd ps sp) (i : ∀ vs H Q E, sp' vs H Q E → sp vs H Q E) : FG P w K mg base CX k fa fd ps sp' :=
  ⟨fun vs H Q E z => h.len vs H Q E (i _ _ _ _ z), fun A outer s H args us vs Q E g r e b v z => h.run A outer s H args us vs Q E g r e b v (i _ _ _ _ z)⟩
/-- the promise by another function, which is the same where it tells something -/
theorem spF_imp {K : PySem.W.Frag} {n : Nat} {F F' : DF} (e : ∀ ds st, ds.length = n → F ds st = F' ds st ∨ F' ds st = .stuck) : ∀ vs H Q E, spF K n F' vs H Q E → spF K n F vs H Q E := fun vs H Q E ⟨c, ds, h1, h2, h3, h4, P⟩ => ⟨c, ds, h1, h2, h3, h4, by
  rcases e ds c.st h4 with z | z
  · rw [z]; exact P
  · rw [z] at P; exact P.elim⟩
end
end Rq
set_option Elab.async false
set_option linter.all false
set_option maxRecDepth 100000
set_option maxHeartbeats 4000000
/-! Rq, part 6: operators, items, built-in calls by values. -/
namespace Rq
open PySem PySem.Spec PyProof.Rows L2
section
variable {K : PySem.W.Frag} {W : WX} {c : Cf}
/-- a list, a tuple read -/
def asL (d : D) (st : ST) : Option (List D) := match d with
  | .lst xs => some xs
  | .lsr xs => some xs
  | .cel k => match st[k]? with
    | some (some (.lst xs)) => some xs
    | _ => none
  | _ => none
theorem asL_ok {v : V} {d : D} {xs : List D} (S : c.ok K) (r : c.DR K v d) (h : asL d c.st = some xs) : ∃ a vs, v = .ref a ∧ SqL K c.H a vs ∧ c.DRs K vs xs := by
  cases r with
  | lst h1 h2 => cases h; exact ⟨_, _, rfl, S.ex.l (sqOf h1), h2⟩
  | lsr h1 h2 => cases h; exact ⟨_, _, rfl, S.ex.l h1, h2⟩
  | cel h1 =>
    unfold asL at h
    dsimp only at h
    split at h
    · next ys hk =>
      cases h
      obtain ⟨a, z1, _, vs, z3, z4⟩ := S.cell _ _ hk
      have h1' := h1
      rw [z1] at h1; cases h1
      exact ⟨_, vs, rfl, sqOf z3, z4⟩
    · cases h
  | _ => cases h
/-- a list that stands by itself -/
def asLw (d : D) (st : ST) : Option (List D) := match d with
  | .lst xs => some xs
  | .cel k => match st[k]? with
    | some (some (.lst xs)) => some xs
    | _ => none
  | _ => none
theorem asLw_ok {v : V} {d : D} {xs : List D} (S : c.ok K) (r : c.DR K v d) (h : asLw d c.st = some xs) : ∃ a vs, v = .ref a ∧ c.H a = some (.lst vs) ∧ c.DRs K vs xs := by
  cases r with
  | lst h1 h2 => cases h; exact ⟨_, _, rfl, S.ex _ _ h1, h2⟩
  | cel h1 =>
    unfold asLw at h
    dsimp only at h
    split at h
    · next ys hk =>
      cases h
      obtain ⟨a, z1, _, vs, z3, z4⟩ := S.cell _ _ hk
      have h1' := h1
      rw [z1] at h1; cases h1
      exact ⟨_, vs, rfl, z3, z4⟩
    · cases h
  | _ => cases h
/-- a list or a tuple -/
def asSeq (d : D) (st : ST) : Option (List D) := match d with
  | .tup xs => some xs
  | d => asL d st
theorem asSeq_ok {v : V} {d : D} {xs : List D} (S : c.ok K) (r : c.DR K v d) (h : asSeq d c.st = some xs) : ∃ a vs, v = .ref a ∧ (SqL K c.H a vs ∨ SqT K c.H a vs) ∧ c.DRs K vs xs := by
  cases r with
  | tup h1 h2 => cases h; exact ⟨_, _, rfl, .inr (S.ex.t h1), h2⟩
  | lst h1 h2 => obtain ⟨a, vs, e, q, z⟩ := asL_ok S (.lst h1 h2) h; exact ⟨a, vs, e, .inl q, z⟩
  | lsr h1 h2 => obtain ⟨a, vs, e, q, z⟩ := asL_ok S (.lsr h1 h2) h; exact ⟨a, vs, e, .inl q, z⟩
  | cel h1 => obtain ⟨a, vs, e, q, z⟩ := asL_ok S (.cel h1) h; exact ⟨a, vs, e, .inl q, z⟩
  | _ => cases h
theorem szLe {n : Nat} (h : n ≤ 1000000) : n ≤ sizeLine := Nat.le_trans h (by decide)

/-! ### arithmetic -/
abbrev bigOk (i : Int) : Bool := decide (i.natAbs < 2 ^ 6000)
theorem bigOk.log {i : Int} (h : bigOk i = true) : i.natAbs.log2 < 6000 := PySem.Flt.log2_lt_of (by decide) (of_decide_eq_true h)
def zAdd : D → D → ST → Res D
  | .int i, .int j, st => .ok (.int (i + j)) st
  | .str x, .str y, st => if szOk (x.length + y.length) then .ok (.str (x ++ y)) st else .stuck
  | .tup xs, .tup ys, st => if szOk (xs.length + ys.length) then .ok (.tup (xs ++ ys)) st else .stuck
  | x, y, st => match asLw x st, asLw y st with
    | some xs, some ys => if szOk (xs.length + ys.length) then .ok (.lst (xs ++ ys)) st else .stuck
    | _, _ => .stuck
abbrev rAdd (K : PySem.W.Frag) : R2 := fun x y H Q => (rI0 (fun i j => .int (i + j)) x y H Q) ∨ ((∃ i j, x = .str i ∧ y = .str j ∧ i.length + j.length ≤ sizeLine ∧ Q (.str (i ++ j)) H) ∨ (rCatA K x y H Q ∨ rCat x y H Q))
theorem o_add {X : Cx} : OpR X (binaryOp .Add) (rAdd X.K) := op_add.or (op_add_str.or (op_catA.or op_cat))
theorem tupEmpty {vs : List V} {G : Hp} {as : List Addr} (h : DRs K G as vs []) : vs = [] := by cases h; rfl
theorem zAdd_ok : Op2 K W (rAdd K) zAdd := by
  intro c v w x y Q S r1 r2 P
  unfold zAdd at P
  split at P
  · cases r1; cases r2; exact .inl ⟨_, _, rfl, rfl, Post.ok S (.int _) P⟩
  · split at P
    · next h => cases r1; cases r2; exact .inr (.inl ⟨_, _, rfl, rfl, szOk.le h, Post.ok S (.str _) P⟩)
    · exact P.elim
  · split at P
    · next h =>
      cases r1 with
      | tup a1 b1 =>
        cases r2 with
        | tup a2 b2 =>
          refine .inr (.inr (.inl ⟨_, _, _, _, rfl, rfl, S.ex.t a1, S.ex.t a2, by rw [b1.length, b2.length]; exact szOk.le h, fun e => ?_, fun _ e => ?_, fun _ _ p hp => newTup S hp (b1.app b2) P⟩))
          · subst e; cases b1; exact Post.ok S (.tup a2 b2) P
          · subst e; cases b2; rw [List.append_nil] at P; exact Post.ok S (.tup a1 b1) P
    · exact P.elim
  · split at P
    · next q1 q2 =>
      split at P
      · next h =>
        obtain ⟨a1, vs1, rfl, h1, b1⟩ := asLw_ok S r1 q1
        obtain ⟨a2, vs2, rfl, h2, b2⟩ := asLw_ok S r2 q2
        exact .inr (.inr (.inr ⟨_, _, _, _, rfl, rfl, h1, h2, by rw [b1.length, b2.length]; exact szOk.le h, fun p hp => newTree S hp (b1.app b2) P⟩))
      · exact P.elim
    · exact P.elim
def zSub : D → D → ST → Res D := zI (fun _ _ => true) fun i j => .int (i - j)
theorem zSub_ok : Op2 K W (rI0 fun i j => .int (i - j)) zSub := zI0_ok fun _ i j => .int _
def zMul : D → D → ST → Res D
  | .int i, .int j, st => if bigOk i && bigOk j then .ok (.int (i * j)) st else .stuck
  | x, .int k, st => match asLw x st with
    | some xs => if decide (-1000000 ≤ k ∧ k ≤ 1000000) && szOk (xs.length * k.toNat) then .ok (.lst (List.replicate k.toNat xs).flatten) st else .stuck
    | _ => .stuck
  | _, _, _ => .stuck
abbrev rMul : R2 := fun x y H Q => (rI CMulW (fun i j => .int (i * j)) x y H Q) ∨ rRep x y H Q
theorem o_mul {X : Cx} : OpR X (binaryOp .Mult) rMul := op_mulW.or op_rep
theorem DRs.rep {G : Hp} {as : List Addr} {vs : List V} {xs : List D} (r : DRs K G as vs xs) : ∀ n, DRs K G as (List.replicate n vs).flatten (List.replicate n xs).flatten
  | 0 => .nil
  | n + 1 => by rw [List.replicate_succ, List.replicate_succ, List.flatten_cons, List.flatten_cons]; exact r.app (DRs.rep r n)
theorem zMul_ok : Op2 K W rMul zMul := by
  intro c v w x y Q S r1 r2 P
  unfold zMul at P
  split at P
  · split at P
    · next h =>
      rw [Bool.and_eq_true] at h
      have l1 := bigOk.log h.1
      have l2 := bigOk.log h.2
      cases r1; cases r2
      exact .inl ⟨_, _, rfl, rfl, by unfold CMulW; omega, Post.ok S (.int _) P⟩
    · exact P.elim
  · split at P
    · next q1 =>
      split at P
      · next h =>
        rw [Bool.and_eq_true, decide_eq_true_eq] at h
        obtain ⟨a1, vs1, rfl, h1, b1⟩ := asLw_ok S r1 q1
        cases r2
        exact .inr ⟨_, _, _, rfl, rfl, h1, by omega, by omega, by rw [b1.length]; exact szOk.le h.2, fun p hp => newTree S hp (b1.rep _) P⟩
      · exact P.elim
    · exact P.elim
  · exact P.elim
def zDiv : D → D → ST → Res D := zI (fun _ j => decide (0 < j) && bigOk j) fun i j => .int (i / j)
theorem zDiv_ok : Op2 K W (rI CDivW fun i j => .int (i / j)) zDiv := zI_ok (fun _ i j => .int _) fun i j h => by
  rw [Bool.and_eq_true, decide_eq_true_eq] at h
  exact ⟨h.1, Nat.lt_of_lt_of_le (bigOk.log h.2) (by decide)⟩
def zMod : D → D → ST → Res D := zI (fun _ j => decide (0 < j)) fun i j => .int (i % j)
theorem zMod_ok : Op2 K W (rI (fun _ j => 0 < j) fun i j => .int (i % j)) zMod := zI_ok (fun _ i j => .int _) fun i j h => of_decide_eq_true h
def CPowW (i j : Int) : Prop := 0 ≤ j ∧ (Builtin.Int.intBits i : Int) * j ≤ 2 ^ 27
theorem op_powW {X : Cx} : OpR X (binaryOp .Pow) (rI CPowW fun i j => .int (i ^ j.toNat)) := opI fun _ _ _ _ _ _ _ hc q => pow_int hc.1 hc.2 q
def zPow : D → D → ST → Res D := zI (fun i j => decide (0 ≤ j ∧ j ≤ 1000) && bigOk i) fun i j => .int (i ^ j.toNat)
theorem zPow_ok : Op2 K W (rI CPowW fun i j => .int (i ^ j.toNat)) zPow := zI_ok (fun _ i j => .int _) fun i j h => by
  rw [Bool.and_eq_true, decide_eq_true_eq] at h
  refine ⟨h.1.1, ?_⟩
  have l := bigOk.log h.2
  have b : Builtin.Int.intBits i ≤ 6000 := by
    unfold Builtin.Int.intBits
    split <;> omega
  have b' : (Builtin.Int.intBits i : Int) ≤ 6000 := by exact_mod_cast b
  have := Int.mul_le_mul b' h.1.2 h.1.1 (by decide)
  exact Int.le_trans this (by decide)
def zNeg : D → ST → Res D
  | .int i, st => .ok (.int (-i)) st
  | _, _ => .stuck
theorem zNeg_ok : Op1 K W (rU fun i => .int (-i)) zNeg := by
  intro c v x Q S r P
  unfold zNeg at P
  split at P
  · cases r; exact ⟨_, rfl, Post.ok S (.int _) P⟩
  · exact P.elim
section
variable {X : Cx} {a b : Expr} {f g : EF} {pos : Pos}
theorem x_add (ha : PX X W a f) (hb : PX X W b g) : PX X W (.BinOp a .Add b pos) (f2 zAdd f g) := x_op o_add zAdd_ok ha hb
theorem x_sub (ha : PX X W a f) (hb : PX X W b g) : PX X W (.BinOp a .Sub b pos) (f2 zSub f g) := x_op op_sub zSub_ok ha hb
theorem x_mul (ha : PX X W a f) (hb : PX X W b g) : PX X W (.BinOp a .Mult b pos) (f2 zMul f g) := x_op o_mul zMul_ok ha hb
theorem x_div (ha : PX X W a f) (hb : PX X W b g) : PX X W (.BinOp a .FloorDiv b pos) (f2 zDiv f g) := x_op op_fdivW zDiv_ok ha hb
theorem x_mod (ha : PX X W a f) (hb : PX X W b g) : PX X W (.BinOp a .Mod b pos) (f2 zMod f g) := x_op op_mod zMod_ok ha hb
theorem x_pow (ha : PX X W a f) (hb : PX X W b g) : PX X W (.BinOp a .Pow b pos) (f2 zPow f g) := x_op op_powW zPow_ok ha hb
theorem x_neg (ha : PX X W a f) : PX X W (.UnaryOp .USub a pos) (f1 zNeg f) := x_un un_neg zNeg_ok ha
end
/-! ### order of ints -/
def zLt : D → D → ST → Res D := zI (fun _ _ => true) fun i j => .bl (decide (i < j))
def zLe : D → D → ST → Res D := zI (fun _ _ => true) fun i j => .bl (decide (i ≤ j))
def zGt : D → D → ST → Res D := zI (fun _ _ => true) fun i j => .bl (decide (j < i))
def zGe : D → D → ST → Res D := zI (fun _ _ => true) fun i j => .bl (decide (j ≤ i))
section
variable {X : Cx} {a b cc : Expr} {f g h : EF} {pos : Pos}
theorem x_lt (ha : PX X W a f) (hb : PX X W b g) : PX X W (.Compare a [.Lt] [b] pos) (f2 zLt f g) := x_cmp op_lt (zI0_ok fun _ i j => .bl _) ha hb (nomark _)
theorem x_le (ha : PX X W a f) (hb : PX X W b g) : PX X W (.Compare a [.LtE] [b] pos) (f2 zLe f g) := x_cmp op_le (zI0_ok fun _ i j => .bl _) ha hb (nomark _)
theorem x_gt (ha : PX X W a f) (hb : PX X W b g) : PX X W (.Compare a [.Gt] [b] pos) (f2 zGt f g) := x_cmp op_gt (zI0_ok fun _ i j => .bl _) ha hb (nomark _)
theorem x_ge (ha : PX X W a f) (hb : PX X W b g) : PX X W (.Compare a [.GtE] [b] pos) (f2 zGe f g) := x_cmp op_ge (zI0_ok fun _ i j => .bl _) ha hb (nomark _)
/-- a op b op' c, the middle asked once -/
def fChain (z z' : D → D → ST → Res D) (f g h : EF) : EF := fun sl st => (f sl st).bind fun x st1 => (g sl st1).bind fun y st2 => (z x y st2).bind fun b st3 => match b with
  | .bl true => (h sl st3).bind fun w st4 => z' y w st4
  | .bl false => .ok (.bl false) st3
  | _ => .stuck
theorem x_chain {op op' : CmpOp} {r r' : R2} {z z' : D → D → ST → Res D} (ho : OpR X (compareOp op) r) (ho' : OpR X (compareOp op') r') (o : Op2 X.K W r z) (o' : Op2 X.K W r' z') (ha : PX X W a f) (hb : PX X W b g) (hc : PX X W cc h)
    (hm : lastMarks [op, op'] [b, cc] = false := by with_unfolding_all rfl) : PX X W (.Compare a [op, op'] [b, cc] pos) (fChain z z' f g h) := pe_imp (pe_chain ho ho' ha hb hc hm) fun σ H Q w => by
  obtain ⟨c, sl, rfl, S, L, P⟩ := w
  refine ⟨c, sl, rfl, S, L, Post.bind P fun v d c1 s1 o1 r1 P1 => ?_⟩
  refine ⟨c1, sl, rfl, o1, s1.sl L, Post.bind P1 fun w' d' c2 s2 o2 r2 P2 => ?_⟩
  refine o c2 v w' d d' _ o2 (s2.dr r1) r2 (Post.bind P2 fun u e c3 s3 o3 r3 P3 => ?_)
  cases e with
  | bl k =>
    cases r3
    refine ⟨k, rfl, ?_⟩
    cases k with
    | true =>
      rw [if_pos rfl]
      exact ⟨c3, sl, rfl, o3, s3.sl (s2.sl (s1.sl L)), Post.bind P3 fun u e c4 s4 o4 r4 P4 => o' c4 _ _ _ _ Q o4 (s4.dr (s3.dr r2)) r4 P4⟩
    | false =>
      rw [if_neg Bool.false_ne_true]
      exact Post.ok o3 (.bl _) P3
  | _ => exact P3.elim
/-! ### and, or, not of bools -/
def fAnd (f g : EF) : EF := fTest f fun b sl st => if b then g sl st else .ok (.bl false) st
def fOr (f g : EF) : EF := fTest f fun b sl st => if b then .ok (.bl true) st else g sl st
def zNot : D → ST → Res D
  | .bl b, st => .ok (.bl (!b)) st
  | _, _ => .stuck
theorem x_one {op} (ha : PX X W a f) : PX X W (.BoolOp op [a] pos) f := pe_one ha
theorem x_and {rest : List Expr} (ha : PX X W a f) (hb : PX X W (.BoolOp .And (b :: rest) pos) g) : PX X W (.BoolOp .And (a :: b :: rest) pos) (fAnd f g) := pe_imp (pe_and ha hb) fun σ H Q w => by
  obtain ⟨c, sl, rfl, S, L, P⟩ := w
  refine ⟨c, sl, rfl, S, L, Post.bind P fun v d c1 s1 o1 r1 P1 => ?_⟩
  cases d with
  | bl k =>
    cases r1
    refine ⟨k, rfl, ?_⟩
    cases k with
    | true => rw [if_pos rfl]; exact ⟨c1, sl, rfl, o1, s1.sl L, P1⟩
    | false => rw [if_neg Bool.false_ne_true]; exact Post.ok o1 (.bl _) P1
  | _ => exact P1.elim
theorem x_or {rest : List Expr} (ha : PX X W a f) (hb : PX X W (.BoolOp .Or (b :: rest) pos) g) : PX X W (.BoolOp .Or (a :: b :: rest) pos) (fOr f g) := pe_imp (pe_or ha hb) fun σ H Q w => by
  obtain ⟨c, sl, rfl, S, L, P⟩ := w
  refine ⟨c, sl, rfl, S, L, Post.bind P fun v d c1 s1 o1 r1 P1 => ?_⟩
  cases d with
  | bl k =>
    cases r1
    refine ⟨k, rfl, ?_⟩
    cases k with
    | true => rw [if_pos rfl]; exact Post.ok o1 (.bl _) P1
    | false => rw [if_neg Bool.false_ne_true]; exact ⟨c1, sl, rfl, o1, s1.sl L, P1⟩
  | _ => exact P1.elim
theorem x_not (ha : PX X W a f) : PX X W (.UnaryOp .Not a pos) (f1 zNot f) := pe_imp (pe_not ha) fun σ H Q w => by
  obtain ⟨c, sl, rfl, S, L, P⟩ := w
  refine ⟨c, sl, rfl, S, L, Post.bind P fun v d c1 s1 o1 r1 P1 => ?_⟩
  cases d with
  | bl k => cases r1; exact ⟨k, rfl, Post.ok o1 (.bl _) P1⟩
  | _ => exact P1.elim
def fIfE (c : EF) (f g : EF) : EF := fTest c fun b => if b then f else g
theorem x_if (hc : PX X W cc h) (ha : PX X W a f) (hb : PX X W b g) (he : ∀ whole, isTrue cc X.env whole = (do let v ← whole; standAt cc.pos; holding [v] (truthy v)) := by intro _; rfl) : PX X W (.IfExp cc a b pos) (fIfE h f g) :=
  pe_imp (pe_ifExp (pt_val hc he) ha hb) fun σ H Q w => by
  obtain ⟨c, sl, rfl, S, L, P⟩ := w
  refine ⟨c, sl, rfl, S, L, Post.bind P fun v d c1 s1 o1 r1 P1 => ?_⟩
  cases d with
  | bl k =>
    cases r1
    refine ⟨k, rfl, ?_⟩
    cases k with
    | true => exact ⟨c1, sl, rfl, o1, s1.sl L, P1⟩
    | false => exact ⟨c1, sl, rfl, o1, s1.sl L, P1⟩
  | _ => exact P1.elim
end
end
end Rq
set_option Elab.async false
set_option linter.all false
set_option maxRecDepth 100000
set_option maxHeartbeats 4000000
/-! Rq, part 7: items, slices, built-in calls, methods of lists, targets that are items, tuples of targets. -/
namespace Rq
open PySem PySem.Spec PyProof.Rows L2
theorem DRs.atI {K : PySem.W.Frag} {G : Hp} {as : List Addr} {vs : List V} {xs : List D} {i : Int} {d : D} (r : DRs K G as vs xs) (h : L2.atI xs i = some d) : ∃ v, L2.atI vs i = some v ∧ DR K G as v d := by
  unfold L2.atI at h ⊢
  rw [r.length]
  cases q : ixN xs.length i with
  | none => rw [q] at h; cases h
  | some j => rw [q] at h; exact r.get j d h
theorem DRs.take {K : PySem.W.Frag} {G : Hp} {as : List Addr} {vs : List V} {xs : List D} (r : DRs K G as vs xs) (n : Nat) : DRs K G as (vs.take n) (xs.take n) := by
  induction vs generalizing xs n with
  | nil => cases r; simp; exact .nil
  | cons v vs ih =>
    cases r with
    | cons a b =>
      cases n with
      | zero => exact .nil
      | succ n => exact .cons a (ih b n)
theorem DRs.drop {K : PySem.W.Frag} {G : Hp} {as : List Addr} {vs : List V} {xs : List D} (r : DRs K G as vs xs) (n : Nat) : DRs K G as (vs.drop n) (xs.drop n) := by
  induction vs generalizing xs n with
  | nil => cases r; simp; exact .nil
  | cons v vs ih =>
    cases r with
    | cons a b =>
      cases n with
      | zero => exact .cons a b
      | succ n => exact ih b n
theorem DRs.dropLast {K : PySem.W.Frag} {G : Hp} {as : List Addr} {vs : List V} {xs : List D} (r : DRs K G as vs xs) : DRs K G as vs.dropLast xs.dropLast := by
  rw [List.dropLast_eq_take, List.dropLast_eq_take, r.length]; exact r.take _
theorem DRs.erase {K : PySem.W.Frag} {G : Hp} {as : List Addr} {vs : List V} {xs : List D} (r : DRs K G as vs xs) (k : Nat) : DRs K G as (vs.eraseIdx k) (xs.eraseIdx k) := by
  rw [List.eraseIdx_eq_take_drop_succ, List.eraseIdx_eq_take_drop_succ]
  exact (r.take _).app (r.drop _)
/-- the cut of a list of trees -/
def cutD (xs : List D) (lo hi : Option Int) : List D := (xs.drop (HT.sIx xs.length 0 lo)).take (HT.sIx xs.length xs.length hi - HT.sIx xs.length 0 lo)
theorem DRs.cut {K : PySem.W.Frag} {G : Hp} {as : List Addr} {vs : List V} {xs : List D} (r : DRs K G as vs xs) (lo hi : Option Int) : DRs K G as (cutV vs lo hi) (cutD xs lo hi) := by
  unfold cutV cutD
  rw [r.length]
  exact (r.drop _).take _
section
variable {K : PySem.W.Frag} {W : WX} {c : Cf}
/-! ### items -/
def zIx (x y : D) (st : ST) : Res D := match x, y with
  | .str z, .int i => if szOk z.length then (match L2.atI z.cps.toList i with
    | some n => .ok (.str ⟨#[n]⟩) st
    | none => .stuck) else .stuck
  | x, .int i => match asSeq x st with
    | some xs => (match L2.atI xs i with
      | some d => .ok d st
      | none => .stuck)
    | none => .stuck
  | _, _ => .stuck
theorem zIx_ok : Op2 K W (rIx K) zIx := by
  intro c v w x y Q S r1 r2 P
  unfold zIx at P
  split at P
  · next z i =>
    split at P
    · next h =>
      split at P
      · next n hn => cases r1; cases r2; exact .inr (.inr ⟨_, _, _, rfl, rfl, szOk.le h, hn, Post.ok S (.str _) P⟩)
      · exact P.elim
    · exact P.elim
  · split at P
    · next xs hx =>
      split at P
      · next d hd =>
        obtain ⟨a, vs, rfl, h1, h2⟩ := asSeq_ok S r1 hx
        obtain ⟨u, h3, h4⟩ := DRs.atI h2 hd
        cases r2
        rcases h1 with h1 | h1
        · exact .inl ⟨_, _, _, _, rfl, rfl, h1, h3, Post.ok S h4 P⟩
        · exact .inr (.inl ⟨_, _, _, _, rfl, rfl, h1, h3, Post.ok S h4 P⟩)
      · exact P.elim
    · exact P.elim
  · exact P.elim
section
variable {X : Cx} {a b e : Expr} {es : List Expr} {f g h : EF} {pos : Pos}
theorem x_ix (ha : PX X W a f) (hb : PX X W b g) (hs : PlainIx b := by intro _ _; rfl) : PX X W (.Subscript a b pos) (f2 zIx f g) := pe_imp (pe_ix ix_seq ha hb hs) fun _ _ _ w => tE_f2 zIx_ok w
/-! ### slices -/
abbrev OF := SL → ST → Res (Option Int)
def tOI (K : PySem.W.Frag) (W : WX) (f : OF) : TO := fun σ H Q => ∃ c sl, c.H = H ∧ c.ok K ∧ c.SlR K σ sl ∧ Post K W c (fun _ (o o' : Option Int) => o = o') Q (f sl c.st)
def PXO (X : Cx) (W : WX) (e : Option Expr) (f : OF) : Prop := PO X e (tOI X.K W f)
def oNone : OF := fun _ st => .ok none st
def oSome (f : EF) : OF := fun sl st => (f sl st).bind fun d st1 => match d with
  | .int i => .ok (some i) st1
  | _ => .stuck
theorem po_imp {e : Option Expr} {t t' : TO} (p : PO X e t) (i : ∀ σ H Q, t' σ H Q → t σ H Q) : PO X e t' := ⟨fun pins s σ H Q I w => p.run pins s σ H Q I (i σ H Q w)⟩
theorem xo_none : PXO X W none oNone := po_imp po_none fun σ H Q w => by
  obtain ⟨c, sl, rfl, S, L, P⟩ := w
  exact P none c (Step.refl _) S rfl rfl
theorem xo_some (h : PX X W e f) : PXO X W (some e) (oSome f) := po_imp (po_some h) fun σ H Q w => by
  obtain ⟨c, sl, rfl, S, L, P⟩ := w
  refine ⟨c, sl, rfl, S, L, Post.bind P fun v d c1 s1 o1 r1 P1 => ?_⟩
  cases d with
  | int i => cases r1; exact ⟨i, rfl, P1 _ c1 (Step.refl _) o1 rfl rfl⟩
  | _ => exact P1.elim
def zSl (x : D) (lo hi : Option Int) (st : ST) : Res D := match x with
  | .str z => if szOk z.length then .ok (.str (cutS z lo hi)) st else .stuck
  | .tup xs => .ok (.tup (cutD xs lo hi)) st
  | x => match asL x st with
    | some xs => .ok (.lst (cutD xs lo hi)) st
    | none => .stuck
abbrev rSl (K : PySem.W.Frag) : V → Option Int → Option Int → Hp → VK → Prop := fun x lo hi H Q => rSlS x lo hi H Q ∨ rSlA K x lo hi H Q ∨ rSlL K x lo hi H Q
theorem SlR_or {r r' : V → Option Int → Option Int → Hp → VK → Prop} (h1 : L2.SlR X r) (h2 : L2.SlR X r') : L2.SlR X (fun x lo hi H Q => r x lo hi H Q ∨ r' x lo hi H Q) := by
  intro pins s σ H x v vl vu lo hi sl Q I rx hs pl pu q
  rcases q with q | q
  · exact h1 pins s σ H x v vl vu lo hi sl Q I rx hs pl pu q
  · exact h2 pins s σ H x v vl vu lo hi sl Q I rx hs pl pu q
theorem cut_all {xs : List D} {lo hi : Option Int} (h : HT.sIx xs.length 0 lo = 0 ∧ HT.sIx xs.length xs.length hi = xs.length) : cutD xs lo hi = xs := by
  unfold cutD
  rw [h.1, h.2]; simp
def fSl (f : EF) (l u : OF) : EF := fun sl st => (f sl st).bind fun x st1 => (l sl st1).bind fun lo st2 => (u sl st2).bind fun hi st3 => zSl x lo hi st3
theorem x_sl {l u : Option Expr} {lf uf : OF} {p2 : Pos} (ha : PX X W a f) (hl : PXO X W l lf) (hu : PXO X W u uf) : PX X W (.Subscript a (.Slice l u none p2) pos) (fSl f lf uf) :=
  pe_imp (pe_slice (SlR_or sl_str (SlR_or sl_tupA sl_list)) ha hl hu) fun σ H Q w => by
  obtain ⟨c, sl, rfl, S, L, P⟩ := w
  refine ⟨c, sl, rfl, S, L, Post.bind P fun v x c1 s1 o1 r1 P1 => ?_⟩
  refine ⟨c1, sl, rfl, o1, s1.sl L, Post.bind P1 fun lo lo' c2 s2 o2 e2 P2 => ?_⟩
  subst e2
  refine ⟨c2, sl, rfl, o2, s2.sl (s1.sl L), Post.bind P2 fun hi hi' c3 s3 o3 e3 P3 => ?_⟩
  subst e3
  have r3 := s3.dr (s2.dr r1)
  unfold zSl at P3
  split at P3
  · split at P3
    · next h => cases r3; exact .inl ⟨_, rfl, szOk.le h, Post.ok o3 (.str _) P3⟩
    · exact P3.elim
  · next xs =>
    cases r3 with
    | tup h1 h2 =>
      refine .inr (.inl ⟨_, _, rfl, o3.ex.t h1, fun e => ?_, fun _ p hp => newTup o3 hp (DRs.cut h2 _ _) P3⟩)
      rw [h2.length] at e
      rw [cut_all e] at P3
      exact Post.ok o3 (.tup h1 h2) P3
  · split at P3
    · next xs hx =>
      obtain ⟨a, vs, rfl, h1, h2⟩ := asL_ok o3 r3 hx
      exact .inr (.inr ⟨_, _, rfl, h1, fun p hp => newTree o3 hp (DRs.cut h2 _ _) P3⟩)
    · exact P3.elim
/-! ### calls of what is built in, by values -/
def OpA (K : PySem.W.Frag) (W : WX) (r : List V → Hp → VK → Prop) (z : List D → ST → Res D) : Prop := ∀ (c : Cf) vs ds Q, c.ok K → c.DRs K vs ds → Post K W c (RlD K) Q (z ds c.st) → r vs c.H Q
def fA (z : List D → ST → Res D) (g : AF) : EF := fun sl st => (g sl st).bind fun ds st1 => z ds st1
theorem tE_fA {r : List V → Hp → VK → Prop} {z : List D → ST → Res D} {g : AF} (o : OpA K W r z) {σ : L2.St} {H : Hp} {Q : VK} (w : tE K W (fA z g) σ H Q) : tCB r (tA K W g) σ H Q := by
  obtain ⟨c, sl, rfl, S, L, P⟩ := w
  exact ⟨c, sl, rfl, S, L, Post.bind P fun vs ds c1 s1 o1 r1 P1 => o c1 vs ds Q o1 r1 P1⟩
theorem x_bltn {x : Str} {p : Pos} {id : String} {r : List V → Hp → VK → Prop} {z : List D → ST → Res D} {g : AF} (hc : CallR X (.builtin id) r) (o : OpA X.K W r z) (hm : X.mg x = none) (hv : bootBuiltins x = some (.builtin id)) (ha : PXs X W (e :: es) g) (hg : Gl X x := by rfl) (hn : x ≠ "__name__" := by decide)
    (hdb : (x == ("__debug__" : Str)) = false := by decide) (he : starEach (e :: es) X.env = (false, eval e X.env) :: starEach es X.env := by rfl) (hpl : (backTo pos (starEach es X.env)).any (·.1) = false := by rfl) : PX X W (.Call (.Name x p) (e :: es) [] pos) (fA z g) :=
  pe_imp (pe_callB hc hg hm hv ha hn hdb he hpl) fun _ _ _ w => tE_fA o w
theorem x_type {x : Str} {p : Pos} {T : String} {r : List V → Hp → VK → Prop} {z : List D → ST → Res D} {g : AF} (hc : CallR X (.type T) r) (o : OpA X.K W r z) (hm : X.mg x = none) (hv : bootBuiltins x = some (.type T)) (ha : PXs X W (e :: es) g) (hg : Gl X x := by rfl) (hn : x ≠ "__name__" := by decide)
    (hdb : (x == ("__debug__" : Str)) = false := by decide) (he : starEach (e :: es) X.env = (false, eval e X.env) :: starEach es X.env := by rfl) (hpl : (backTo pos (starEach es X.env)).any (·.1) = false := by rfl) : PX X W (.Call (.Name x p) (e :: es) [] pos) (fA z g) :=
  pe_imp (pe_callTy hc hg hm hv ha hn hdb he hpl) fun _ _ _ w => tE_fA o w
theorem CallR.or {fv : Value} {r r' : List V → Hp → VK → Prop} (h : CallR X fv r) (h' : CallR X fv r') : CallR X fv (fun xs H Q => r xs H Q ∨ r' xs H Q) := by
  intro pins s σ H xs us Q I rx q
  rcases q with q | q
  · exact h pins s σ H xs us Q I rx q
  · exact h' pins s σ H xs us Q I rx q
def zLen : List D → ST → Res D
  | [.str z], st => if szOk z.length then .ok (.int z.length) st else .stuck
  | [x], st => match asSeq x st with
    | some xs => .ok (.int xs.length) st
    | none => .stuck
  | _, _ => .stuck
theorem zLen_ok : OpA K W (fun xs H Q => ∃ x n, xs = [x] ∧ LenV K x H n ∧ Q (.int n) H) zLen := by
  intro c vs ds Q S r P
  unfold zLen at P
  split at P
  · split at P
    · next h =>
      cases r with
      | cons a b => cases a; cases b; exact ⟨_, _, rfl, ⟨szOk.le h, rfl⟩, Post.ok S (.int _) P⟩
    · exact P.elim
  · split at P
    · next xs hx =>
      cases r with
      | cons a b =>
        cases b
        obtain ⟨ad, us, rfl, h1, h2⟩ := asSeq_ok S a hx
        rw [← DRs.length h2] at P
        refine ⟨_, us.length, rfl, ?_, Post.ok S (.int _) P⟩
        rcases h1 with h1 | h1
        · exact .inl ⟨_, h1, rfl⟩
        · exact .inr ⟨_, h1, rfl⟩
    · exact P.elim
  · exact P.elim
def zInt : List D → ST → Res D
  | [.int i], st => .ok (.int i) st
  | [.bl b], st => .ok (.int (if b then 1 else 0)) st
  | _, _ => .stuck
theorem zInt_ok : OpA K W (fun xs H Q => (∃ i, xs = [.int i] ∧ Q (.int i) H) ∨ ∃ k, xs = [.bl k] ∧ Q (.int (if k then 1 else 0)) H) zInt := by
  intro c vs ds Q S r P
  unfold zInt at P
  split at P
  · cases r with
    | cons a b => cases a; cases b; exact .inl ⟨_, rfl, Post.ok S (.int _) P⟩
  · cases r with
    | cons a b => cases a; cases b; exact .inr ⟨_, rfl, Post.ok S (.int _) P⟩
  · exact P.elim
def zAbs : List D → ST → Res D
  | [.int i], st => .ok (.int (if i < 0 then -i else i)) st
  | _, _ => .stuck
theorem zAbs_ok : OpA K W (fun xs H Q => ∃ i, xs = [.int i] ∧ Q (.int (if i < 0 then -i else i)) H) zAbs := by
  intro c vs ds Q S r P
  unfold zAbs at P
  split at P
  · cases r with
    | cons a b => cases a; cases b; exact ⟨_, rfl, Post.ok S (.int _) P⟩
  · exact P.elim
def zMax2 : List D → ST → Res D
  | [.int i, .int j], st => .ok (.int (if j > i then j else i)) st
  | _, _ => .stuck
def zMin2 : List D → ST → Res D
  | [.int i, .int j], st => .ok (.int (if j < i then j else i)) st
  | _, _ => .stuck
theorem zMax2_ok : OpA K W (fun xs H Q => ∃ i j, xs = [.int i, .int j] ∧ Q (.int (if j > i then j else i)) H) zMax2 := by
  intro c vs ds Q S r P
  unfold zMax2 at P
  split at P
  · cases r with
    | cons a b =>
      cases a
      cases b with
      | cons a b => cases a; cases b; exact ⟨_, _, rfl, Post.ok S (.int _) P⟩
  · exact P.elim
theorem zMin2_ok : OpA K W (fun xs H Q => ∃ i j, xs = [.int i, .int j] ∧ Q (.int (if j < i then j else i)) H) zMin2 := by
  intro c vs ds Q S r P
  unfold zMin2 at P
  split at P
  · cases r with
    | cons a b =>
      cases a
      cases b with
      | cons a b => cases a; cases b; exact ⟨_, _, rfl, Post.ok S (.int _) P⟩
  · exact P.elim
/-- the intsOf, bools, texts of a list -/
def intsOf : List D → Option (List Int)
  | [] => some []
  | .int i :: r => (intsOf r).map (i :: ·)
  | _ :: _ => none
def bools : List D → Option (List Bool)
  | [] => some []
  | .bl i :: r => (bools r).map (i :: ·)
  | _ :: _ => none
def texts : List D → Option (List Str)
  | [] => some []
  | .str i :: r => (texts r).map (i :: ·)
  | _ :: _ => none
theorem intsOf_ok : ∀ {xs : List D} {ns : List Int} {vs : List V}, intsOf xs = some ns → c.DRs K vs xs → vs = ns.map V.int ∧ xs = ns.map D.int
  | [], ns, vs, h, r => by cases h; cases r; exact ⟨rfl, rfl⟩
  | .int i :: xs, ns, vs, h, r => by
    unfold intsOf at h
    obtain ⟨ms, h1, rfl⟩ := Option.map_eq_some_iff.mp h
    cases r with
    | cons a b =>
      cases a
      obtain ⟨e1, e2⟩ := intsOf_ok h1 b
      subst e1; subst e2
      exact ⟨rfl, rfl⟩
  | .non :: _, _, _, h, _ | .bl _ :: _, _, _, h, _ | .str _ :: _, _, _, h, _ | .lst _ :: _, _, _, h, _ | .lsr _ :: _, _, _, h, _ | .tup _ :: _, _, _, h, _ | .dct _ :: _, _, _, h, _ | .ins _ _ :: _, _, _, h, _ | .cel _ :: _, _, _, h, _ | .raw _ :: _, _, _, h, _ => by cases h
theorem bools_ok : ∀ {xs : List D} {ns : List Bool} {vs : List V}, bools xs = some ns → c.DRs K vs xs → vs = ns.map V.bl ∧ xs = ns.map D.bl
  | [], ns, vs, h, r => by cases h; cases r; exact ⟨rfl, rfl⟩
  | .bl i :: xs, ns, vs, h, r => by
    unfold bools at h
    obtain ⟨ms, h1, rfl⟩ := Option.map_eq_some_iff.mp h
    cases r with
    | cons a b =>
      cases a
      obtain ⟨e1, e2⟩ := bools_ok h1 b
      subst e1; subst e2
      exact ⟨rfl, rfl⟩
  | .non :: _, _, _, h, _ | .int _ :: _, _, _, h, _ | .str _ :: _, _, _, h, _ | .lst _ :: _, _, _, h, _ | .lsr _ :: _, _, _, h, _ | .tup _ :: _, _, _, h, _ | .dct _ :: _, _, _, h, _ | .ins _ _ :: _, _, _, h, _ | .cel _ :: _, _, _, h, _ | .raw _ :: _, _, _, h, _ => by cases h
theorem texts_ok : ∀ {xs : List D} {ns : List Str} {vs : List V}, texts xs = some ns → c.DRs K vs xs → vs = ns.map V.str ∧ xs = ns.map D.str
  | [], ns, vs, h, r => by cases h; cases r; exact ⟨rfl, rfl⟩
  | .str i :: xs, ns, vs, h, r => by
    unfold texts at h
    obtain ⟨ms, h1, rfl⟩ := Option.map_eq_some_iff.mp h
    cases r with
    | cons a b =>
      cases a
      obtain ⟨e1, e2⟩ := texts_ok h1 b
      subst e1; subst e2
      exact ⟨rfl, rfl⟩
  | .non :: _, _, _, h, _ | .int _ :: _, _, _, h, _ | .bl _ :: _, _, _, h, _ | .lst _ :: _, _, _, h, _ | .lsr _ :: _, _, _, h, _ | .tup _ :: _, _, _, h, _ | .dct _ :: _, _, _, h, _ | .ins _ _ :: _, _, _, h, _ | .cel _ :: _, _, _, h, _ | .raw _ :: _, _, _, h, _ => by cases h
theorem intsOf_map (ns : List Int) : intsOf (ns.map D.int) = some ns := by induction ns with
  | nil => rfl
  | cons n ns ih => simp [intsOf, ih]
theorem bools_map (ns : List Bool) : bools (ns.map D.bl) = some ns := by induction ns with
  | nil => rfl
  | cons n ns ih => simp [bools, ih]
theorem texts_map (ns : List Str) : texts (ns.map D.str) = some ns := by induction ns with
  | nil => rfl
  | cons n ns ih => simp [texts, ih]
def zOfL {α : Type} (p : List D → Option α) (o : α → D) : List D → ST → Res D
  | [x], st => match asL x st with
    | some xs => (match p xs with
      | some ns => .ok (o ns) st
      | none => .stuck)
    | none => .stuck
  | _, _ => .stuck
def zSum : List D → ST → Res D := zOfL intsOf fun ns => .int ns.sum
def zAll : List D → ST → Res D := zOfL bools fun ns => .bl (ns.all id)
def zAny : List D → ST → Res D := zOfL bools fun ns => .bl (ns.any id)
theorem zOfL_inv {α : Type} {p : List D → Option α} {o : α → D} {ds : List D} {vs : List V} {Q : VK} (S : c.ok K) (r : c.DRs K vs ds) (P : Post K W c (RlD K) Q (zOfL p o ds c.st)) : ∃ a us xs ns, vs = [V.ref a] ∧ SqL K c.H a us ∧ c.DRs K us xs ∧ p xs = some ns ∧ Post K W c (RlD K) Q (.ok (o ns) c.st) := by
  unfold zOfL at P
  split at P
  · split at P
    · next xs hx =>
      split at P
      · next ns hn =>
        cases r with
        | cons a b =>
          cases b
          obtain ⟨ad, us, rfl, h1, h2⟩ := asL_ok S a hx
          exact ⟨ad, us, xs, ns, rfl, h1, h2, hn, P⟩
      · exact P.elim
    · exact P.elim
  · exact P.elim
theorem zSum_ok : OpA K W (rSum K) zSum := fun c vs ds Q S r P => by
  obtain ⟨a, us, xs, ns, rfl, h1, h2, h3, P⟩ := zOfL_inv S r P
  obtain ⟨rfl, _⟩ := intsOf_ok h3 h2
  exact ⟨a, ns, rfl, h1, Post.ok S (.int _) P⟩
theorem zAll_ok : OpA K W (rAll K) zAll := fun c vs ds Q S r P => by
  obtain ⟨a, us, xs, ns, rfl, h1, h2, h3, P⟩ := zOfL_inv S r P
  obtain ⟨rfl, _⟩ := bools_ok h3 h2
  exact ⟨a, ns, rfl, h1, Post.ok S (.bl _) P⟩
theorem zAny_ok : OpA K W (rAny K) zAny := fun c vs ds Q S r P => by
  obtain ⟨a, us, xs, ns, rfl, h1, h2, h3, P⟩ := zOfL_inv S r P
  obtain ⟨rfl, _⟩ := bools_ok h3 h2
  exact ⟨a, ns, rfl, h1, Post.ok S (.bl _) P⟩
/-- list(x), as a tree, as a cell; tuple(x) -/
def zList : List D → ST → Res D
  | [x], st => match asSeq x st with
    | some xs => .ok (.lst xs) st
    | none => .stuck
  | _, _ => .stuck
def zListN : List D → ST → Res D
  | [x], st => match asSeq x st with
    | some xs => .ok (.cel st.length) (st ++ [some (.lst xs)])
    | none => .stuck
  | _, _ => .stuck
def zTuple : List D → ST → Res D
  | [.tup xs], st => .ok (.tup xs) st
  | [x], st => match asL x st with
    | some xs => .ok (.tup xs) st
    | none => .stuck
  | _, _ => .stuck
abbrev rListOf (K : PySem.W.Frag) : List V → Hp → VK → Prop := fun xs H Q => ∃ p ys, xs = [.ref p] ∧ (SqL K H p ys ∨ SqT K H p ys) ∧ ∀ l, H l = none → Q (.ref l) (upd H l (.lst ys))
theorem zList_ok : OpA K W (rListOf K) zList := by
  intro c vs ds Q S r P
  unfold zList at P
  split at P
  · split at P
    · next xs hx =>
      cases r with
      | cons a b =>
        cases b
        obtain ⟨ad, us, rfl, h1, h2⟩ := asSeq_ok S a hx
        exact ⟨_, us, rfl, h1, fun l hl => newTree S hl h2 P⟩
    · exact P.elim
  · exact P.elim
theorem zListN_ok : OpA K W (rListOf K) zListN := by
  intro c vs ds Q S r P
  unfold zListN at P
  split at P
  · split at P
    · next xs hx =>
      cases r with
      | cons a b =>
        cases b
        obtain ⟨ad, us, rfl, h1, h2⟩ := asSeq_ok S a hx
        exact ⟨_, us, rfl, h1, fun l hl => newCell S hl h2 P⟩
    · exact P.elim
  · exact P.elim
theorem zTuple_ok : OpA K W (fun xs H Q => ∃ p ys, xs = [.ref p] ∧ ((SqL K H p ys ∧ ∀ l, H l = none → Q (.ref l) (upd H l (.tup ys))) ∨ (SqT K H p ys ∧ Q (.ref p) H))) zTuple := by
  intro c vs ds Q S r P
  unfold zTuple at P
  split at P
  · cases r with
    | cons a b =>
      cases b
      cases a with
      | tup h1 h2 => exact ⟨_, _, rfl, .inr ⟨S.ex.t h1, Post.ok S (.tup h1 h2) P⟩⟩
  · split at P
    · next xs hx =>
      cases r with
      | cons a b =>
        cases b
        obtain ⟨ad, us, rfl, h1, h2⟩ := asL_ok S a hx
        exact ⟨_, us, rfl, .inl ⟨h1, fun l hl => newTup S hl h2 P⟩⟩
    · exact P.elim
  · exact P.elim
end
end
end Rq
set_option Elab.async false
set_option linter.all false
set_option maxRecDepth 100000
set_option maxHeartbeats 4000000
/-! Rq, part 8: methods of lists and texts, stores into items, several targets. -/
namespace Rq
open PySem PySem.Spec PyProof.Rows L2
section
variable {K : PySem.W.Frag} {W : WX} {c : Cf} {X : Cx} {a b e o : Expr} {es : List Expr} {f g h : EF} {pos apos cpos : Pos}
/-! ### methods of lists -/
def fM (z : D → List D → ST → Res D) (f : EF) (g : AF) : EF := fun sl st => (f sl st).bind fun x st1 => match asL x st1 with
  | some _ => (g sl st1).bind fun ds st2 => z x ds st2
  | none => .stuck
def OpM (K : PySem.W.Frag) (W : WX) (r : V → List V → Hp → VK → Prop) (z : D → List D → ST → Res D) : Prop := ∀ (c : Cf) v vs x ds Q, c.ok K → c.DR K v x → c.DRs K vs ds → Post K W c (RlD K) Q (z x ds c.st) → r v vs c.H Q
theorem tyV_list {v : V} {x : D} {xs : List D} (S : c.ok K) (r : c.DR K v x) (h : asL x c.st = some xs) : tyV K "list" v c.H := by
  obtain ⟨a, vs, rfl, h1, _⟩ := asL_ok S r h
  exact .inl ⟨rfl, vs, h1⟩
theorem x_lmeth {id : String} {name : Str} {r : V → List V → Hp → VK → Prop} {z : D → List D → ST → Res D} {g : AF} (slot : Slot "list" name id) (hty : typeOf (.builtin id) = pure (.type "method_descriptor")) (hm : MtR X id r) (om : OpM X.K W r z) (ho : PX X W o f) (ha : PXs X W (e :: es) g)
    (hbase : attributeBase o name X.env (eval o X.env) = eval o X.env := by rfl)
    (hfew : ((backTo cpos (starEach (e :: es) X.env)).all (fun x => !x.1) && (backToKw cpos (keywordEach [] X.env)).all (fun x => x.1.isSome)
      && decide ((e :: es).length + ([] : List Keyword).length + (if ([] : List Keyword).isEmpty then 0 else 1) < 30)) = true := by rfl)
    (hline : (apos.endLine == cpos.line) = true := by rfl) (hs : starEach (e :: es) X.env = (false, eval e X.env) :: starEach es X.env := by rfl) (hplain : (backTo cpos (starEach es X.env)).any (·.1) = false := by rfl) :
    PX X W (.Call (.Attribute o name apos) (e :: es) [] cpos) (fM z f g) := pe_imp (pe_bm PySem.F.plainAttrs_list slot hty hm ho ha hbase hfew hline hs hplain) fun σ H Q w => by
  obtain ⟨c, sl, rfl, S, L, P⟩ := w
  refine ⟨c, sl, rfl, S, L, Post.bind P fun v x c1 s1 o1 r1 P1 => ?_⟩
  split at P1
  · next xs hx =>
    refine ⟨tyV_list o1 r1 hx, c1, sl, rfl, o1, s1.sl L, Post.bind P1 fun vs ds c2 s2 o2 r2 P2 => ?_⟩
    exact om c2 v vs x ds Q o2 (s2.dr r1) r2 P2
  · exact P1.elim
def zAppend : D → List D → ST → Res D
  | .cel k, [d], st => match st[k]? with
    | some (some (.lst xs)) => if szOk (xs.length + 1) then .ok .non (st.set k (some (.lst (xs ++ [d])))) else .stuck
    | _ => .stuck
  | _, _, _ => .stuck
/-- a cell's list changed -/
theorem setCell {k : Nat} {v : V} {xs ys : List D} {Q : VK} {d : D} (S : c.ok K) (r : c.DR K v (.cel k)) (hk : c.st[k]? = some (some (.lst xs))) (vf : List V → List V) (hv : ∀ vs, c.DRs K vs xs → c.DRs K (vf vs) ys) (rd : ∀ vs, c.DRs K vs xs → ∃ u, c.DR K u d)
    (P : Post K W c (RlD K) Q (.ok d (c.st.set k (some (.lst ys))))) : ∃ a vs, v = .ref a ∧ c.H a = some (.lst vs) ∧ c.DRs K vs xs ∧ ∀ u, c.DR K u d → Q u (upd c.H a (.lst (vf vs))) := by
  obtain ⟨a, z1, _, vs, z3, z4⟩ := S.cell k _ hk
  cases r with
  | cel h1 =>
    rw [z1] at h1; cases h1
    refine ⟨a, vs, rfl, z3, z4, fun u ru => ?_⟩
    obtain ⟨h2, h3⟩ := Cf.cellSet (d' := .lst ys) (o := .lst (vf vs)) S hk z1 ⟨vf vs, upd_same, hv vs z4⟩
    exact P u ⟨c.G, upd c.H a (.lst (vf vs)), c.as, c.st.set k (some (.lst ys))⟩ h3 h2 rfl (h3.dr ru)
theorem zAppend_ok : OpM K W rAppend zAppend := by
  intro c v vs x ds Q S r1 r2 P
  unfold zAppend at P
  split at P
  · next k d =>
    split at P
    · next xs hk =>
      split at P
      · next hz =>
        cases r2 with
        | cons ra rb =>
          cases rb
          next w =>
          obtain ⟨a, us, rfl, h1, h2, h3⟩ := setCell S r1 hk (fun us => us ++ [w]) (fun us hu => hu.app (.cons ra .nil)) (fun us hu => ⟨.non, .non⟩) P
          have := of_decide_eq_true hz
          refine ⟨a, us, w, rfl, rfl, h1, ?_, h3 .non .non⟩
          rw [DRs.length h2]
          exact Nat.lt_of_lt_of_le (Nat.lt_of_succ_le (by omega : xs.length + 1 ≤ 1000000)) (by decide)
      · exact P.elim
    · exact P.elim
  · exact P.elim
def zExtend : D → List D → ST → Res D
  | .cel k, [d], st => match st[k]? with
    | some (some (.lst xs)) => (match asLw d st with
      | some ys => if szOk (xs.length + ys.length) then .ok .non (st.set k (some (.lst (xs ++ ys)))) else .stuck
      | none => .stuck)
    | _ => .stuck
  | _, _, _ => .stuck
theorem zExtend_ok : OpM K W rExtend zExtend := by
  intro c v vs x ds Q S r1 r2 P
  unfold zExtend at P
  split at P
  · next k d =>
    split at P
    · next xs hk =>
      split at P
      · next ys hy =>
        split at P
        · next hz =>
          cases r2 with
          | cons ra rb =>
            cases rb
            obtain ⟨b, ws, rfl, q1, q2⟩ := asLw_ok S ra hy
            obtain ⟨a, us, rfl, h1, h2, h3⟩ := setCell S r1 hk (fun us => us ++ ws) (fun us hu => hu.app q2) (fun us hu => ⟨.non, .non⟩) P
            exact ⟨a, b, us, ws, rfl, rfl, h1, q1, by rw [DRs.length h2, DRs.length q2]; exact szOk.le hz, h3 .non .non⟩
        · exact P.elim
      · exact P.elim
    · exact P.elim
  · exact P.elim
def zPopAt : D → List D → ST → Res D
  | .cel k, [.int i], st => match st[k]? with
    | some (some (.lst xs)) => (match ixN xs.length i with
      | some j => (match xs[j]? with
        | some d => if szOk xs.length then .ok d (st.set k (some (.lst (xs.eraseIdx j)))) else .stuck
        | none => .stuck)
      | none => .stuck)
    | _ => .stuck
  | _, _, _ => .stuck
theorem zPopAt_ok : OpM K W rPopAt zPopAt := by
  intro c v vs x ds Q S r1 r2 P
  unfold zPopAt at P
  split at P
  · next k i =>
    split at P
    · next xs hk =>
      split at P
      · next j hj =>
        split at P
        · next d hd =>
          split at P
          · next hz =>
            cases r2 with
            | cons ra rb =>
              cases ra; cases rb
              obtain ⟨a, us, rfl, h1, h2, h3⟩ := setCell S r1 hk (fun us => us.eraseIdx j) (fun us hu => hu.erase j) (fun us hu => let ⟨u, _, q⟩ := hu.get j d hd; ⟨u, q⟩) P
              obtain ⟨u, q1, q2⟩ := h2.get j d hd
              have hz' := of_decide_eq_true hz
              obtain ⟨e1, e2, e3, e4⟩ := ixN_seq hj
              refine ⟨a, us, i, j, u, rfl, rfl, h1, by omega, by omega, by rw [DRs.length h2]; exact e1, q1, h3 u q2⟩
          · exact P.elim
        · exact P.elim
      · exact P.elim
    · exact P.elim
  · exact P.elim
theorem x_append {g : AF} (ho : PX X W o f) (ha : PXs X W [e] g) (hbase : attributeBase o "append" X.env (eval o X.env) = eval o X.env := by rfl)
    (hfew : ((backTo cpos (starEach (e :: []) X.env)).all (fun x => !x.1) && (backToKw cpos (keywordEach [] X.env)).all (fun x => x.1.isSome)
      && decide ((e :: []).length + ([] : List Keyword).length + (if ([] : List Keyword).isEmpty then 0 else 1) < 30)) = true := by rfl)
    (hline : (apos.endLine == cpos.line) = true := by rfl) (hs : starEach (e :: []) X.env = (false, eval e X.env) :: starEach [] X.env := by rfl) (hplain : (backTo cpos (starEach [] X.env)).any (·.1) = false := by rfl) :
    PX X W (.Call (.Attribute o "append" apos) [e] [] cpos) (fM zAppend f g) := x_lmeth PySem.F.slot_list_append PySem.F.type_list_append mt_append zAppend_ok ho ha hbase hfew hline hs hplain
theorem x_extend {g : AF} (ho : PX X W o f) (ha : PXs X W [e] g) (hbase : attributeBase o "extend" X.env (eval o X.env) = eval o X.env := by rfl)
    (hfew : ((backTo cpos (starEach (e :: []) X.env)).all (fun x => !x.1) && (backToKw cpos (keywordEach [] X.env)).all (fun x => x.1.isSome)
      && decide ((e :: []).length + ([] : List Keyword).length + (if ([] : List Keyword).isEmpty then 0 else 1) < 30)) = true := by rfl)
    (hline : (apos.endLine == cpos.line) = true := by rfl) (hs : starEach (e :: []) X.env = (false, eval e X.env) :: starEach [] X.env := by rfl) (hplain : (backTo cpos (starEach [] X.env)).any (·.1) = false := by rfl) :
    PX X W (.Call (.Attribute o "extend" apos) [e] [] cpos) (fM zExtend f g) := x_lmeth PySem.F.slot_list_extend PySem.F.type_list_extend mt_extend zExtend_ok ho ha hbase hfew hline hs hplain
theorem x_popAt {g : AF} (ho : PX X W o f) (ha : PXs X W [e] g) (hbase : attributeBase o "pop" X.env (eval o X.env) = eval o X.env := by rfl)
    (hfew : ((backTo cpos (starEach (e :: []) X.env)).all (fun x => !x.1) && (backToKw cpos (keywordEach [] X.env)).all (fun x => x.1.isSome)
      && decide ((e :: []).length + ([] : List Keyword).length + (if ([] : List Keyword).isEmpty then 0 else 1) < 30)) = true := by rfl)
    (hline : (apos.endLine == cpos.line) = true := by rfl) (hs : starEach (e :: []) X.env = (false, eval e X.env) :: starEach [] X.env := by rfl) (hplain : (backTo cpos (starEach [] X.env)).any (·.1) = false := by rfl) :
    PX X W (.Call (.Attribute o "pop" apos) [e] [] cpos) (fM zPopAt f g) := x_lmeth PySem.F.slot_list_pop PySem.F.type_list_pop mt_popAt zPopAt_ok ho ha hbase hfew hline hs hplain
/-! ### texts: join, split -/
def fS1 (z : Str → D → ST → Res D) (f g : EF) : EF := fun sl st => (f sl st).bind fun x st1 => match x with
  | .str s => (g sl st1).bind fun y st2 => z s y st2
  | _ => .stuck
def zJoin (s : Str) (y : D) (st : ST) : Res D := match asSeq y st with
  | some xs => (match texts xs with
    | some ys => if (ys.map (·.length)).sum + ys.length * s.length ≤ 16777216 then .ok (.str (Txt.join s ys)) st else .stuck
    | none => .stuck)
  | none => .stuck
theorem x_join (ho : PX X W o f) (he : PX X W e g) (hs : starEach [e] X.env = [(false, eval e X.env)] := by rfl) (hbase : attributeBase o "join" X.env (eval o X.env) = eval o X.env := by rfl) (hline : (apos.endLine == pos.line) = true := by rfl) :
    PX X W (.Call (.Attribute o "join" apos) [e] [] pos) (fS1 zJoin f g) := pe_imp (pe_join ho he hs hbase hline) fun σ H Q w => by
  obtain ⟨c, sl, rfl, S, L, P⟩ := w
  refine ⟨c, sl, rfl, S, L, Post.bind P fun v x c1 s1 o1 r1 P1 => ?_⟩
  cases x with
  | str s =>
    cases r1
    refine ⟨⟨s, rfl⟩, c1, sl, rfl, o1, s1.sl L, Post.bind P1 fun v x c2 s2 o2 r2 P2 => ?_⟩
    unfold zJoin at P2
    split at P2
    · next xs hx =>
      split at P2
      · next ys hy =>
        split at P2
        · next hz =>
          obtain ⟨a, vs, rfl, h1, h2⟩ := asSeq_ok o2 r2 hx
          obtain ⟨rfl, _⟩ := texts_ok hy h2
          exact ⟨s, a, ys, rfl, rfl, h1, hz, Post.ok o2 (.str _) P2⟩
        · exact P2.elim
      · exact P2.elim
    · exact P2.elim
  | _ => exact P1.elim
def zSplit (s : Str) (y : D) (st : ST) : Res D := match y with
  | .str z => if (z.length == 0) = false ∧ s.length + 2 ≤ 16777216 then .ok (.lst ((Txt.split s z).map D.str)) st else .stuck
  | _ => .stuck
theorem strs_dr : ∀ ys : List Str, c.DRs K (ys.map V.str) (ys.map D.str)
  | [] => .nil
  | y :: ys => .cons (.str y) (strs_dr ys)
theorem ints_dr : ∀ ys : List Int, c.DRs K (ys.map V.int) (ys.map D.int)
  | [] => .nil
  | y :: ys => .cons (.int y) (ints_dr ys)
theorem x_split (ho : PX X W o f) (he : PX X W e g) (hs : starEach [e] X.env = [(false, eval e X.env)] := by rfl) (hbase : attributeBase o "split" X.env (eval o X.env) = eval o X.env := by rfl) (hline : (apos.endLine == pos.line) = true := by rfl) :
    PX X W (.Call (.Attribute o "split" apos) [e] [] pos) (fS1 zSplit f g) := pe_imp (pe_split ho he hs hbase hline) fun σ H Q w => by
  obtain ⟨c, sl, rfl, S, L, P⟩ := w
  refine ⟨c, sl, rfl, S, L, Post.bind P fun v x c1 s1 o1 r1 P1 => ?_⟩
  cases x with
  | str s =>
    cases r1
    refine ⟨⟨s, rfl⟩, c1, sl, rfl, o1, s1.sl L, Post.bind P1 fun v x c2 s2 o2 r2 P2 => ?_⟩
    unfold zSplit at P2
    split at P2
    · next z =>
      split at P2
      · next hz =>
        cases r2
        exact ⟨s, z, rfl, rfl, hz.1, Nat.le_trans hz.2 (by decide), fun p hp => newTree o2 hp (strs_dr _) P2⟩
      · exact P2.elim
    · exact P2.elim
  | _ => exact P1.elim
/-! ### stores into items -/
def fSetIx (f g h : EF) : SF := fun sl st => (h sl st).bind fun d st1 => (f sl st1).bind fun x st2 => (g sl st2).bind fun y st3 => match x, y with
  | .cel k, .int i => (match st3[k]? with
    | some (some (.lst xs)) => (match ixN xs.length i with
      | some j => .ok (.nx sl) (st3.set k (some (.lst (xs.set j d))))
      | none => .stuck)
    | _ => .stuck)
  | _, _ => .stuck
theorem y_setIx {pos' : Pos} (he : PX X W e h) (ho : PX X W a f) (hi : PX X W b g) (hs : swapsWithSole [.Subscript a b pos'] e pos.line X.env = pure false := by rfl) (hw : swappedStores [.Subscript a b pos'] e X.env = pure none := by rfl)
    (h1 : (assignEach [.Subscript a b pos'] X.env).map (·.2) = [assign (.Subscript a b pos') X.env] := by rfl)
    (hg : ∀ to ti, PE X a to → PE X b ti → PG X (.Subscript a b pos') (gSub to ti rSetL) := by intro _ _ h1 h2; exact pg_sub h1 h2 set_list) : PY X W (.Assign [.Subscript a b pos'] e pos) (fSetIx f g h) :=
  ps_imp (ps_asg he (hg _ _ ho hi) hs hw h1) fun E σ H w => by
  obtain ⟨c, sl, rfl, S, L, P⟩ := w
  refine ⟨c, sl, rfl, S, L, PostS.bind P fun v d c1 s1 o1 r1 P1 => ?_⟩
  refine ⟨c1, sl, rfl, o1, s1.sl L, PostS.bind P1 fun v2 d2 c2 s2 o2 r2 P2 => ?_⟩
  refine ⟨c2, sl, rfl, o2, s2.sl (s1.sl L), PostS.bind P2 fun v3 d3 c3 s3 o3 r3 P3 => ?_⟩
  have r2 := s3.dr r2
  have r1 := s3.dr (s2.dr r1)
  cases d2 with
  | cel k =>
    cases d3 with
    | int i =>
      dsimp only at P3
      split at P3
      · next xs hk =>
        split at P3
        · next j hj =>
          cases r3
          obtain ⟨a, z1, _, vs, z3, z4⟩ := o3.cell k _ hk
          cases r2 with
          | cel h1 =>
            rw [z1] at h1; cases h1
            obtain ⟨h2, h3⟩ := Cf.cellSet (d' := .lst (xs.set j d)) (o := .lst (vs.set j v)) o3 hk z1 ⟨vs.set j v, upd_same, z4.set r1 j⟩
            refine ⟨a, vs, i, j, rfl, rfl, z3, by rw [z4.length]; exact hj, ?_⟩
            exact P3 ⟨c3.G, upd c3.H a (.lst (vs.set j v)), c3.as, c3.st.set k (some (.lst (xs.set j d)))⟩ h3 h2 rfl σ (h3.sl (s3.sl (s2.sl (s1.sl L))))
        · exact P3.elim
      · exact P3.elim
    | _ => exact P3.elim
  | _ => exact P3.elim
/-! ### two names from two values -/
def fPar (i j : Nat) (f g : EF) : SF := fun sl st => (f sl st).bind fun x st1 => (g sl st1).bind fun y st2 => .ok (.nx ((sl.set i (some x)).set j (some y))) st2
theorem y_par {i j : Nat} {x y : Str} {px py pt : Pos} {kt k2 pt2} (hc : X.calm = true) (hN : X.N.Nodup) (ha : PX X W a f) (hb : PX X W b g) (hw : swappedStores [.Tuple [.Name x px, .Name y py] kt pt] (.Tuple [a, b] k2 pt2) X.env = pure (some [x, y])) (hi : X.N[i]? = some x := by rfl) (hj : X.N[j]? = some y := by rfl) (hij : i ≠ j := by decide)
    (hx : X.env.scope.names.lookup x = some .local := by rfl) (hy : X.env.scope.names.lookup y = some .local := by rfl)
    (hs : swapsWithSole [.Tuple [.Name x px, .Name y py] kt pt] (.Tuple [a, b] k2 pt2) pos.line X.env = pure false := by rfl) (s1 : starEach [a, b] X.env = (false, eval a X.env) :: starEach [b] X.env := by rfl) (s2 : starEach [b] X.env = (false, eval b X.env) :: starEach [] X.env := by rfl) :
    PY X W (.Assign [.Tuple [.Name x px, .Name y py] kt pt] (.Tuple [a, b] k2 pt2) pos) (fPar i j f g) :=
  ps_imp (ps_par hc hN hi hj hij hx hy (pa_cons ha (pa_cons hb pa_nil s2) s1) hw hs) fun E σ H w => by
  obtain ⟨c, sl, rfl, S, L, P⟩ := w
  refine ⟨c, sl, rfl, S, L, PostS.bind P fun v d c1 s1 o1 r1 P1 => ?_⟩
  refine ⟨c1, sl, rfl, o1, s1.sl L, PostS.bind P1 fun v2 d2 c2 s2 o2 r2 P2 => ?_⟩
  exact ⟨v, v2, rfl, P2 c2 (Step.refl _) o2 rfl _ (((s2.sl (s1.sl L)).set (s2.dr r1) i).set r2 j)⟩
/-! ### a target of any kind -/
def fAsg (tf : TF) (f : EF) : SF := fun sl st => (f sl st).bind fun d st1 => match tf d sl with
  | some sl1 => .ok (.nx sl1) st1
  | none => .stuck
theorem y_asg {tg : Expr} {ts : List Nat} {gg : TG} {tf : TF} (he : PX X W e f) (hg : GT X tg ts gg tf) (hs : swapsWithSole [tg] e pos.line X.env = pure false := by rfl) (hw : swappedStores [tg] e X.env = pure none := by rfl)
    (h1 : (assignEach [tg] X.env).map (·.2) = [assign tg X.env] := by rfl) : PY X W (.Assign [tg] e pos) (fAsg tf f) := ps_imp (ps_asg he hg.pg hs hw h1) fun E σ H w => by
  obtain ⟨c, sl, rfl, S, L, P⟩ := w
  refine ⟨c, sl, rfl, S, L, PostS.bind P fun v d c1 s1 o1 r1 P1 => ?_⟩
  split at P1
  · next sl1 q => exact hg.ok c1.G c1.H c1.as v d σ sl sl1 _ o1.ex r1 (s1.sl L) q fun σ' L' _ => P1 c1 (Step.refl _) o1 rfl σ' L'
  · exact P1.elim
end
end Rq
set_option Elab.async false
set_option linter.all false
set_option maxRecDepth 100000
set_option maxHeartbeats 4000000
/-! Rq, part 9: in, ==, names given comprehensions, defs by name. -/
namespace Rq
open PySem PySem.Spec PyProof.Rows L2
/-! ### flat things -/
def flatD : D → Bool
  | .non | .bl _ | .int _ | .str _ => true
  | _ => false
def toV : D → V
  | .bl b => .bl b
  | .int i => .int i
  | .str s => .str s
  | _ => .non
section
variable {K : PySem.W.Frag} {W : WX} {c : Cf} {X : Cx} {a b e o : Expr} {es : List Expr} {f g h : EF} {pos apos cpos : Pos}
theorem flat_ok {v : V} {d : D} (r : c.DR K v d) (h : flatD d = true) : v = toV d ∧ flatV v = true := by
  cases r with
  | non => exact ⟨rfl, rfl⟩
  | bl b => exact ⟨rfl, rfl⟩
  | int i => exact ⟨rfl, rfl⟩
  | str x => exact ⟨rfl, rfl⟩
  | _ => cases h
theorem flats_ok : ∀ {vs : List V} {xs : List D}, c.DRs K vs xs → xs.all flatD = true → vs = xs.map toV ∧ vs.all flatV = true
  | _, _, .nil, _ => ⟨rfl, rfl⟩
  | _, _, .cons r t, h => by
    rw [List.all_cons, Bool.and_eq_true] at h
    obtain ⟨h1, h2⟩ := flat_ok r h.1
    obtain ⟨h3, h4⟩ := flats_ok t h.2
    subst h1; subst h3
    exact ⟨rfl, by rw [List.all_cons, h2, h4]; rfl⟩
def zIn (neg : Bool) (x y : D) (st : ST) : Res D := match asSeq y st with
  | some xs => if flatD x && xs.all flatD then .ok (.bl (if neg then !inV (toV x) (xs.map toV) else inV (toV x) (xs.map toV))) st else .stuck
  | none => .stuck
theorem zIn_ok {neg : Bool} : Op2 K W (rIn K neg) (zIn neg) := by
  intro c v w x y Q S r1 r2 P
  unfold zIn at P
  split at P
  · next xs hx =>
    split at P
    · next hf =>
      rw [Bool.and_eq_true] at hf
      obtain ⟨a, vs, rfl, h1, h2⟩ := asSeq_ok S r2 hx
      obtain ⟨rfl, h3⟩ := flat_ok r1 hf.1
      obtain ⟨rfl, h4⟩ := flats_ok h2 hf.2
      exact ⟨a, _, rfl, h1, h3, h4, Post.ok S (.bl _) P⟩
    · exact P.elim
  · exact P.elim
theorem x_in (ha : PX X W a f) (hb : PX X W b g) (hm : behindInMarks .In b = false := by rfl) : PX X W (.Compare a [.In] [b] pos) (f2 (zIn false) f g) := x_cmp op_in_seq zIn_ok ha hb hm
theorem x_notIn (ha : PX X W a f) (hb : PX X W b g) (hm : behindInMarks .NotIn b = false := by rfl) : PX X W (.Compare a [.NotIn] [b] pos) (f2 (zIn true) f g) := x_cmp op_notIn_seq zIn_ok ha hb hm
/-! ### == of data -/
mutual
def toPy : D → Option PyData
  | .non => some .none
  | .bl b => some (.bool b)
  | .int i => some (.int i)
  | .str s => some (.str s)
  | .lst xs => (toPys xs).map .list
  | .lsr xs => (toPys xs).map .list
  | .tup xs => (toPys xs).map .tuple
  | _ => none
def toPys : List D → Option (List PyData)
  | [] => some []
  | x :: r => (toPy x).bind fun p => (toPys r).map (p :: ·)
end
mutual
theorem toPy_ok (S : c.ok K) : ∀ {v : V} {d : D} {p : PyData}, c.DR K v d → toPy d = some p → Dp K c.H v p
  | _, _, _, .non, h => by unfold toPy at h; cases h; exact .non
  | _, _, _, .bl b, h => by unfold toPy at h; cases h; exact .bl b
  | _, _, _, .int i, h => by unfold toPy at h; cases h; exact .int i
  | _, _, _, .str x, h => by unfold toPy at h; cases h; exact .str x
  | _, _, _, .lst h1 h2, h => by
    unfold toPy at h
    obtain ⟨q, h3, rfl⟩ := Option.map_eq_some_iff.mp h
    exact .lst (S.ex.l (sqOf h1)) (toPys_ok S h2 h3)
  | _, _, _, .lsr h1 h2, h => by
    unfold toPy at h
    obtain ⟨q, h3, rfl⟩ := Option.map_eq_some_iff.mp h
    exact .lst (S.ex.l h1) (toPys_ok S h2 h3)
  | _, _, _, .tup h1 h2, h => by
    unfold toPy at h
    obtain ⟨q, h3, rfl⟩ := Option.map_eq_some_iff.mp h
    exact .tup (S.ex.t h1) (toPys_ok S h2 h3)
  | _, _, _, .dct _ _, h => by unfold toPy at h; cases h
  | _, _, _, .ins _ _, h => by unfold toPy at h; cases h
  | _, _, _, .cel _, h => by unfold toPy at h; cases h
  | _, _, _, .raw _, h => by unfold toPy at h; cases h
theorem toPys_ok (S : c.ok K) : ∀ {vs : List V} {ds : List D} {ps : List PyData}, c.DRs K vs ds → toPys ds = some ps → DpAll K c.H vs ps
  | _, _, _, .nil, h => by unfold toPys at h; cases h; exact .nil
  | _, _, _, .cons r t, h => by
    unfold toPys at h
    obtain ⟨p, h1, h2⟩ := Option.bind_eq_some_iff.mp h
    obtain ⟨ps, h3, rfl⟩ := Option.map_eq_some_iff.mp h2
    exact .cons (toPy_ok S r h1) (toPys_ok S t h3)
end
/-- a cell's list, too -/
def toPyS (d : D) (st : ST) : Option PyData := match d with
  | .cel k => match st[k]? with
    | some (some (.lst xs)) => (toPys xs).map .list
    | _ => none
  | d => toPy d
theorem toPyS_ok (S : c.ok K) {v : V} {d : D} {p : PyData} (r : c.DR K v d) (h : toPyS d c.st = some p) : Dp K c.H v p := by
  unfold toPyS at h
  split at h
  · next k =>
    split at h
    · next xs hk =>
      obtain ⟨q, h3, rfl⟩ := Option.map_eq_some_iff.mp h
      obtain ⟨a, vs, rfl, h1, h2⟩ := asL_ok (xs := xs) S r (by unfold asL; simp only [hk])
      exact .lst h1 (toPys_ok S h2 h3)
    · cases h
  · exact toPy_ok S r h
/-- what == and != tell, as a Bool -/
def eqD (x y : D) (st : ST) : Option Bool := match x, y with
  | .int i, .int j => some (decide (i = j))
  | .str i, .str j => some (decide (i = j))
  | .bl i, .bl j => some (decide (i = j))
  | .non, .non => some true
  | .non, .int _ => some false
  | .int _, .non => some false
  | .non, .str _ => some false
  | .str _, .non => some false
  | x, y => (toPyS x st).bind fun p => (toPyS y st).bind fun q => if SeqAt.shaped p && SeqAt.shaped q then some (PyData.eqv p q) else none
def zEq (x y : D) (st : ST) : Res D := match eqD x y st with
  | some b => .ok (.bl b) st
  | none => .stuck
def zNe (x y : D) (st : ST) : Res D := match eqD x y st with
  | some b => .ok (.bl (!b)) st
  | none => .stuck
theorem eqD_ok (S : c.ok K) {v w : V} {x y : D} {k : Bool} (r1 : c.DR K v x) (r2 : c.DR K w y) (h : eqD x y c.st = some k) :
    (scal v w = true ∧ decide (v = w) = k) ∨ ∃ d e, Dp K c.H v d ∧ Dp K c.H w e ∧ SeqAt.shaped d = true ∧ SeqAt.shaped e = true ∧ PyData.eqv d e = k := by
  unfold eqD at h
  split at h
  · cases r1; cases r2; cases h; exact .inl ⟨rfl, by simp⟩
  · cases r1; cases r2; cases h; exact .inl ⟨rfl, by simp⟩
  · cases r1; cases r2; cases h; exact .inl ⟨rfl, by simp⟩
  · cases r1; cases r2; cases h; exact .inl ⟨rfl, by simp⟩
  · cases r1; cases r2; cases h; exact .inl ⟨rfl, by simp⟩
  · cases r1; cases r2; cases h; exact .inl ⟨rfl, by simp⟩
  · cases r1; cases r2; cases h; exact .inl ⟨rfl, by simp⟩
  · cases r1; cases r2; cases h; exact .inl ⟨rfl, by simp⟩
  · obtain ⟨p, h1, h2⟩ := Option.bind_eq_some_iff.mp h
    obtain ⟨q, h3, h4⟩ := Option.bind_eq_some_iff.mp h2
    split at h4
    · next hs =>
      rw [Bool.and_eq_true] at hs
      cases h4
      exact .inr ⟨p, q, toPyS_ok S r1 h1, toPyS_ok S r2 h3, hs.1, hs.2, rfl⟩
    · cases h4
abbrev rEqA (K : PySem.W.Frag) : R2 := fun x y H Q => rEq x y H Q ∨ rEqD K x y H Q
abbrev rNeA (K : PySem.W.Frag) : R2 := fun x y H Q => rNe x y H Q ∨ rNeD K x y H Q
theorem zEq_ok : Op2 K W (rEqA K) zEq := fun c v w x y Q S r1 r2 P => by
  unfold zEq at P
  split at P
  · next k hk =>
    rcases eqD_ok S r1 r2 hk with ⟨h1, h2⟩ | ⟨d, e, h1, h2, h3, h4, h5⟩
    · exact .inl ⟨h1, by rw [h2]; exact Post.ok S (.bl _) P⟩
    · exact .inr ⟨d, e, h1, h2, h3, h4, by rw [h5]; exact Post.ok S (.bl _) P⟩
  · exact P.elim
theorem zNe_ok : Op2 K W (rNeA K) zNe := fun c v w x y Q S r1 r2 P => by
  unfold zNe at P
  split at P
  · next k hk =>
    rcases eqD_ok S r1 r2 hk with ⟨h1, h2⟩ | ⟨d, e, h1, h2, h3, h4, h5⟩
    · exact .inl ⟨h1, by rw [h2]; exact Post.ok S (.bl _) P⟩
    · exact .inr ⟨d, e, h1, h2, h3, h4, by rw [h5]; exact Post.ok S (.bl _) P⟩
  · exact P.elim
theorem x_eq (hu : X.A.units + 64 < cLine) (ha : PX X W a f) (hb : PX X W b g) : PX X W (.Compare a [.Eq] [b] pos) (f2 zEq f g) := x_cmp (op_eq.or (op_eqD hu)) zEq_ok ha hb (nomark _)
theorem x_ne (hu : X.A.units + 64 < cLine) (ha : PX X W a f) (hb : PX X W b g) : PX X W (.Compare a [.NotEq] [b] pos) (f2 zNe f g) := x_cmp (op_ne.or (op_neD hu)) zNe_ok ha hb (nomark _)
/-! ### name = [comprehension] -/
theorem y_setLc {tg iter elt : Expr} {ifs : List Expr} {scope : Scope} {fi : AF} {tf : TF} {cf : CF} {el : EF} {ts : List Nat} {own : List (Str × Nat)} {g : TG} {tt : TT} {kk : List D → ST → Res D} (i : Nat) {y : Str} {py spos : Pos} (T : ∀ Q, Told X.K W Q kk) (hc : X.calm = true) (hN : X.N.Nodup)
    (hsw : swapsWith (.ListComp elt [⟨tg, iter, ifs, 0⟩] scope pos) (some (.Name y py)) spos.line X.env = pure true) (hi : XI X W tg iter fi) (ok : BlkOk X.N X.env.scope scope own)
    (hg : ∀ (s : Shared) (H : Hp) (C : Addr) (cl : List (Str × Addr)) (fp : List Addr), GT (X.blk s H scope (compEnvC scope cl C X.env) fp) tg ts g tf) (hw : ∀ i ∈ ts, i ∈ own.map (·.2))
    (ht : ∀ (s : Shared) (H : Hp) (C : Addr) (cl : List (Str × Addr)) (fp : List Addr), XTs (X.blk s H scope (compEnvC scope cl C X.env) fp) ifs tt cf)
    (he : ∀ (s : Shared) (H : Hp) (C : Addr) (cl : List (Str × Addr)) (fp : List Addr), PX (X.blk s H scope (compEnvC scope cl C X.env) fp) W0 elt el) (hy : X.N[i]? = some y := by rfl) (hyl : X.env.scope.names.lookup y = some .local := by rfl) (hs : ∀ x, foldedSetIterable iter X.env x = pure x := by intro _; rfl) :
    PY X W (.Assign [.Name y py] (.ListComp elt [⟨tg, iter, ifs, 0⟩] scope pos) spos) (fSet i (fLcK kk fi tf cf el (own.map (·.2)))) :=
  ps_imp (ps_setLc (te := tE X.K W0 el) hc hN hy hyl hsw hi ok (fun s H C cl fp => (hg s H C cl fp).pg) (fun s H C cl fp => (ht s H C cl fp).pt) (fun s H C cl fp => he s H C cl fp) hs) fun E σ H w => by
    obtain ⟨c, sl, rfl, S, L, P⟩ := w
    have hg0 := (hg X.s_0 X.H_0 0 [] []).ok
    have ht0 := (ht X.s_0 X.H_0 0 [] []).ok
    exact lc_read S L hw hg0 ht0 (T _) (PostS.bind P fun v d c1 s1 o1 r1 P1 => P1 c1 (Step.refl _) o1 rfl _ ((s1.sl L).set r1 i))
/-! ### a def by its name -/
structure Df (P : Program) (w : World) (K : PySem.W.Frag) (mg : Str → Option Value) (base : Heap) (x : Str) (k n : Nat) (F : DF) : Prop where
  ex : ∃ fa fd ps, FG P w K mg base CX0 k fa fd ps (spF K n F) ∧ mg x = some (.ref fa) ∧ PySem.W.keepIn K (.ref fa) = true ∧ Binds K fd ps []
theorem Df.imp {P : Program} {w : World} {K : PySem.W.Frag} {mg : Str → Option Value} {base : Heap} {x : Str} {k n : Nat} {F F' : DF} (d : Df P w K mg base x k n F) (e : ∀ ds st, ds.length = n → F ds st = F' ds st ∨ F' ds st = .stuck) : Df P w K mg base x k n F' := by
  obtain ⟨fa, fd, ps, h1, h2, h3, h4⟩ := d.ex
  exact ⟨fa, fd, ps, h1.imp (spF_imp e), h2, h3, h4⟩
theorem x_def {x : Str} {p : Pos} {k j n : Nat} {Fn : DF} {g : AF} (d : Df X.prog X.w X.K X.mg X.base x j n Fn) (gd : X.A.guards = some []) (hr : Room k X.A) (hj : j ≤ k) (ha : PXs X W (e :: es) g) (hg : Gl X x := by rfl) (hdb : (x == ("__debug__" : Str)) = false := by decide)
    (he : starEach (e :: es) X.env = (false, eval e X.env) :: starEach es X.env := by rfl) (hpl : (backTo pos (starEach es X.env)).any (·.1) = false := by rfl) : PX X W (.Call (.Name x p) (e :: es) [] pos) (fCall0 n Fn g) := by
  obtain ⟨fa, fd, ps, h1, h2, h3, h4⟩ := d.ex
  exact x_call h1 gd (hr.mono hj) h2 h3 h4 ha hg hdb he hpl
/-- what the written part says of a def -/
structure At (K : PySem.W.Frag) (mg : Str → Option Value) (x : Str) (st : Stmt) : Prop where
  ex : ∃ (fa : Addr) (oc : Value) (od an : Option Addr) (osl : Array (Option Value)) (kV doc pm cdv ct : Value), mg x = some (.ref fa) ∧
    K.lookup fa = some ⟨oc, od, .func (PySem.W.fnOf x x (defArgs st) (defBody st) (defScope st) .none kV doc pm an cdv ct), osl⟩ ∧ PySem.W.codeIn K cdv x = true ∧ PySem.W.keepIn K (.ref fa) = true
theorem df_of {P : Program} {w : World} {K : PySem.W.Frag} {mg : Str → Option Value} {base : Heap} {x : Str} {st : Stmt} {N ps : List Str} {k n : Nat} {F : SF} (T : At K mg x st) (S : FnScope N ps (defScope st)) (hn : ps.length = n)
    (hb : ∀ (kV doc pm : Value) (an : Option Addr) (cdv ct : Value) (us : List Value), us.length = ps.length → bindArgs (PySem.W.fnOf x x (defArgs st) (defBody st) (defScope st) .none kV doc pm an cdv ct) ⟨us, []⟩ = pure (ps.zip us))
    (h : ∀ (fa : Addr) (cdv : Value) (A : Around) (outer : List Env) (s : Shared) (H : Hp) (E : XK), (A.deeper (envOfC x (defScope st) s.heap.objs.size fa cdv)).guards = some [] → Room k (A.deeper (envOfC x (defScope st) s.heap.objs.size fa cdv)) →
      PYs (cxOf CX0 P w K mg base N x (defScope st) fa cdv A outer s H E).nox W0 (defBody st) F) : Df P w K mg base x (k + 1) n fun ds st => (bodyF N.length F ds st).ne := by
  obtain ⟨fa, oc, od, an, osl, kV, doc, pm, cdv, ct, h1, h2, h3, h4⟩ := T.ex
  have Fu := fun_mk h2 h3 h4
  exact ⟨fa, _, ps, fn1 Fu S hn (h fa), h1, h4, Fu.binds hb⟩
end
end Rq
set_option Elab.async false
set_option linter.all false
set_option maxRecDepth 100000
set_option maxHeartbeats 4000000
/-! Rq, part 10: tests. -/
namespace Rq
open PySem PySem.Spec PyProof.Rows L2
def tT (K : PySem.W.Frag) (W : WX) (f : EF) : TT := fun σ H Q => ∃ c sl, c.H = H ∧ c.ok K ∧ c.SlR K σ sl ∧ Post K W c (fun _ (b : Bool) (b' : Bool) => b = b') Q (cOne f sl c.st)
def XT (X : Cx) (W : WX) (e : Expr) (f : EF) : Prop := PT X e (tT X.K W f)
def XW (X : Cx) (W : WX) (e : Expr) (f : EF) : Prop := PW X e (tT X.K W f)
theorem cOne_bind {α : Type} (f : EF) (k : Bool → SL → ST → Res α) (sl : SL) (st : ST) : fTest f k sl st = (cOne f sl st).bind fun b st1 => k b sl st1 := by
  unfold cOne fTest
  cases f sl st with
  | ok d st1 => cases d <;> rfl
  | err _ _ _ _ => rfl
  | stuck => rfl
section
variable {W : WX} {c : Cf} {X : Cx} {a b cc e o : Expr} {es : List Expr} {f g h : EF} {pos apos cpos : Pos}
theorem xt_val (ha : PX X W a f) (he : ∀ whole, isTrue a X.env whole = (do let v ← whole; standAt a.pos; holding [v] (truthy v)) := by intro _; rfl) : XT X W a f := pt_imp (pt_val ha he) fun σ H Q w => by
  obtain ⟨c, sl, rfl, S, L, P⟩ := w
  refine ⟨c, sl, rfl, S, L, Post.bind P fun v d c1 s1 o1 r1 P1 => ?_⟩
  cases d with
  | bl q => cases r1; exact ⟨q, rfl, P1 q c1 (Step.refl _) o1 rfl rfl⟩
  | _ => exact P1.elim
theorem xt_cmp {op : CmpOp} {r : R2} {z : D → D → ST → Res D} (ho : OpR X (compareOp op) r) (o : Op2 X.K W r z) (ha : PX X W a f) (hb : PX X W b g) (hm : behindInMarks op b = false) : XT X W (.Compare a [op] [b] pos) (f2 z f g) :=
  pt_imp (pt_cmpR ho ha hb hm) fun σ H Q w => by
  obtain ⟨c, sl, rfl, S, L, P⟩ := w
  refine tE_f2 o ⟨c, sl, rfl, S, L, Post.bind P fun v d c1 s1 o1 r1 P1 => ?_⟩
  cases d with
  | bl q => cases r1; exact ⟨q, rfl, P1 q c1 (Step.refl _) o1 rfl rfl⟩
  | _ => exact P1.elim
theorem xt_chain {op op' : CmpOp} {r r' : R2} {z z' : D → D → ST → Res D} (ho : OpR X (compareOp op) r) (ho' : OpR X (compareOp op') r') (o : Op2 X.K W r z) (o' : Op2 X.K W r' z') (ha : PX X W a f) (hb : PX X W b g) (hc : PX X W cc h)
    (hm : lastMarks [op, op'] [b, cc] = false := by with_unfolding_all rfl) : XT X W (.Compare a [op, op'] [b, cc] pos) (fChain z z' f g h) := pt_imp (pt_chain ho ho' ha hb hc hm) fun σ H Q w => by
  obtain ⟨c, sl, rfl, S, L, P⟩ := w
  have P : Post X.K W c (fun _ (b : Bool) (b' : Bool) => b = b') Q ((fChain z z' f g h sl c.st).bind fun d st1 => match d with | .bl b => .ok b st1 | _ => .stuck) := P
  unfold fChain at P
  rw [Res.bind_assoc] at P
  refine ⟨c, sl, rfl, S, L, Post.bind P fun v d c1 s1 o1 r1 P1 => ?_⟩
  rw [Res.bind_assoc] at P1
  refine ⟨c1, sl, rfl, o1, s1.sl L, Post.bind P1 fun w' d' c2 s2 o2 r2 P2 => ?_⟩
  rw [Res.bind_assoc] at P2
  refine o c2 v w' d d' _ o2 (s2.dr r1) r2 (Post.bind P2 fun u e c3 s3 o3 r3 P3 => ?_)
  cases e with
  | bl k =>
    cases r3
    refine ⟨k, rfl, ?_⟩
    cases k with
    | true =>
      rw [if_pos rfl]
      dsimp only at P3
      rw [Res.bind_assoc] at P3
      refine ⟨c3, sl, rfl, o3, s3.sl (s2.sl (s1.sl L)), Post.bind P3 fun u e c4 s4 o4 r4 P4 => o' c4 _ _ _ _ _ o4 (s4.dr (s3.dr r2)) r4 (Post.bind P4 fun u e c5 s5 o5 r5 P5 => ?_)⟩
      cases e with
      | bl q => cases r5; exact ⟨q, rfl, P5 q c5 (Step.refl _) o5 rfl rfl⟩
      | _ => exact P5.elim
    | false =>
      rw [if_neg Bool.false_ne_true]
      exact ⟨false, rfl, P3 false c3 (Step.refl _) o3 rfl rfl⟩
  | _ => exact P3.elim
theorem xt_not (ha : XT X W a f) : XT X W (.UnaryOp .Not a pos) (f1 zNot f) := pt_imp (pt_not ha) fun σ H Q w => by
  obtain ⟨c, sl, rfl, S, L, P⟩ := w
  refine ⟨c, sl, rfl, S, L, ?_⟩
  unfold cOne fTest f1 at P
  unfold cOne fTest
  rw [Res.bind_assoc] at P
  cases q : f sl c.st with
  | stuck => rw [q] at P; exact P
  | err C d sl st => rw [q] at P; exact P
  | ok d st1 =>
    rw [q] at P
    cases d with
    | bl k =>
      intro v c1 s1 o1 e1 r1
      exact P (!v) c1 s1 o1 e1 (by rw [r1])
    | _ => exact P
theorem xt_and_r {K : PySem.W.Frag} {σ : L2.St} {H : Hp} {Q : Bool → Hp → Prop} (w : tT K W (fAnd f g) σ H Q) : tAnd (tT K W f) (tT K W g) σ H Q := by
  obtain ⟨c, sl, rfl, S, L, P⟩ := w
  unfold cOne at P
  have P : Post K W c (fun _ (b : Bool) (b' : Bool) => b = b') Q ((fAnd f g sl c.st).bind fun d st1 => match d with | .bl b => .ok b st1 | _ => .stuck) := P
  unfold fAnd at P
  rw [cOne_bind, Res.bind_assoc] at P
  refine ⟨c, sl, rfl, S, L, Post.bind P fun v d c1 s1 o1 r1 P1 => ?_⟩
  subst r1
  cases v with
  | true => rw [if_pos rfl]; exact ⟨c1, sl, rfl, o1, s1.sl L, P1⟩
  | false => rw [if_neg Bool.false_ne_true]; exact P1 false c1 (Step.refl _) o1 rfl rfl
theorem xt_or_r {K : PySem.W.Frag} {σ : L2.St} {H : Hp} {Q : Bool → Hp → Prop} (w : tT K W (fOr f g) σ H Q) : tOr (tT K W f) (tT K W g) σ H Q := by
  obtain ⟨c, sl, rfl, S, L, P⟩ := w
  unfold cOne at P
  have P : Post K W c (fun _ (b : Bool) (b' : Bool) => b = b') Q ((fOr f g sl c.st).bind fun d st1 => match d with | .bl b => .ok b st1 | _ => .stuck) := P
  unfold fOr at P
  rw [cOne_bind, Res.bind_assoc] at P
  refine ⟨c, sl, rfl, S, L, Post.bind P fun v d c1 s1 o1 r1 P1 => ?_⟩
  subst r1
  cases v with
  | true => rw [if_pos rfl]; exact P1 true c1 (Step.refl _) o1 rfl rfl
  | false => rw [if_neg Bool.false_ne_true]; exact ⟨c1, sl, rfl, o1, s1.sl L, P1⟩
theorem pw_imp {t t' : TT} (p : PW X e t) (i : ∀ σ H Q, t' σ H Q → t σ H Q) : PW X e t' := ⟨fun whole pins s σ H Q I w => p.run whole pins s σ H Q I (i σ H Q w)⟩
theorem xw_and1 (ha : XT X W a f) : XW X W (.BoolOp .And [a] pos) f := pw_and1 ha
theorem xw_or1 (ha : XT X W a f) : XW X W (.BoolOp .Or [a] pos) f := pw_or1 ha
theorem xw_and {rest : List Expr} (ha : XT X W a f) (hb : XW X W (.BoolOp .And (b :: rest) pos) g) : XW X W (.BoolOp .And (a :: b :: rest) pos) (fAnd f g) := pw_imp (pw_and ha hb) fun _ _ _ w => xt_and_r w
theorem xw_or {rest : List Expr} (ha : XT X W a f) (hb : XW X W (.BoolOp .Or (b :: rest) pos) g) : XW X W (.BoolOp .Or (a :: b :: rest) pos) (fOr f g) := pw_imp (pw_or ha hb) fun _ _ _ w => xt_or_r w
theorem xt_w (h : XW X W a f) : XT X W a f := PW.pt h
/-! what asks a test -/
theorem yt_if {A B : List Stmt} {F F2 : SF} (hc : XT X W cc f) (ha : PYs X W A F) (hb : PYs X W B F2) : PY X W (.If cc A B pos) (fIf f F F2) := ps_imp (ps_if hc ha hb) fun E σ H w => by
  obtain ⟨c, sl, rfl, S, L, P⟩ := w
  unfold fIf at P
  rw [cOne_bind] at P
  refine ⟨c, sl, rfl, S, L, PostS.bind P fun v d c1 s1 o1 r1 P1 => ?_⟩
  subst r1
  cases v with
  | true => rw [if_pos rfl]; exact ⟨c1, sl, rfl, o1, s1.sl L, P1⟩
  | false => rw [if_neg Bool.false_ne_true]; exact ⟨c1, sl, rfl, o1, s1.sl L, P1⟩
theorem xt_ifE (hc : XT X W cc h) (ha : PX X W a f) (hb : PX X W b g) : PX X W (.IfExp cc a b pos) (fIfE h f g) := pe_imp (pe_ifExp hc ha hb) fun σ H Q w => by
  obtain ⟨c, sl, rfl, S, L, P⟩ := w
  unfold fIfE at P
  rw [cOne_bind] at P
  refine ⟨c, sl, rfl, S, L, Post.bind P fun v d c1 s1 o1 r1 P1 => ?_⟩
  subst r1
  cases v with
  | true => rw [if_pos rfl]; exact ⟨c1, sl, rfl, o1, s1.sl L, P1⟩
  | false => rw [if_neg Bool.false_ne_true]; exact ⟨c1, sl, rfl, o1, s1.sl L, P1⟩
theorem xts_test {t : Expr} (h : XT X W0 t f) : XTs X [t] (tT X.K W0 f) (cOne f) := ⟨pts_one h, fun c σ sl Q S L P => ⟨c, sl, rfl, S, L, P⟩⟩
theorem xt_lt (ha : PX X W a f) (hb : PX X W b g) : XT X W (.Compare a [.Lt] [b] pos) (f2 zLt f g) := xt_cmp op_lt (zI0_ok fun _ i j => .bl _) ha hb (nomark _)
theorem xt_le (ha : PX X W a f) (hb : PX X W b g) : XT X W (.Compare a [.LtE] [b] pos) (f2 zLe f g) := xt_cmp op_le (zI0_ok fun _ i j => .bl _) ha hb (nomark _)
theorem xt_gt (ha : PX X W a f) (hb : PX X W b g) : XT X W (.Compare a [.Gt] [b] pos) (f2 zGt f g) := xt_cmp op_gt (zI0_ok fun _ i j => .bl _) ha hb (nomark _)
theorem xt_ge (ha : PX X W a f) (hb : PX X W b g) : XT X W (.Compare a [.GtE] [b] pos) (f2 zGe f g) := xt_cmp op_ge (zI0_ok fun _ i j => .bl _) ha hb (nomark _)
theorem xt_eq (hu : X.A.units + 64 < cLine) (ha : PX X W a f) (hb : PX X W b g) : XT X W (.Compare a [.Eq] [b] pos) (f2 zEq f g) := xt_cmp (op_eq.or (op_eqD hu)) zEq_ok ha hb (nomark _)
theorem xt_ne (hu : X.A.units + 64 < cLine) (ha : PX X W a f) (hb : PX X W b g) : XT X W (.Compare a [.NotEq] [b] pos) (f2 zNe f g) := xt_cmp (op_ne.or (op_neD hu)) zNe_ok ha hb (nomark _)
theorem xt_in (ha : PX X W a f) (hb : PX X W b g) (hm : behindInMarks .In b = false := by rfl) : XT X W (.Compare a [.In] [b] pos) (f2 (zIn false) f g) := xt_cmp op_in_seq zIn_ok ha hb hm
theorem xt_notIn (ha : PX X W a f) (hb : PX X W b g) (hm : behindInMarks .NotIn b = false := by rfl) : XT X W (.Compare a [.NotIn] [b] pos) (f2 (zIn true) f g) := xt_cmp op_notIn_seq zIn_ok ha hb hm
/-! a slice, a sum as a new cell -/
def fSlN (f : EF) (l u : OF) : EF := fun sl st => (f sl st).bind fun x st1 => (l sl st1).bind fun lo st2 => (u sl st2).bind fun hi st3 => match asL x st3 with
  | some xs => .ok (.cel st3.length) (st3 ++ [some (.lst (cutD xs lo hi))])
  | none => .stuck
theorem x_slN {l u : Option Expr} {lf uf : OF} {p2 : Pos} (ha : PX X W a f) (hl : PXO X W l lf) (hu : PXO X W u uf) : PX X W (.Subscript a (.Slice l u none p2) pos) (fSlN f lf uf) :=
  pe_imp (pe_slice sl_list ha hl hu) fun σ H Q w => by
  obtain ⟨c, sl, rfl, S, L, P⟩ := w
  refine ⟨c, sl, rfl, S, L, Post.bind P fun v x c1 s1 o1 r1 P1 => ?_⟩
  refine ⟨c1, sl, rfl, o1, s1.sl L, Post.bind P1 fun lo lo' c2 s2 o2 e2 P2 => ?_⟩
  subst e2
  refine ⟨c2, sl, rfl, o2, s2.sl (s1.sl L), Post.bind P2 fun hi hi' c3 s3 o3 e3 P3 => ?_⟩
  subst e3
  have r3 := s3.dr (s2.dr r1)
  split at P3
  · next xs hx =>
    obtain ⟨a, vs, rfl, h1, h2⟩ := asL_ok o3 r3 hx
    exact ⟨_, _, rfl, h1, fun p hp => newCell o3 hp (DRs.cut h2 _ _) P3⟩
  · exact P3.elim
def zAddN (x y : D) (st : ST) : Res D := match asLw x st, asLw y st with
  | some xs, some ys => if szOk (xs.length + ys.length) then .ok (.cel st.length) (st ++ [some (.lst (xs ++ ys))]) else .stuck
  | _, _ => .stuck
theorem x_addN (ha : PX X W a f) (hb : PX X W b g) : PX X W (.BinOp a .Add b pos) (f2 zAddN f g) := x_op op_cat (fun c v w x y Q S r1 r2 P => by
  unfold zAddN at P
  split at P
  · next q1 q2 =>
    split at P
    · next h =>
      obtain ⟨a1, vs1, rfl, h1, b1⟩ := asLw_ok S r1 q1
      obtain ⟨a2, vs2, rfl, h2, b2⟩ := asLw_ok S r2 q2
      exact ⟨_, _, _, _, rfl, rfl, h1, h2, by rw [b1.length, b2.length]; exact szOk.le h, fun p hp => newCell S hp (b1.app b2) P⟩
    · exact P.elim
  · exact P.elim) ha hb
/-! ### zip, enumerate -/
theorem DRs.get2 {K : PySem.W.Frag} {G : Hp} {as : List Addr} {vs : List V} {ds : List D} (r : DRs K G as vs ds) {i : Nat} {v : V} {d : D} (h : vs[i]? = some v) (h' : ds[i]? = some d) : DR K G as v d := by
  obtain ⟨d', q1, q2⟩ := r.getV i v h
  rw [h'] at q1; cases q1; exact q2
def zipD : List D → List D → List D
  | x :: xs, y :: ys => .tup [x, y] :: zipD xs ys
  | _, _ => []
theorem zipD_length : ∀ xs ys : List D, (zipD xs ys).length = min xs.length ys.length
  | [], _ => by simp [zipD]
  | _ :: _, [] => by simp [zipD]
  | x :: xs, y :: ys => by simp [zipD, zipD_length xs ys]
theorem zipD_get : ∀ (xs ys : List D) (i : Nat) (d : D), (zipD xs ys)[i]? = some d → ∃ x y, xs[i]? = some x ∧ ys[i]? = some y ∧ d = .tup [x, y]
  | [], _, i, d, h => by simp [zipD] at h
  | _ :: _, [], i, d, h => by simp [zipD] at h
  | x :: xs, y :: ys, 0, d, h => by simp [zipD] at h; exact ⟨x, y, rfl, rfl, h.symm⟩
  | x :: xs, y :: ys, i + 1, d, h => by simpa using zipD_get xs ys i d (by simpa [zipD] using h)
theorem ylds_zip {K : PySem.W.Frag} {c : Cf} {a b : Addr} {vs ws : List V} {xs ys : List D} (h1 : SqL K c.G a vs) (h2 : SqL K c.G b ws) (r1 : c.DRs K vs xs) (r2 : c.DRs K ws ys) : Ylds K c (Itz K a b) (zipD xs ys) := by
  have e : (zipD xs ys).length = min vs.length ws.length := by rw [zipD_length, DRs.length r1, DRs.length r2]
  refine ⟨YPair (fun i => vs[i]?) (fun i => ws[i]?), by rw [e]; exact (walk_zip (K := K) (a := a) (b := b) (xs := vs) (ys := ws) rfl).mono (fun H (e : Ex c.G H) => ⟨e.l h1, e.l h2⟩) (fun _ _ _ _ _ _ y => y), fun i x H H' d hd e y => .inr ?_⟩
  obtain ⟨T, v, w, q1, q2, q3, q4, q5⟩ := y
  obtain ⟨dx, dy, z1, z2, rfl⟩ := zipD_get xs ys i d hd
  exact ⟨T, [v, w], [dx, dy], q1, q2, q3, rfl, .cons (DRs.get2 r1 q4 z1) (.cons (DRs.get2 r2 q5 z2) .nil)⟩
def enumD : Nat → List D → List D
  | _, [] => []
  | n, x :: xs => .tup [.int n, x] :: enumD (n + 1) xs
theorem enumD_length : ∀ (xs : List D) (n : Nat), (enumD n xs).length = xs.length
  | [], _ => rfl
  | x :: xs, n => by simp [enumD, enumD_length xs]
theorem enumD_get : ∀ (xs : List D) (n i : Nat) (d : D), (enumD n xs)[i]? = some d → ∃ x, xs[i]? = some x ∧ d = .tup [.int ((n + i : Nat) : Int), x]
  | [], n, i, d, h => by simp [enumD] at h
  | x :: xs, n, 0, d, h => by simp [enumD] at h; exact ⟨x, rfl, by simpa using h.symm⟩
  | x :: xs, n, i + 1, d, h => by
    obtain ⟨y, h1, h2⟩ := enumD_get xs (n + 1) i d (by simpa [enumD] using h)
    exact ⟨y, by simpa using h1, by rw [h2, show n + 1 + i = n + (i + 1) by omega]⟩
theorem ylds_enum {K : PySem.W.Frag} {c : Cf} {a : Addr} {vs : List V} {xs : List D} (h1 : SqL K c.G a vs) (r1 : c.DRs K vs xs) : Ylds K c (Ite K a) (enumD 0 xs) := by
  have e : (enumD 0 xs).length = vs.length := by rw [enumD_length, DRs.length r1]
  refine ⟨YPair (fun i => some (.int (i : Nat))) (fun i => vs[i]?), by rw [e]; exact (walk_enum (K := K) (a := a) (xs := vs)).mono (fun H (e : Ex c.G H) => e.l h1) (fun _ _ _ _ _ _ y => y), fun i x H H' d hd e y => .inr ?_⟩
  obtain ⟨T, v, w, q1, q2, q3, q4, q5⟩ := y
  obtain ⟨dy, z2, rfl⟩ := enumD_get xs 0 i d hd
  cases q4
  refine ⟨T, [.int (i : Nat), w], _, q1, q2, q3, rfl, .cons ?_ (.cons (DRs.get2 r1 q5 z2) .nil)⟩
  rw [Nat.zero_add]; exact .int _
/-- a list that stays -/
def asT (d : D) : Option (List D) := match d with
  | .lst xs => some xs
  | .lsr xs => some xs
  | _ => none
theorem asT_ok {K : PySem.W.Frag} {c : Cf} {v : V} {d : D} {xs : List D} (r : c.DR K v d) (h : asT d = some xs) : ∃ a vs, v = .ref a ∧ SqL K c.G a vs ∧ c.DRs K vs xs := by
  cases r with
  | lst h1 h2 => cases h; exact ⟨_, _, rfl, sqOf h1, h2⟩
  | lsr h1 h2 => cases h; exact ⟨_, _, rfl, h1, h2⟩
  | _ => cases h
def fZip (g : AF) : AF := fun sl st => (g sl st).bind fun ds st1 => match ds with
  | [x, y] => (match asT x, asT y with
    | some xs, some ys => .ok (zipD xs ys) st1
    | _, _ => .stuck)
  | _ => .stuck
theorem xi_zip {elts : List Expr} {kk : Nat} {tpos p : Pos} {g : AF} (hm : X.mg "zip" = none) (ha : PXs X W [a, b] g) (hg : Gl X "zip" := by rfl) (hs : starEach [a, b] X.env = (false, eval a X.env) :: starEach [b] X.env := by rfl) (hpl : (backTo pos (starEach [b] X.env)).any (·.1) = false := by rfl) :
    XI X W (.Tuple elts kk tpos) (.Call (.Name "zip" p) [a, b] [] pos) (fZip g) := pi_imp (pi_zip hg hm ha hs hpl) fun σ H R w => by
  obtain ⟨c, sl, rfl, S, L, P⟩ := w
  refine ⟨c, sl, rfl, S, L, Post.bind P fun vs ds c1 s1 o1 r1 P1 => ?_⟩
  split at P1
  · split at P1
    · next xs ys hx hy =>
      cases r1 with
      | cons ra rb =>
        cases rb with
        | cons rb rc =>
          cases rc
          obtain ⟨a1, v1, rfl, q1, q2⟩ := asT_ok ra hx
          obtain ⟨a2, v2, rfl, q3, q4⟩ := asT_ok rb hy
          exact ⟨a1, a2, v1, v2, rfl, o1.ex.l q1, o1.ex.l q3, P1 _ c1 (Step.refl _) o1 rfl (ylds_zip q1 q3 q2 q4)⟩
    · exact P1.elim
  · exact P1.elim
def fEnum (g : AF) : AF := fun sl st => (g sl st).bind fun ds st1 => match ds with
  | [x] => (match asT x with
    | some xs => .ok (enumD 0 xs) st1
    | none => .stuck)
  | _ => .stuck
theorem xi_enum {elts : List Expr} {kk : Nat} {tpos p : Pos} {g : AF} (hm : X.mg "enumerate" = none) (ha : PXs X W [a] g) (hg : Gl X "enumerate" := by rfl) (hs : starEach [a] X.env = [(false, eval a X.env)] := by rfl) :
    XI X W (.Tuple elts kk tpos) (.Call (.Name "enumerate" p) [a] [] pos) (fEnum g) := pi_imp (pi_enum hg hm ha hs) fun σ H R w => by
  obtain ⟨c, sl, rfl, S, L, P⟩ := w
  refine ⟨c, sl, rfl, S, L, Post.bind P fun vs ds c1 s1 o1 r1 P1 => ?_⟩
  split at P1
  · split at P1
    · next xs hx =>
      cases r1 with
      | cons ra rb =>
        cases rb
        obtain ⟨a1, v1, rfl, q1, q2⟩ := asT_ok ra hx
        exact ⟨a1, v1, rfl, o1.ex.l q1, P1 _ c1 (Step.refl _) o1 rfl (ylds_enum q1 q2)⟩
    · exact P1.elim
  · exact P1.elim
end
end Rq
set_option Elab.async false
set_option linter.all false
set_option maxRecDepth 100000
set_option maxHeartbeats 4000000
/-! Rq, part 11: dicts; instances and their fields; choosing a rule by what stands there. -/
namespace Rq
open PySem PySem.Spec PyProof.Rows L2
/-! ### choosing -/
section
variable {X : Cx} {W : WX} {e a b o : Expr} {es : List Expr} {f g h : EF} {pos : Pos}
theorem px_case (h : ∀ sl st, ∃ f', PX X W e f' ∧ f' sl st = f sl st) : PX X W e f := ⟨fun pins s σ H Q I w => by
  obtain ⟨c, sl, rfl, S, L, P⟩ := w
  obtain ⟨f', h1, h2⟩ := h sl c.st
  exact h1.run pins s σ c.H Q I ⟨c, sl, rfl, S, L, by rw [h2]; exact P⟩⟩
theorem xi_case {tg : Expr} {f : AF} (h : ∀ sl st, ∃ f', XI X W tg e f' ∧ f' sl st = f sl st) : XI X W tg e f := ⟨fun pins s σ H Q I w => by
  obtain ⟨c, sl, rfl, S, L, P⟩ := w
  obtain ⟨f', h1, h2⟩ := h sl c.st
  exact h1.run pins s σ c.H Q I ⟨c, sl, rfl, S, L, by rw [h2]; exact P⟩⟩
theorem px_or1 {z z1 z2 : D → ST → Res D} (h : ∀ x st, z x st = z1 x st ∨ z x st = z2 x st) (h1 : PX X W e (f1 z1 f)) (h2 : PX X W e (f1 z2 f)) : PX X W e (f1 z f) := px_case fun sl st => by
  unfold f1 at *
  cases q : f sl st with
  | ok d st1 =>
    rcases h d st1 with k | k
    · exact ⟨_, h1, by rw [q]; exact k.symm⟩
    · exact ⟨_, h2, by rw [q]; exact k.symm⟩
  | err C d sl' st' => exact ⟨_, h1, by rw [q]; rfl⟩
  | stuck => exact ⟨_, h1, by rw [q]; rfl⟩
theorem px_or2 {z z1 z2 : D → D → ST → Res D} (h : ∀ x y st, z x y st = z1 x y st ∨ z x y st = z2 x y st) (h1 : PX X W e (f2 z1 f g)) (h2 : PX X W e (f2 z2 f g)) : PX X W e (f2 z f g) := px_case fun sl st => by
  unfold f2 at *
  cases q : f sl st with
  | ok d st1 =>
    cases q2 : g sl st1 with
    | ok d2 st2 =>
      rcases h d d2 st2 with k | k
      · exact ⟨_, h1, by rw [q]; show Res.bind (g sl st1) _ = Res.bind (g sl st1) _; rw [q2]; exact k.symm⟩
      · exact ⟨_, h2, by rw [q]; show Res.bind (g sl st1) _ = Res.bind (g sl st1) _; rw [q2]; exact k.symm⟩
    | err C d sl' st' => exact ⟨_, h1, by rw [q]; show Res.bind (g sl st1) _ = Res.bind (g sl st1) _; rw [q2]; rfl⟩
    | stuck => exact ⟨_, h1, by rw [q]; show Res.bind (g sl st1) _ = Res.bind (g sl st1) _; rw [q2]; rfl⟩
  | err C d sl' st' => exact ⟨_, h1, by rw [q]; rfl⟩
  | stuck => exact ⟨_, h1, by rw [q]; rfl⟩
end
/-! ### freezing in general -/
section
variable {K : PySem.W.Frag} {c : Cf} {k : Nat} {a : Addr} {o o' : HO}
/-- a cell is a tree from now on, its object being told anew -/
theorem Cf.frzO {d : Cell} (S : c.ok K) (hk : c.st[k]? = some (some d)) (ha : c.as[k]? = some a) (hn : ∀ ps, o ≠ .tbl ps := by intro _ z; cases z) :
    Cf.ok K ⟨upd c.G a o, upd c.H a o, c.as, c.st.set k none⟩ ∧ Step c ⟨upd c.G a o, upd c.H a o, c.as, c.st.set k none⟩ ∧ c.G a = none := by
  obtain ⟨a', h1, h2, h3⟩ := S.cell k d hk
  rw [ha] at h1; cases h1
  have e1 : Ex c.G (upd c.G a o) := Ex.new h2
  refine ⟨⟨fun b u h => ?_, by rw [List.length_set]; exact S.len, fun j d' h => ?_, fun i j b c1 c2 q1 q2 q3 q4 => ?_, ?_, fun b ps z => ?_⟩, ⟨e1, Pf.refl _, fun b u q1 _ q2 q3 => ?_⟩, h2⟩
  · by_cases e : b = a
    · subst e
      have h : upd c.G b o b = some u := h
      rw [upd_same] at h; cases h
      exact upd_same
    · have h : upd c.G a o b = some u := h
      rw [upd_ne e] at h
      show upd c.H a o b = some u
      rw [upd_ne e]; exact S.ex b u h
  · obtain ⟨h', ne⟩ := set_none_get h
    obtain ⟨b, z1, z2, z3⟩ := S.cell j d' h'
    have nb : b ≠ a := fun q => ne (S.inj k j a d d' hk h' ha (by rw [← q]; exact z1))
    exact ⟨b, z1, by show upd c.G a o b = none; rw [upd_ne nb]; exact z2, z3.mono e1 (Pf.refl _) (upd_ne nb)⟩
  · exact S.inj i j b c1 c2 (set_none_get q1).1 (set_none_get q2).1 q3 q4
  · exact S.tab.mono e1 (tbl_upd h3.plain)
  · have z : upd c.G a o b = some (.tbl ps) := z
    by_cases e : b = a
    · subst e; rw [upd_same] at z; exact hn ps (Option.some.inj z)
    · rw [upd_ne e] at z; exact S.gt b ps z
  · have ne : b ≠ a := fun e => q2 ⟨k, d, hk, by rw [e]; exact ha⟩
    exact ⟨by show upd c.H a o b = _; rw [upd_ne ne]; exact q1, fun ⟨j, e, z1, z2⟩ => q2 ⟨j, e, (set_none_get z1).1, z2⟩, by show upd c.G a o b = _; rw [upd_ne ne]; exact q3⟩
theorem upd_self {H : Hp} (h : H a = some o) : upd H a o = H := funext fun b => by
  by_cases e : b = a
  · subst e; rw [upd_same, h]
  · rw [upd_ne e]
end
/-! ### dicts -/
def keyD : D → Option Key
  | .int i => some (.inl i)
  | .str x => some (.inr x)
  | _ => none
def getK (kvs : List (Key × D)) (k : Key) : Option D := (kvs.find? fun kv => decide (kv.1 = k)).map (·.2)
def putD (kvs : List (Key × D)) (k : Key) (d : D) : List (Key × D) :=
  if (kvs.any fun kv => decide (kv.1 = k)) = true then kvs.map fun kv => if kv.1 = k then (kv.1, d) else kv else kvs ++ [(k, d)]
def mergeD (kvs more : List (Key × D)) : List (Key × D) := more.foldl (fun acc kv => putD acc kv.1 kv.2) kvs
def asDct (d : D) (st : ST) : Option (List (Key × D)) := match d with
  | .dct kvs => some kvs
  | .cel k => match st[k]? with
    | some (some (.dct kvs)) => some kvs
    | _ => none
  | _ => none
section
variable {K : PySem.W.Frag} {G : Hp} {as : List Addr}
theorem DRk.val {vs : List (Key × V)} {ds : List (Key × D)} (h : DRk K G as vs ds) (k : Key) : (getK ds k = none → valV vs k = none) ∧ ∀ d, getK ds k = some d → ∃ v, valV vs k = some v ∧ DR K G as v d := by
  induction vs generalizing ds with
  | nil => cases h; exact ⟨fun _ => rfl, fun d q => by cases q⟩
  | cons v vs ih =>
    cases h with
    | @cons k' v' d' _ ds' r t =>
      by_cases e : k' = k
      · subst e
        refine ⟨fun q => ?_, fun d q => ?_⟩
        · simp [getK] at q
        · simp [getK] at q; subst q; exact ⟨v', by simp [valV], r⟩
      · obtain ⟨i1, i2⟩ := ih t
        refine ⟨fun q => ?_, fun d q => ?_⟩
        · have := i1 (by simpa [getK, e] using q)
          simpa [valV, e] using this
        · obtain ⟨w, h1, h2⟩ := i2 d (by simpa [getK, e] using q)
          exact ⟨w, by simpa [valV, e] using h1, h2⟩
theorem DRk.any {vs : List (Key × V)} {ds : List (Key × D)} (h : DRk K G as vs ds) (k : Key) : (vs.any fun kv => decide (kv.1 = k)) = ds.any fun kv => decide (kv.1 = k) := by
  induction vs generalizing ds with
  | nil => cases h; rfl
  | cons v vs ih => cases h with | cons r t => simp [ih t]
theorem DRk.app {vs ws : List (Key × V)} {ds es : List (Key × D)} (h : DRk K G as vs ds) (t : DRk K G as ws es) : DRk K G as (vs ++ ws) (ds ++ es) := by
  induction vs generalizing ds with
  | nil => cases h; exact t
  | cons v vs ih => cases h with | cons a b => exact .cons a (ih b)
theorem DRk.putMap {vs : List (Key × V)} {ds : List (Key × D)} (h : DRk K G as vs ds) {k : Key} {v : V} {d : D} (r : DR K G as v d) :
    DRk K G as (vs.map fun kv => if kv.1 = k then (kv.1, v) else kv) (ds.map fun kv => if kv.1 = k then (kv.1, d) else kv) := by
  induction vs generalizing ds with
  | nil => cases h; exact .nil
  | cons w vs ih =>
    cases h with
    | @cons k' v' d' _ ds' q t =>
      rw [List.map_cons, List.map_cons]
      by_cases e : k' = k
      · simp only [e, if_true]; exact .cons r (by simpa using ih t)
      · simp only [e, if_false]; exact .cons q (by simpa using ih t)
theorem DRk.put {vs : List (Key × V)} {ds : List (Key × D)} (h : DRk K G as vs ds) {k : Key} {v : V} {d : D} (r : DR K G as v d) : DRk K G as (putK vs k v) (putD ds k d) := by
  unfold putK putD
  rw [h.any k]
  split
  · exact h.putMap r
  · exact h.app (.cons r .nil)
theorem DRk.merge {vs ws : List (Key × V)} {ds es : List (Key × D)} (h : DRk K G as vs ds) (t : DRk K G as ws es) : DRk K G as (mergeK vs ws) (mergeD ds es) := by
  unfold mergeK mergeD
  induction ws generalizing vs ds es with
  | nil => cases t; exact h
  | cons w ws ih =>
    cases t with
    | cons a b =>
      rw [List.foldl_cons, List.foldl_cons]
      exact ih (h.put a) b
end
section
variable {K : PySem.W.Frag} {W : WX} {c : Cf} {X : Cx} {a b e o : Expr} {es : List Expr} {f g h : EF} {pos apos cpos p : Pos}
theorem asDct_ok (S : c.ok K) {v : V} {d : D} {kvs : List (Key × D)} (r : c.DR K v d) (h : asDct d c.st = some kvs) : ∃ a vs, v = .ref a ∧ Rd c.H a (.dK vs) ∧ DRk K c.G c.as vs kvs := by
  unfold asDct at h
  split at h
  · cases h
    cases r with
    | dct h1 h2 => exact ⟨_, _, rfl, .inr ⟨_, S.ex _ _ h1⟩, h2⟩
  · next k =>
    split at h
    · next xs hk =>
      cases h
      obtain ⟨a, h1, h2, vs, h3, h4⟩ := S.cell k _ hk
      cases r with
      | cel h5 => rw [h1] at h5; cases h5; exact ⟨a, vs, rfl, .inl h3, h4⟩
    · cases h
  · cases h
theorem keyD_ok {v : V} {d : D} {k : Key} (r : c.DR K v d) (h : keyD d = some k) : v = kV k := by
  cases r with
  | int i => cases h; rfl
  | str x => cases h; rfl
  | _ => cases h
def zDGet (x y : D) (st : ST) : Res D := match asDct x st, keyD y with
  | some kvs, some k => match getK kvs k with
    | some d => .ok d st
    | none => .stuck
  | _, _ => .stuck
theorem x_dget (hu : X.A.units + 1 < cLine) (ho : PX X W o f) (hi : PX X W a g) (hs : NoSl a := by exact fun _ _ => rfl) : PX X W (.Subscript o a pos) (f2 zDGet f g) := pe_imp (pe_dget hu ho hi hs) fun σ H Q w => by
  obtain ⟨c, sl, rfl, S, L, P⟩ := w
  refine ⟨c, sl, rfl, S, L, Post.bind P fun v d c1 s1 o1 r1 P1 => ?_⟩
  refine ⟨c1, sl, rfl, o1, s1.sl L, Post.bind P1 fun v2 d2 c2 s2 o2 r2 P2 => ?_⟩
  unfold zDGet at P2
  split at P2
  · next kvs k h1 h2 =>
    split at P2
    · next d3 h3 =>
      obtain ⟨a, vs, rfl, h4, h5⟩ := asDct_ok o2 (s2.dr r1) h1
      have h6 := keyD_ok r2 h2
      obtain ⟨w, h7, h8⟩ := (h5.val k).2 d3 h3
      exact ⟨a, w, rfl, .inl ⟨vs, k, h4, h6, h7.symm⟩, Post.ok o2 h8 P2⟩
    · exact P2.elim
  · exact P2.elim
def zDIn (neg : Bool) (x y : D) (st : ST) : Res D := match asDct y st, keyD x with
  | some kvs, some k => .ok (.bl (if neg then !(getK kvs k).isSome else (getK kvs k).isSome)) st
  | _, _ => .stuck
def fDNew : EF := fun _ st => .ok (.cel st.length) (st ++ [some (.dct [])])
theorem x_dnew : PX X W (.Dict [] [] pos) fDNew := pe_imp pe_dnewK fun σ H Q w => by
  obtain ⟨c, sl, rfl, S, L, P⟩ := w
  intro p hp
  obtain ⟨h1, h2⟩ := Cf.cellNew S hp (d := .dct []) (o := .dK []) ⟨[], upd_same, .nil⟩
  exact P _ _ h2 h1 rfl (.cel (by show (c.as ++ [p])[c.st.length]? = some p; rw [← S.len]; simp))
theorem dget_ok (S : c.ok K) {v w : V} {x y : D} {kvs : List (Key × D)} {k : Key} (r1 : c.DR K v x) (r2 : c.DR K w y) (h1 : asDct x c.st = some kvs) (h2 : keyD y = some k) :
    ∃ a o, v = .ref a ∧ DGet c.H a w o ∧ o.isSome = (getK kvs k).isSome := by
  obtain ⟨a, vs, rfl, h4, h5⟩ := asDct_ok S r1 h1
  have h6 := keyD_ok r2 h2
  refine ⟨a, _, rfl, .inl ⟨vs, k, h4, h6, rfl⟩, ?_⟩
  cases q : getK kvs k with
  | none => rw [(h5.val k).1 q]; rfl
  | some d => obtain ⟨u, h7, _⟩ := (h5.val k).2 d q; rw [h7]; rfl
theorem x_din (hu : X.A.units + 1 < cLine) (ha : PX X W a f) (hb : PX X W b g) (hm : behindInMarks .In b = false := by rfl) : PX X W (.Compare a [.In] [b] pos) (f2 (zDIn false) f g) := pe_imp (pe_cmp (pc_din hu ha hb) hm) fun σ H Q w => by
  obtain ⟨c, sl, rfl, S, L, P⟩ := w
  refine ⟨c, sl, rfl, S, L, Post.bind P fun v d c1 s1 o1 r1 P1 => ?_⟩
  refine ⟨c1, sl, rfl, o1, s1.sl L, Post.bind P1 fun v2 d2 c2 s2 o2 r2 P2 => ?_⟩
  unfold zDIn at P2
  split at P2
  · next kvs k h1 h2 =>
    obtain ⟨a, o, rfl, h3, h4⟩ := dget_ok o2 r2 (s2.dr r1) h1 h2
    refine ⟨a, o, rfl, h3, ?_⟩
    rw [h4]
    exact Post.ok o2 (.bl _) P2
  · exact P2.elim
theorem x_dnotIn (hu : X.A.units + 1 < cLine) (ha : PX X W a f) (hb : PX X W b g) (hm : behindInMarks .NotIn b = false := by rfl) : PX X W (.Compare a [.NotIn] [b] pos) (f2 (zDIn true) f g) := pe_imp (pe_cmp (pc_dnotin hu ha hb) hm) fun σ H Q w => by
  obtain ⟨c, sl, rfl, S, L, P⟩ := w
  refine ⟨c, sl, rfl, S, L, Post.bind P fun v d c1 s1 o1 r1 P1 => ?_⟩
  refine ⟨c1, sl, rfl, o1, s1.sl L, Post.bind P1 fun v2 d2 c2 s2 o2 r2 P2 => ?_⟩
  unfold zDIn at P2
  split at P2
  · next kvs k h1 h2 =>
    obtain ⟨a, o, rfl, h3, h4⟩ := dget_ok o2 r2 (s2.dr r1) h1 h2
    refine ⟨a, o, rfl, h3, ?_⟩
    rw [h4]
    exact Post.ok o2 (.bl _) P2
  · exact P2.elim
/-- x in y, whatever y is of these: a list, a tuple, a dict -/
def zIn2 (neg : Bool) (x y : D) (st : ST) : Res D := match asDct y st with
  | some _ => zDIn neg x y st
  | none => zIn neg x y st
theorem zIn2_or (neg : Bool) (x y : D) (st : ST) : zIn2 neg x y st = zDIn neg x y st ∨ zIn2 neg x y st = zIn neg x y st := by
  unfold zIn2
  split
  · exact .inl rfl
  · exact .inr rfl
theorem x_in2 (hu : X.A.units + 1 < cLine) (ha : PX X W a f) (hb : PX X W b g) (hm : behindInMarks .In b = false := by rfl) : PX X W (.Compare a [.In] [b] pos) (f2 (zIn2 false) f g) := px_or2 (zIn2_or false) (x_din hu ha hb hm) (x_in ha hb hm)
theorem x_notIn2 (hu : X.A.units + 1 < cLine) (ha : PX X W a f) (hb : PX X W b g) (hm : behindInMarks .NotIn b = false := by rfl) : PX X W (.Compare a [.NotIn] [b] pos) (f2 (zIn2 true) f g) := px_or2 (zIn2_or true) (x_dnotIn hu ha hb hm) (x_notIn ha hb hm)
def zSub2 (x y : D) (st : ST) : Res D := match asDct x st with
  | some _ => zDGet x y st
  | none => zIx x y st
theorem x_sub2 (hu : X.A.units + 1 < cLine) (ho : PX X W o f) (hi : PX X W a g) (hs : NoSl a := by exact fun _ _ => rfl) (hs2 : PlainIx a := by intro _ _; rfl) : PX X W (.Subscript o a pos) (f2 zSub2 f g) :=
  px_or2 (fun x y st => by unfold zSub2; split; exact .inl rfl; exact .inr rfl) (x_dget hu ho hi hs) (x_ix ho hi hs2)
/-- d[k] = v -/
def fDPut (f g h : EF) : SF := fun sl st => (h sl st).bind fun d st1 => (f sl st1).bind fun x st2 => (g sl st2).bind fun y st3 => match x, keyD y with
  | .cel k, some key => match st3[k]? with
    | some (some (.dct kvs)) => if szOk (kvs.length + 1) then .ok (.nx sl) (st3.set k (some (.dct (putD kvs key d)))) else .stuck
    | _ => .stuck
  | _, _ => .stuck
theorem y_dput {pos' : Pos} (hu : X.A.units + 1 < cLine) (he : PX X W e h) (ho : PX X W a f) (hi : PX X W b g) (hs : swapsWith e (some (.Subscript a b pos')) pos.line X.env = pure false := by rfl) : PY X W (.Assign [.Subscript a b pos'] e pos) (fDPut f g h) :=
  ps_imp (ps_dput hu ho hi he hs) fun E σ H w => by
  obtain ⟨c, sl, rfl, S, L, P⟩ := w
  refine ⟨c, sl, rfl, S, L, PostS.bind P fun v d c1 s1 o1 r1 P1 => ?_⟩
  refine ⟨c1, sl, rfl, o1, s1.sl L, PostS.bind P1 fun v2 d2 c2 s2 o2 r2 P2 => ?_⟩
  refine ⟨c2, sl, rfl, o2, s2.sl (s1.sl L), PostS.bind P2 fun v3 d3 c3 s3 o3 r3 P3 => ?_⟩
  have r2 := s3.dr r2
  have r1 := s3.dr (s2.dr r1)
  cases d2 with
  | cel k =>
    split at P3
    · next kk key hk0 hk2 =>
      cases hk0
      split at P3
      · next kvs hk =>
        split at P3
        · next hz =>
          obtain ⟨a, z1, _, vs, z3, z4⟩ := o3.cell k _ hk
          cases r2 with
          | cel h1 =>
            rw [z1] at h1; cases h1
            obtain ⟨h2, h3⟩ := Cf.cellSet (d' := .dct (putD kvs key d)) (o := .dK (putK vs key v)) o3 hk z1 ⟨putK vs key v, upd_same, z4.put r1⟩
            refine ⟨a, _, rfl, .inl ⟨vs, key, z3, keyD_ok r3 hk2, ?_, rfl⟩, ?_⟩
            · have := szOk.le hz
              rw [z4.length]; omega
            · exact P3 ⟨c3.G, upd c3.H a (.dK (putK vs key v)), c3.as, c3.st.set k (some (.dct (putD kvs key d)))⟩ h3 h2 rfl σ (h3.sl (s3.sl (s2.sl (s1.sl L))))
        · exact P3.elim
      · exact P3.elim
    · exact P3.elim
  | _ => exact P3.elim
end
end Rq
set_option Elab.async false
set_option linter.all false
set_option maxRecDepth 100000
set_option maxHeartbeats 4000000
/-! Rq, part 12: what is frozen; walks over dicts; dict(pairs); instances: fields, made ones. -/
namespace Rq
open PySem PySem.Spec PyProof.Rows L2
section
variable {K : PySem.W.Frag} {W : WX} {c : Cf} {X : Cx} {a b e o : Expr} {es : List Expr} {f g h : EF} {pos apos cpos p : Pos}
theorem pe_fz {t : TE} (p : PE X e t) : PE X e (fun σ H Q => t σ H fun v H1 => Q v H1 ∨ ∃ a u, v = .ref a ∧ H1 a = some u ∧ Mut (some u) ∧ ∀ od, Q v (upd H1 a (.frz od u))) :=
  ⟨fun pins s σ H Q I w => thn (p.run pins s σ H _ I w) fun u s1 ⟨v, H1, I1, r, q⟩ => by
    rcases q with q | ⟨a, o, rfl, h1, h2, h3⟩
    · exact ⟨v, H1, I1, r, q⟩
    · obtain ⟨od, I2⟩ := I1.lock h1 h2
      exact ⟨_, _, I2, r, h3 od⟩⟩
/-- a cell becomes a tree, whatever it is -/
def zFz : D → ST → Res D
  | .cel k, st => match st[k]? with
    | some (some (.lst xs)) => .ok (.lst xs) (st.set k none)
    | some (some (.dct xs)) => .ok (.dct xs) (st.set k none)
    | some (some (.ins C xs)) => .ok (.ins C xs) (st.set k none)
    | _ => .stuck
  | d, st => .ok d st
theorem fz_ok (S : c.ok K) {v : V} {d : D} {Q : VK} (r : c.DR K v d) (P : Post K W c (RlD K) Q (zFz d c.st)) : Q v c.H ∨ ∃ a u, v = .ref a ∧ c.H a = some u ∧ Mut (some u) ∧ ∀ od, Q v (upd c.H a (.frz od u)) := by
  unfold zFz at P
  split at P
  · next k =>
    split at P
    · next xs hk =>
      obtain ⟨a, h1, h2, vs, h3, h4⟩ := S.cell k _ hk
      cases r with
      | cel h5 =>
        rw [h1] at h5; cases h5
        obtain ⟨z1, z2, _⟩ := Cf.frzO (o := .lst vs) S hk h1
        rw [upd_self h3] at z1 z2
        exact .inl (P _ ⟨upd c.G a (.lst vs), c.H, c.as, c.st.set k none⟩ z2 z1 rfl (.lst upd_same (h4.mono z2.ex (Pf.refl _))))
    · next xs hk =>
      obtain ⟨a, h1, h2, vs, h3, h4⟩ := S.cell k _ hk
      cases r with
      | cel h5 =>
        rw [h1] at h5; cases h5
        refine .inr ⟨a, _, rfl, h3, trivial, fun od => ?_⟩
        obtain ⟨z1, z2, _⟩ := Cf.frzO (o := .frz od (.dK vs)) S hk h1
        exact P _ _ z2 z1 rfl (.dct upd_same (h4.mono z2.ex (Pf.refl _)))
    · next C xs hk =>
      obtain ⟨a, h1, h2, dx, vs, h3, h4⟩ := S.cell k _ hk
      cases r with
      | cel h5 =>
        rw [h1] at h5; cases h5
        obtain ⟨z1, z2, _⟩ := Cf.frzO (o := .ins C dx vs) S hk h1
        rw [upd_self h3] at z1 z2
        exact .inl (P _ ⟨upd c.G a (.ins C dx vs), c.H, c.as, c.st.set k none⟩ z2 z1 rfl (.ins upd_same (h4.mono z2.ex (Pf.refl _))))
    · exact P.elim
  · exact .inl (P v c (Step.refl _) S rfl r)
theorem x_fz (h : PX X W e f) : PX X W e (f1 zFz f) := pe_imp (pe_fz h) fun σ H Q w => by
  obtain ⟨c, sl, rfl, S, L, P⟩ := w
  exact ⟨c, sl, rfl, S, L, Post.bind P fun v d c1 s1 o1 r1 P1 => fz_ok o1 r1 P1⟩
/-! ### walks over dicts -/
def fKeysI (f : EF) : AF := fun sl st => (f sl st).bind fun d st1 => match d with
  | .dct kvs => .ok (kvs.map fun p => kD p.1) st1
  | _ => .stuck
theorem xi_keys {tg : Expr} (h : PX X W e f) : XI X W tg e (fKeysI f) := pi_imp (pi_keys h) fun σ H R w => by
  obtain ⟨c, sl, rfl, S, L, P⟩ := w
  refine ⟨c, sl, rfl, S, L, Post.bind P fun v d c1 s1 o1 r1 P1 => ?_⟩
  cases d with
  | dct kvs =>
    cases r1 with
    | dct h1 h2 => exact ⟨_, _, rfl, .inl ⟨_, o1.ex _ _ h1, P1 _ c1 (Step.refl _) o1 rfl (ylds_keys h1 h2)⟩⟩
  | _ => exact P1.elim
/-- any walk over a thing that stands still -/
def fWalk (f : EF) : AF := fun sl st => (f sl st).bind fun d st1 => match d with
  | .lst xs => .ok xs st1
  | .lsr xs => .ok xs st1
  | .tup xs => .ok xs st1
  | .str z => .ok (signsD z) st1
  | .dct kvs => .ok (kvs.map fun p => kD p.1) st1
  | _ => .stuck
theorem xi_walk {tg : Expr} (h : PX X W e f) : XI X W tg e (fWalk f) := xi_case fun sl st => by
  cases q : f sl st with
  | stuck => exact ⟨_, xi_seq h, by unfold fSeqI fWalk; rw [q]; rfl⟩
  | err C d sl st => exact ⟨_, xi_seq h, by unfold fSeqI fWalk; rw [q]; rfl⟩
  | ok d st1 =>
    cases d with
    | dct kvs => exact ⟨_, xi_keys h, by unfold fKeysI fWalk; rw [q]; rfl⟩
    | _ => exact ⟨_, xi_seq h, by unfold fSeqI fWalk; rw [q]; rfl⟩
/-! ### dict(pairs) -/
def pairD : D → Option (Key × D)
  | .tup [x, y] => (keyD x).map fun k => (k, y)
  | _ => none
def pairsD : List D → Option (List (Key × D))
  | [] => some []
  | x :: r => (pairD x).bind fun p => (pairsD r).map (p :: ·)
def zDictP : List D → ST → Res D
  | [x], st => match asL x st with
    | some xs => match pairsD xs with
      | some kvs => .ok (.cel st.length) (st ++ [some (.dct (mergeD [] kvs))])
      | none => .stuck
    | none => .stuck
  | _, _ => .stuck
theorem pairs_ok (S : c.ok K) : ∀ {vs : List V} {xs : List D} {kvs : List (Key × D)}, c.DRs K vs xs → pairsD xs = some kvs →
    ∃ ps us, vs = ps.map V.ref ∧ Paired (fun p kv => SqT K c.H p [kV kv.1, kv.2]) ps us ∧ DRk K c.G c.as us kvs
  | _, _, _, .nil, h => by cases h; exact ⟨[], [], rfl, .nil, .nil⟩
  | _, _, _, .cons (v := v) (d := d) r t, h => by
    unfold pairsD at h
    obtain ⟨p, h1, h2⟩ := Option.bind_eq_some_iff.mp h
    obtain ⟨q, h3, rfl⟩ := Option.map_eq_some_iff.mp h2
    obtain ⟨ps, us, rfl, h4, h5⟩ := pairs_ok S t h3
    unfold pairD at h1
    split at h1
    · next x y =>
      obtain ⟨k, h6, rfl⟩ := Option.map_eq_some_iff.mp h1
      cases r with
      | tup h7 h8 =>
        cases h8 with
        | cons r1 t1 =>
          cases t1 with
          | cons r2 t2 =>
            cases t2
            refine ⟨_ :: ps, (k, _) :: us, rfl, .cons ?_ h4, .cons r2 h5⟩
            have := keyD_ok r1 h6
            subst this
            exact S.ex.t h7
    · cases h1
abbrev rDictP (K : PySem.W.Frag) : List V → Hp → VK → Prop := fun xs H Q => ∃ a ps kvs, xs = [V.ref a] ∧ SqL K H a (List.map V.ref ps) ∧ Paired (fun p kv => SqT K H p [kV kv.fst, kv.snd]) ps kvs ∧ ∀ (p : Addr), H p = none → Q (V.ref p) (upd H p (HO.dK (mergeK [] kvs)))
theorem zDictP_ok : OpA K W (rDictP K) zDictP := fun c vs ds Q S r P => by
  unfold zDictP at P
  split at P
  · next x st =>
    split at P
    · next xs hx =>
      split at P
      · next kvs hk =>
        cases r with
        | cons r1 t =>
          cases t
          obtain ⟨a, ws, rfl, h1, h2⟩ := asL_ok S r1 hx
          obtain ⟨ps, us, rfl, h3, h4⟩ := pairs_ok S h2 hk
          refine ⟨a, ps, us, rfl, h1, h3, fun p hp => ?_⟩
          obtain ⟨z1, z2⟩ := Cf.cellNew S hp (d := .dct (mergeD [] kvs)) (o := .dK (mergeK [] us)) ⟨_, upd_same, (DRk.merge .nil h4).mono (Ex.refl _) (Pf.app _ _)⟩
          exact P _ _ z2 z1 rfl (.cel (by show (c.as ++ [p])[c.st.length]? = some p; rw [← S.len]; simp))
      · exact P.elim
    · exact P.elim
  · exact P.elim
/-! ### instances -/
def asIns (d : D) (st : ST) : Option (Addr × List (Str × D)) := match d with
  | .ins C fs => some (C, fs)
  | .cel k => match st[k]? with
    | some (some (.ins C fs)) => some (C, fs)
    | _ => none
  | _ => none
theorem asIns_ok (S : c.ok K) {v : V} {d : D} {C : Addr} {fs : List (Str × D)} (r : c.DR K v d) (h : asIns d c.st = some (C, fs)) : ∃ a dx vs, v = .ref a ∧ c.H a = some (.ins C dx vs) ∧ DRf K c.G c.as vs fs := by
  unfold asIns at h
  split at h
  · cases h
    cases r with
    | ins h1 h2 => exact ⟨_, _, _, rfl, S.ex _ _ h1, h2⟩
  · next k =>
    split at h
    · next C' xs hk =>
      cases h
      obtain ⟨a, h1, h2, dx, vs, h3, h4⟩ := S.cell k _ hk
      cases r with
      | cel h5 => rw [h1] at h5; cases h5; exact ⟨a, dx, vs, rfl, h3, h4⟩
    · cases h
  · cases h
theorem DRf.get {G : Hp} {as : List Addr} {vs : List (Str × V)} {fs : List (Str × D)} (r : DRf K G as vs fs) {x : Str} {d : D} (h : fs.lookup x = some d) : ∃ v, vs.lookup x = some v ∧ DR K G as v d := by
  induction vs generalizing fs with
  | nil => cases r; cases h
  | cons v vs ih =>
    cases r with
    | @cons k v' d' _ ds r t =>
      rw [List.lookup_cons] at h ⊢
      cases q : x == k with
      | true => simp only [q] at h ⊢; cases h; exact ⟨v', rfl, r⟩
      | false => simp only [q] at h ⊢; exact ih t h
theorem DRf.length {G : Hp} {as : List Addr} {vs : List (Str × V)} {fs : List (Str × D)} (r : DRf K G as vs fs) : vs.length = fs.length := by
  induction vs generalizing fs with
  | nil => cases r; rfl
  | cons v vs ih => cases r with | cons r t => simp [ih t]
def setF (x : Str) (d : D) : List (Str × D) → List (Str × D)
  | [] => [(x, d)]
  | (y, e) :: r => if y = x then (y, d) :: r else (y, e) :: setF x d r
theorem DRf.put {G : Hp} {as : List Addr} {vs : List (Str × V)} {fs : List (Str × D)} (r : DRf K G as vs fs) {x : Str} {v : V} {d : D} (q : DR K G as v d) : DRf K G as (putF x v vs) (setF x d fs) := by
  induction vs generalizing fs with
  | nil => cases r; exact .cons q .nil
  | cons w vs ih =>
    cases r with
    | @cons k v' d' _ ds r t =>
      show DRf K G as (if k = x then (k, v) :: vs else (k, v') :: putF x v vs) (if k = x then (k, d) :: ds else (k, d') :: setF x d ds)
      split
      · exact .cons q t
      · exact .cons r (ih t)
def zFld (C0 : Addr) (x : Str) (d : D) (st : ST) : Res D := match asIns d st with
  | some (C, fs) => if C = C0 then match fs.lookup x with
    | some d => .ok d st
    | none => .stuck else .stuck
  | none => .stuck
theorem x_fld {C0 : Addr} {x : Str} (hc : Cls X.K C0) (hn : NoAttr X.K C0 x) (ho : PX X W o f) (hb : attributeBase o x X.env (eval o X.env) = eval o X.env := by rfl) : PX X W (.Attribute o x pos) (f1 (zFld C0 x) f) :=
  pe_imp (pe_fld ho hb) fun σ H Q w => by
  obtain ⟨c, sl, rfl, S, L, P⟩ := w
  refine ⟨c, sl, rfl, S, L, Post.bind P fun v d c1 s1 o1 r1 P1 => ?_⟩
  unfold zFld at P1
  split at P1
  · next C fs h1 =>
    split at P1
    · next hC =>
      subst hC
      split at P1
      · next d2 h2 =>
        obtain ⟨a, dx, vs, rfl, h3, h4⟩ := asIns_ok o1 r1 h1
        obtain ⟨w, h5, h6⟩ := h4.get h2
        exact ⟨a, _, dx, vs, w, rfl, h3, hc, hn, h5, Post.ok o1 h6 P1⟩
      · exact P1.elim
    · exact P1.elim
  · exact P1.elim
def fFldPut (C0 : Addr) (x : Str) (f h : EF) : SF := fun sl st => (h sl st).bind fun d st1 => (f sl st1).bind fun y st2 => match y with
  | .cel k => match st2[k]? with
    | some (some (.ins C fs)) => if C = C0 ∧ fs.length < 900 then .ok (.nx sl) (st2.set k (some (.ins C (setF x d fs)))) else .stuck
    | _ => .stuck
  | _ => .stuck
theorem y_fld {C0 : Addr} {x : Str} {pos' : Pos} (hc : Cls X.K C0) (hn : NoAttr X.K C0 x) (he : PX X W e h) (ho : PX X W o f) (hs : swapsWith e (some (.Attribute o x pos')) pos.line X.env = pure false := by rfl) : PY X W (.Assign [.Attribute o x pos'] e pos) (fFldPut C0 x f h) :=
  ps_imp (ps_fld ho he hs) fun E σ H w => by
  obtain ⟨c, sl, rfl, S, L, P⟩ := w
  refine ⟨c, sl, rfl, S, L, PostS.bind P fun v d c1 s1 o1 r1 P1 => ?_⟩
  refine ⟨c1, sl, rfl, o1, s1.sl L, PostS.bind P1 fun v2 d2 c2 s2 o2 r2 P2 => ?_⟩
  have r1 := s2.dr r1
  cases d2 with
  | cel k =>
    dsimp only at P2
    split at P2
    · next C fs hk =>
      split at P2
      · next hz =>
        obtain ⟨rfl, hl⟩ := hz
        obtain ⟨a, z1, _, dx, vs, z3, z4⟩ := o2.cell k _ hk
        cases r2 with
        | cel h1 =>
          rw [z1] at h1; cases h1
          obtain ⟨h2, h3⟩ := Cf.cellSet (d' := .ins C (setF x d fs)) (o := .ins C dx (putF x v vs)) o2 hk z1 ⟨dx, putF x v vs, upd_same, z4.put r1⟩
          refine ⟨a, C, dx, vs, rfl, z3, hc, hn, by rw [z4.length]; omega, ?_⟩
          exact P2 ⟨c2.G, upd c2.H a (.ins C dx (putF x v vs)), c2.as, c2.st.set k (some (.ins C (setF x d fs)))⟩ h3 h2 rfl σ (h3.sl (s2.sl (s1.sl L)))
      · exact P2.elim
    · exact P2.elim
  | _ => exact P2.elim
end
end Rq
set_option Elab.async false
set_option linter.all false
set_option maxRecDepth 100000
set_option maxHeartbeats 4000000
/-! Rq, part 13: defs that may be called from anywhere; calls by keywords; instances made; own in and len. -/
namespace Rq
open PySem PySem.Spec PyProof.Rows L2
/-- what the written part says of a def, with its data told -/
structure D0 (P : Program) (w : World) (K : PySem.W.Frag) (mg : Str → Option Value) (base : Heap) (x : Str) (st : Stmt) (ps : List Str) (k n : Nat) (F : DF) : Prop where
  ex : ∃ (fa : Addr) (kV doc pm : Value) (an : Option Addr) (cdv ct : Value), FnOk P w K mg base CX0 k fa (PySem.W.fnOf x x (defArgs st) (defBody st) (defScope st) .none kV doc pm an cdv ct) ps (spF K n F) ∧ mg x = some (.ref fa) ∧ PySem.W.keepIn K (.ref fa) = true ∧
    Binds K (PySem.W.fnOf x x (defArgs st) (defBody st) (defScope st) .none kV doc pm an cdv ct) ps []
section
variable {P : Program} {w : World} {K : PySem.W.Frag} {mg : Str → Option Value} {base : Heap} {x : Str} {st : Stmt} {N ps : List Str} {k n : Nat} {F F' : DF}
theorem D0.df (d : D0 P w K mg base x st ps k n F) : Df P w K mg base x k n F := by
  obtain ⟨fa, kV, doc, pm, an, cdv, ct, h1, h2, h3, h4⟩ := d.ex
  exact ⟨fa, _, ps, ⟨h1.len, fun A outer s H args us vs Q E _ r => h1.run A outer s H args us vs Q E r⟩, h2, h3, h4⟩
theorem D0.imp (d : D0 P w K mg base x st ps k n F) (e : ∀ ds st, ds.length = n → F ds st = F' ds st ∨ F' ds st = .stuck) : D0 P w K mg base x st ps k n F' := by
  obtain ⟨fa, kV, doc, pm, an, cdv, ct, h1, h2, h3, h4⟩ := d.ex
  exact ⟨fa, kV, doc, pm, an, cdv, ct, ⟨fun vs H Q E z => h1.len vs H Q E (spF_imp e _ _ _ _ z), fun A outer s H args us vs Q E r e0 b v z => h1.run A outer s H args us vs Q E r e0 b v (spF_imp e _ _ _ _ z)⟩, h2, h3, h4⟩
theorem d0_of (T : At K mg x st) (S : FnScope N ps (defScope st)) (hn : ps.length = n) {F : SF}
    (hb : ∀ (kV doc pm : Value) (an : Option Addr) (cdv ct : Value) (us : List Value), us.length = ps.length → bindArgs (PySem.W.fnOf x x (defArgs st) (defBody st) (defScope st) .none kV doc pm an cdv ct) ⟨us, []⟩ = pure (ps.zip us))
    (h : ∀ (fa : Addr) (cdv : Value) (A : Around) (outer : List Env) (s : Shared) (H : Hp) (E : XK), Room k (A.deeper (envOfC x (defScope st) s.heap.objs.size fa cdv)) →
      PYs (cxOf CX0 P w K mg base N x (defScope st) fa cdv A outer s H E).nox W0 (defBody st) F) : D0 P w K mg base x st ps (k + 1) n fun ds st => (bodyF N.length F ds st).ne := by
  obtain ⟨fa, oc, od, an, osl, kV, doc, pm, cdv, ct, h1, h2, h3, h4⟩ := T.ex
  have Fu := fun_mk h2 h3 h4
  refine ⟨fa, kV, doc, pm, an, cdv, ct, ?_, h1, h4, Fu.binds hb⟩
  refine Fu.ok S (fun vs H Q E h => ?_) (fun cdv A outer s H vs Q E hr hs => ?_)
  · obtain ⟨c, ds, _, _, r, e, _⟩ := h
    rw [r.length, e, hn]
  · obtain ⟨c, ds, rfl, o, r, e, P⟩ := hs
    refine ⟨_, PSs.nox (h fa cdv A outer s c.H E hr), c, _, rfl, o, SlR.start r, ?_⟩
    show PostS K W0 c _ (F _ c.st)
    unfold bodyF at P
    dsimp only at P
    cases q : F (ds.map some ++ List.replicate (N.length - ds.length) none) c.st with
    | stuck => rw [q] at P; exact P
    | err C d sl st => rw [q] at P; exact P.elim
    | ok fl st1 =>
      rw [q] at P
      intro c1 s1 o1 e1
      subst e1
      cases fl with
      | nx sl => exact fun σ' L' => P .non c1 s1 o1 rfl .non
      | rt d => exact fun v r => P v c1 s1 o1 rfl r
      | bk sl => exact P.elim
      | ct sl => exact P.elim
end
section
variable {X : Cx} {W : WX} {e o a b : Expr} {es : List Expr} {pos p apos cpos : Pos} {f g : EF}
theorem x_d0 {x : Str} {st : Stmt} {ps : List Str} {k j n : Nat} {Fn : DF} {g : AF} (d : D0 X.prog X.w X.K X.mg X.base x st ps j n Fn) (hr : Room k X.A) (hj : j ≤ k) (ha : PXs X W (e :: es) g) (hg : Gl X x := by rfl) (hdb : (x == ("__debug__" : Str)) = false := by decide)
    (he : starEach (e :: es) X.env = (false, eval e X.env) :: starEach es X.env := by rfl) (hpl : (backTo pos (starEach es X.env)).any (·.1) = false := by rfl) : PX X W (.Call (.Name x p) (e :: es) [] pos) (fCall0 n Fn g) := by
  obtain ⟨fa, kV, doc, pm, an, cdv, ct, h1, h2, h3, h4⟩ := d.ex
  exact x_call0 h1 (hr.mono hj) h2 h3 h4 ha hg hdb he hpl
/-! ### keywords -/
def PKs (X : Cx) (W : WX) (kws : List Keyword) (g : AF) : Prop := PK X kws (tA X.K W g)
theorem pk_imp {kws : List Keyword} {t t' : TA} (p : PK X kws t) (i : ∀ σ H Q, t' σ H Q → t σ H Q) : PK X kws t' := ⟨fun pos pins s σ H Q I w => p.run pos pins s σ H Q I (i σ H Q w)⟩
theorem ks_nil : PKs X W [] fNil := pk_imp pk_nil fun σ H Q w => by
  obtain ⟨c, sl, rfl, S, L, P⟩ := w
  exact P [] c (Step.refl _) S rfl .nil
theorem ks_cons {kws : List Keyword} {g : AF} {f : EF} {nm : Option Str} {kpos : Pos} (ha : PX X W e f) (hr : PKs X W kws g) : PKs X W (⟨nm, e, kpos⟩ :: kws) (fCons f g) := pk_imp (pk_cons ha hr) fun σ H Q w => by
  obtain ⟨c, sl, rfl, S, L, P⟩ := w
  refine ⟨c, sl, rfl, S, L, Post.bind P fun v d c1 s1 o1 r1 P1 => ?_⟩
  refine ⟨c1, sl, rfl, o1, s1.sl L, Post.bind P1 fun vs ds c2 s2 o2 r2 P2 => ?_⟩
  exact P2 (v :: vs) c2 (Step.refl _) o2 rfl (.cons (s2.dr r1) r2)
/-- values in another sequence -/
def permL {α : Type} (ix : List Nat) (ws : List α) : List α := ix.filterMap fun i => ws[i]?
theorem vals_get : ∀ {vs : List V} {us : List Value} (h : Vals vs us) (i : Nat), (vs[i]? = none ∧ us[i]? = none) ∨ ∃ v u, vs[i]? = some v ∧ us[i]? = some u ∧ RelV v u
  | _, _, .nil, i => .inl ⟨by simp, by simp⟩
  | _, _, .cons r t, 0 => .inr ⟨_, _, by simp, by simp, r⟩
  | _, _, .cons r t, i + 1 => by
    rcases vals_get t i with ⟨a, b⟩ | ⟨v, u, a, b, z⟩
    · exact .inl ⟨by simpa using a, by simpa using b⟩
    · exact .inr ⟨v, u, by simpa using a, by simpa using b, z⟩
theorem vals_perm {vs : List V} {us : List Value} (h : Vals vs us) : ∀ ix : List Nat, Vals (permL ix vs) (permL ix us)
  | [] => .nil
  | i :: ix => by
    unfold permL
    rcases vals_get h i with ⟨a, b⟩ | ⟨v, u, a, b, z⟩
    · rw [List.filterMap_cons_none a, List.filterMap_cons_none b]; exact vals_perm h ix
    · rw [List.filterMap_cons_some a, List.filterMap_cons_some b]; exact .cons z (vals_perm h ix)
theorem drs_perm {K : PySem.W.Frag} {c : Cf} {vs : List V} {ds : List D} (h : c.DRs K vs ds) : ∀ ix : List Nat, c.DRs K (permL ix vs) (permL ix ds)
  | [] => .nil
  | i :: ix => by
    unfold permL
    cases q : ds[i]? with
    | none =>
      have q2 : vs[i]? = none := by
        rw [List.getElem?_eq_none_iff] at q ⊢
        rw [h.length]; exact q
      rw [List.filterMap_cons_none q2, List.filterMap_cons_none q]; exact drs_perm h ix
    | some d =>
      obtain ⟨v, h1, h2⟩ := h.get i d q
      rw [List.filterMap_cons_some h1, List.filterMap_cons_some q]; exact .cons h2 (drs_perm h ix)
def fCallK (ix : List Nat) (n : Nat) (F : DF) (g : AF) : EF := fun sl st => (g sl st).bind fun ds st1 => bif (permL ix ds).length == n then (F (permL ix ds) st1).ne else .stuck
theorem runF {pins : List (Addr × Obj)} {σ : L2.St} {H : Hp} {s : Shared} {Q : VK} {args : Args} {us : List Value} {vs : List V} {CX : CXT} {k : Nat} {f : Addr} {fd : FuncData} {ps : List Str} {sp : Sp} {E : XK} {A : Around} (F : FnOk X.prog X.w X.K X.mg X.base CX k f fd ps sp) (hA : A.frames = X.A.frames) (hr : Room k A)
    (hb : BindsTo s fd args (ps.zip us)) (hx : Passes CX X E) (I : Inv X pins σ H s) (r : Vals vs us) (h : sp vs H Q E) : wpAny (model X.prog X.w) A (call (.ref f) args.pos args.kw) (EP X pins σ Q) X.xe s := by
  have e0 := I.env0
  refine wpAny_call (codeAny_mono (F.run A X.stack s H args us vs Q E hr ⟨by rw [hA]; exact e0.frames, e0.mod, e0.bs, e0.bsz, e0.funs, e0.frf, e0.hok, e0.bare⟩ hb r h) ?_)
  intro res s2 q
  match res with
  | .error er => exact hx pins σ H s er s2 I q
  | .ok (.ret u) => exact I.after q
  | .ok .next => exact False.elim q
  | .ok .brk => exact False.elim q
  | .ok .cont => exact False.elim q
theorem x_dk {x : Str} {st : Stmt} {ps ks : List Str} {k j n : Nat} {Fn : DF} {g : AF} {kws : List Keyword} (ix : List Nat) (d : D0 X.prog X.w X.K X.mg X.base x st ps j n Fn) (hr : Room k X.A) (hj : j ≤ k) (ha : PKs X W kws g)
    (hb : ∀ (kV doc pm : Value) (an : Option Addr) (cdv ct : Value) (ws : List Value), (permL ix ws).length = ps.length → bindArgs (PySem.W.fnOf x x (defArgs st) (defBody st) (defScope st) .none kV doc pm an cdv ct) ⟨[], ks.zip ws⟩ = pure (ps.zip (permL ix ws)))
    (hg : Gl X x := by rfl) (hks : (backToKw pos (keywordEach kws X.env)).filterMap (·.1) = ks := by rfl) (hall : ((backToKw pos (keywordEach kws X.env)).all fun x => x.1.isSome) = true := by rfl) (hdb : (x == ("__debug__" : Str)) = false := by decide)
    (hpl : (((backTo pos (starEach [] X.env)).any fun x => x.1) || (backToKw pos (keywordEach kws X.env)).any fun x => x.1.isNone) = false := by rfl) : PX X W (.Call (.Name x p) [] kws pos) (fCallK ix n Fn g) := by
  obtain ⟨fa, kV, doc, pm, an, cdv, ct, h1, h2, h3, h4⟩ := d.ex
  constructor
  intro pins s σ H Q I w
  obtain ⟨c, sl, rfl, S, L, P⟩ := w
  refine wpAny_Call_Name_kw (ld_glob I hg h2 ?_ hdb)
  refine PySem.W.callWith_KW0 (h₀ := X.base) I.ok.mod.kin h3 hall (thn (ha.run pos pins s σ c.H (fun vs H1 => spF X.K n Fn (permL ix vs) H1 Q E0) I ⟨c, sl, rfl, S, L, ?_⟩) ?_) hpl
  · refine Post.bind P fun vs ds c1 s1 o1 r1 P1 => ?_
    cases hn : ((permL ix ds).length == n) with
    | false => rw [hn] at P1; exact P1.elim
    | true =>
      rw [hn] at P1
      exact ⟨c1, _, rfl, o1, drs_perm r1 ix, eq_of_beq hn, Post.ne P1⟩
  · rintro ws s1 ⟨vs, H1, I1, r, q⟩
    refine ⟨I1.kIn, ?_⟩
    have rr := vals_perm r ix
    have ll : (permL ix ws).length = ps.length := by rw [← rr.length]; exact h1.len _ _ _ _ q
    rw [hks]
    exact runF (args := ⟨[], ks.zip ws⟩) h1 rfl (hr.mono hj) (BindsTo.of_eq (hb kV doc pm an cdv ct ws ll)) pass0 I1 rr q
/-! ### instances made -/
structure M0 (P : Program) (w : World) (K : PySem.W.Frag) (mg : Str → Option Value) (base : Heap) (x : Str) (C : Addr) (k n : Nat) (F : DF) : Prop where
  ex : ∃ (f : Addr) (fd : FuncData) (ps : List Str), Mk K C f ∧ FnOk P w K mg base CX0 k f fd ps (spF K n F) ∧ mg x = some (.ref C) ∧ Binds K fd ps []
def fMake (n : Nat) (C : Addr) (F : DF) (g : AF) : EF := fun sl st => (g sl st).bind fun ds st1 => bif ds.length + 1 == n then (F (.cel st1.length :: ds) (st1 ++ [some (.ins C [])])).ne.bind (fun r st2 => match r with
  | .non => .ok (.cel st1.length) st2
  | _ => .stuck) else .stuck
theorem tE_make {K : PySem.W.Frag} {n : Nat} {C : Addr} {Fn : DF} {g : AF} {σ : L2.St} {H : Hp} {Q : VK} (w : tE K W (fMake n C Fn g) σ H Q) : tMake C (spF K n Fn) [] E0 (tA K W g) σ H Q := by
  obtain ⟨c, sl, rfl, S, L, P⟩ := w
  refine ⟨c, sl, rfl, S, L, Post.bind P fun vs ds c1 s1 o1 r1 P1 => ?_⟩
  intro x dx hx hdx ne
  cases hn : (ds.length + 1 == n) with
  | false => rw [hn] at P1; exact P1.elim
  | true =>
    rw [hn] at P1
    dsimp only [cond] at P1
    obtain ⟨o2, s2⟩ := Cf.fix (p := dx) (o := .own x) o1 hdx
    have hx2 : upd c1.H dx (.own x) x = none := by rw [upd_ne (fun e => ne e.symm)]; exact hx
    obtain ⟨o3, s3⟩ := Cf.cellNew (c := ⟨upd c1.G dx (.own x), upd c1.H dx (.own x), c1.as, c1.st⟩) (p := x) (d := .ins C []) (o := .ins C dx []) o2 hx2 ⟨dx, [], upd_same, .nil⟩
    have hk : (c1.as ++ [x])[c1.st.length]? = some x := by rw [← o1.len]; simp
    refine ⟨_, .cel c1.st.length :: ds, rfl, o3, .cons (.cel hk) (by rw [List.append_nil]; exact s3.drs (s2.drs r1)), by simpa using eq_of_beq hn, ?_⟩
    have P2 := Post.mono (s2.trans s3) P1
    refine Post.ne (W := W) ?_
    refine Post.bind P2 fun v d c4 s4 o4 r4 P4 => ?_
    cases d with
    | non =>
      cases r4
      exact ⟨rfl, P4 _ c4 (Step.refl _) o4 rfl (.cel (s4.pf _ _ hk))⟩
    | _ => exact P4.elim
theorem x_make {x : Str} {C : Addr} {k j n : Nat} {Fn : DF} {g : AF} (d : M0 X.prog X.w X.K X.mg X.base x C j n Fn) (hr : Room k X.A) (hj : j + 1 ≤ k) (ha : PXs X W (e :: es) g) (hg : Gl X x := by rfl) (hdb : (x == ("__debug__" : Str)) = false := by decide)
    (he : starEach (e :: es) X.env = (false, eval e X.env) :: starEach es X.env := by rfl) (hpl : (backTo pos (starEach es X.env)).any (·.1) = false := by rfl) : PX X W (.Call (.Name x p) (e :: es) [] pos) (fMake n C Fn g) := by
  obtain ⟨f, fd, ps, h1, h2, h3, h4⟩ := d.ex
  exact pe_imp (pe_make h1 h2 (hr.mono hj) hg h3 h4 .nil pass0 ha hdb he hpl) fun _ _ _ w => tE_make w
/-! ### own in, len -/
theorem instAt {pins : List (Addr × Obj)} {σ : L2.St} {H : Hp} {s : Shared} {a C dx : Addr} {fs : List (Str × V)} (I : L2.Inv X pins σ H s) (h : H a = some (.ins C dx fs)) : ∃ ox od, PySem.W.InstAt s.heap a ox C od := by
  have q := I.hok a _ h
  unfold ObjOk at q
  obtain ⟨_, _, _, q2, mA, q3, _⟩ := q
  unfold Heap.Ns1 at q3
  obtain ⟨o, es, ep, q5, _⟩ := q3
  exact ⟨_, some o, q2, rfl, rfl, q5⟩
theorem frAt {pins : List (Addr × Obj)} {σ : L2.St} {H : Hp} {s : Shared} (I : L2.Inv X pins σ H s) : ∃ m, Fr X.base X.env.locals s.heap m := by
  obtain ⟨m, h, _⟩ := I.loc
  exact ⟨m, h, fun b o e => (I.env0.bs b o e).1, Nat.le_trans I.ok.bsz I.ok.above⟩
structure Mt (P : Program) (w : World) (K : PySem.W.Frag) (mg : Str → Option Value) (base : Heap) (C : Addr) (m : Str) (k n : Nat) (F : DF) : Prop where
  ex : ∃ (f : Addr) (fd : FuncData) (ps : List Str), Meth K C m f ∧ FnOk P w K mg base CX0 k f fd ps (spF K n F) ∧ Binds K fd ps []
def rOwnIn (K : PySem.W.Frag) (C : Addr) (F : DF) : R2 := fun x y H Q => ∃ a dx fs, y = .ref a ∧ H a = some (.ins C dx fs) ∧ spF K 2 F [y, x] H (fun v H' => ∃ b, v = .bl b ∧ Q (.bl b) H') E0
theorem own_contains {C : Addr} {k : Nat} {F : DF} (d : Mt X.prog X.w X.K X.mg X.base C "__contains__" k 2 F) (hr : Room k X.A) {pins : List (Addr × Obj)} {s : Shared} {σ : L2.St} {H : Hp} {x y : V} {v u : Value} {Q : VK} (I : Inv X pins σ H s) (rx : RelV x v) (ry : RelV y u) (q : rOwnIn X.K C F x y H Q) :
    wpAny (model X.prog X.w) X.A (PySem.contains u v) (fun b s' => ∃ H', Inv X pins σ H' s' ∧ Q (.bl b) H') X.xe s := by
  obtain ⟨f, fd, ps, h1, h2, h3⟩ := d.ex
  obtain ⟨a, dx, fs, e, hi, q⟩ := q
  subst e
  obtain rfl : u = .ref a := ry
  obtain ⟨ox, od, i1⟩ := instAt I hi
  obtain ⟨m, i2⟩ := frAt I
  have hl : [Value.ref a, v].length = ps.length := by
    have := h2.len _ _ _ _ q
    simpa using this
  refine PySem.W.contains_K i2 I.ok.mod.kin i1 h1.at_ h1.fn (thn (runF (args := ⟨[.ref a, v], []⟩) (us := [.ref a, v]) h2 rfl hr ?_ pass0 I (.cons (show L2.RelV (.ref a) (.ref a) from rfl) (.cons rx .nil)) q) ?_)
  · have := h3 s [.ref a, v] I.kIn (by simpa using hl)
    simpa using this
  · rintro r s' ⟨v', H', I', r', b, rfl, q'⟩
    obtain rfl : r = .bool b := r'
    exact wpAny_truthy_bool ⟨H', I', q'⟩
theorem op_ownIn {C : Addr} {k : Nat} {F : DF} (d : Mt X.prog X.w X.K X.mg X.base C "__contains__" k 2 F) (hr : Room k X.A) : OpR X (compareOp .In) (rOwnIn X.K C F) := by
  intro pins s σ H x y v u Q I rx ry q
  unfold compareOp
  exact wpAny_bind (thn (own_contains d hr I rx ry q) fun b s' ⟨H', I', q'⟩ => wpAny_pure ⟨.bl b, H', I', rfl, q'⟩)
theorem op_ownNotIn {C : Addr} {k : Nat} {F : DF} (d : Mt X.prog X.w X.K X.mg X.base C "__contains__" k 2 F) (hr : Room k X.A) : OpR X (compareOp .NotIn) (fun x y H Q => rOwnIn X.K C F x y H fun v H' => ∃ b, v = .bl b ∧ Q (.bl (!b)) H') := by
  intro pins s σ H x y v u Q I rx ry q
  unfold compareOp
  exact wpAny_bind (thn (own_contains d hr I rx ry q) fun b s' ⟨H', I', b', e, q'⟩ => by
    cases e
    exact wpAny_pure ⟨.bl (!b), H', I', rfl, q'⟩)
def zOwnIn (neg : Bool) (C : Addr) (F : DF) (x y : D) (st : ST) : Res D := match asIns y st with
  | some (C', _) => if C' = C then (F [y, x] st).ne.bind (fun r st2 => match r with
    | .bl b => .ok (.bl (if neg then !b else b)) st2
    | _ => .stuck) else .stuck
  | none => .stuck
theorem zOwnIn_inv {K : PySem.W.Frag} {c : Cf} {neg : Bool} {C : Addr} {F : DF} {v w : V} {x y : D} {Q : VK} (S : c.ok K) (r1 : c.DR K v x) (r2 : c.DR K w y) (P : Post K W c (RlD K) Q (zOwnIn neg C F x y c.st)) :
    ∃ a dx fs, w = .ref a ∧ c.H a = some (.ins C dx fs) ∧ spF K 2 F [w, v] c.H (fun v H' => ∃ b, v = .bl b ∧ Q (.bl (if neg then !b else b)) H') E0 := by
  unfold zOwnIn at P
  split at P
  · next C' fs h1 =>
    split at P
    · next hC =>
      subst hC
      obtain ⟨a, dx, vs, rfl, h3, h4⟩ := asIns_ok S r2 h1
      refine ⟨a, dx, vs, rfl, h3, c, [y, x], rfl, S, .cons r2 (.cons r1 .nil), rfl, ?_⟩
      refine Post.ne (W := W) ?_
      refine Post.bind P fun v d c4 s4 o4 r4 P4 => ?_
      cases d with
      | bl b => cases r4; exact ⟨b, rfl, P4 _ c4 (Step.refl _) o4 rfl (.bl _)⟩
      | _ => exact P4.elim
    · exact P.elim
  · exact P.elim
/-- x in y: a list, a tuple, a dict, an instance of the class C -/
def zIn3 (neg : Bool) (C : Addr) (F : DF) (x y : D) (st : ST) : Res D := match asIns y st with
  | some _ => zOwnIn neg C F x y st
  | none => zIn2 neg x y st
theorem x_ownIn {C : Addr} {j k : Nat} {F : DF} (d : Mt X.prog X.w X.K X.mg X.base C "__contains__" j 2 F) (hr : Room k X.A) (hj : j ≤ k) (ha : PX X W a f) (hb : PX X W b g) (hm : behindInMarks .In b = false := by rfl) : PX X W (.Compare a [.In] [b] pos) (f2 (zOwnIn false C F) f g) :=
  x_cmp (op_ownIn d (hr.mono hj)) (fun c v w x y Q S r1 r2 P => zOwnIn_inv S r1 r2 P) ha hb hm
theorem x_ownNotIn {C : Addr} {j k : Nat} {F : DF} (d : Mt X.prog X.w X.K X.mg X.base C "__contains__" j 2 F) (hr : Room k X.A) (hj : j ≤ k) (ha : PX X W a f) (hb : PX X W b g) (hm : behindInMarks .NotIn b = false := by rfl) : PX X W (.Compare a [.NotIn] [b] pos) (f2 (zOwnIn true C F) f g) :=
  x_cmp (op_ownNotIn d (hr.mono hj)) (fun c v w x y Q S r1 r2 P => by
    obtain ⟨a, dx, fs, rfl, h1, h2⟩ := zOwnIn_inv S r1 r2 P
    refine ⟨a, dx, fs, rfl, h1, ?_⟩
    obtain ⟨c2, ds, e, o, r, hn, P2⟩ := h2
    refine ⟨c2, ds, e, o, r, hn, ?_⟩
    cases q : F ds c2.st with
    | ok d st =>
      rw [q] at P2
      intro v c3 s3 o3 e3 r3
      obtain ⟨b, rfl, z⟩ := P2 v c3 s3 o3 e3 r3
      exact ⟨b, rfl, b, rfl, z⟩
    | err C d sl st => rw [q] at P2; exact P2
    | stuck => rw [q] at P2; exact P2) ha hb hm
theorem x_in3 {C : Addr} {j k : Nat} {F : DF} (d : Mt X.prog X.w X.K X.mg X.base C "__contains__" j 2 F) (hr : Room k X.A) (hj : j ≤ k) (hu : X.A.units + 1 < cLine) (ha : PX X W a f) (hb : PX X W b g) (hm : behindInMarks .In b = false := by rfl) : PX X W (.Compare a [.In] [b] pos) (f2 (zIn3 false C F) f g) :=
  px_or2 (fun x y st => by unfold zIn3; split; exact .inl rfl; exact .inr rfl) (x_ownIn d hr hj ha hb hm) (x_in2 hu ha hb hm)
theorem x_notIn3 {C : Addr} {j k : Nat} {F : DF} (d : Mt X.prog X.w X.K X.mg X.base C "__contains__" j 2 F) (hr : Room k X.A) (hj : j ≤ k) (hu : X.A.units + 1 < cLine) (ha : PX X W a f) (hb : PX X W b g) (hm : behindInMarks .NotIn b = false := by rfl) : PX X W (.Compare a [.NotIn] [b] pos) (f2 (zIn3 true C F) f g) :=
  px_or2 (fun x y st => by unfold zIn3; split; exact .inl rfl; exact .inr rfl) (x_ownNotIn d hr hj ha hb hm) (x_notIn2 hu ha hb hm)
/-! len -/
theorem inv_toks {pins : List (Addr × Obj)} {σ : L2.St} {H : Hp} {s : Shared} (I : L2.Inv X pins σ H s) (t : Nat) : L2.Inv X pins σ H { heap := s.heap, gens := s.gens, drawn := s.drawn, toks := t, os := s.os } :=
  ⟨I.ok, I.os, I.bare, I.base, I.loc, I.cell, I.free, I.freeC, I.pin, I.hok, I.len⟩
def rOwnLen (K : PySem.W.Frag) (C : Addr) (F : DF) : List V → Hp → VK → Prop := fun xs H Q => ∃ a dx fs, xs = [.ref a] ∧ H a = some (.ins C dx fs) ∧ spF K 1 F [.ref a] H (fun v H' => ∃ i : Int, v = .int i ∧ 0 ≤ i ∧ i < 2 ^ 63 ∧ Q (.int i) H') E0
theorem call_ownLen {C : Addr} {k : Nat} {F : DF} (d : Mt X.prog X.w X.K X.mg X.base C "__len__" k 1 F) (hr : Room (k + 1) X.A) : CallR X (.builtin "len") (rOwnLen X.K C F) := by
  obtain ⟨f, fd, ps, h1, h2, h3⟩ := d.ex
  intro pins s σ H xs us Q I rx ⟨a, dx, fs, e, hi, q⟩
  subst e
  cases rx with
  | cons r1 t =>
    cases t
    rename_i u
    obtain rfl : u = .ref a := r1
    obtain ⟨ox, od, i1⟩ := instAt I hi
    obtain ⟨m, i2⟩ := frAt I
    have hl : [Value.ref a].length = ps.length := by
      have := h2.len _ _ _ _ q
      simpa using this
    refine PySem.W.len_K i2 I.ok.mod.kin i1 h1.at_ h1.fn (thn (runF (args := ⟨[.ref a], []⟩) (us := [.ref a]) h2 rfl ⟨hr.hd, by have := hr.dp; show X.A.depth + 3 * k + 5 < _; omega, by have := hr.un; show X.A.units + 1 + 16 * k + 200 < _; omega⟩ ?_ pass0 I (.cons (show L2.RelV (.ref a) (.ref a) from rfl) .nil) q) ?_)
    · have := h3 s [.ref a] I.kIn (by simpa using hl)
      simpa using this
    · rintro r s' ⟨v', H', I', r', i, rfl, g0, g1, q'⟩
      obtain ⟨t, rfl⟩ := r'
      exact ⟨⟨g0, g1⟩, .int i, H', inv_toks I' _, ⟨_, rfl⟩, q'⟩
end
end Rq
set_option Elab.async false
set_option linter.all false
set_option maxRecDepth 100000
set_option maxHeartbeats 4000000
/-! Rq, part 14: enumerate with a start; zip of tuples. -/
namespace Rq
open PySem PySem.Spec PyProof.Rows L2
/-- enumerate(list, start=c) -/
def IteC (K : PySem.W.Frag) (a : Addr) (c : Int) (n : Nat) : It :=
  { go := fun i H => i < n ∧ ∃ xs x, SqL K H a xs ∧ xs.length = n ∧ xs[i]? = some x,
    yld := fun i H v H' => ∃ T x, v = .ref T ∧ H T = none ∧ H' = upd H T (.tup [.int (c + (i : Nat)), x]) ∧ ∀ xs, SqL K H a xs → xs[i]? = some x,
    stop := fun i H => i = n ∧ ∃ xs, SqL K H a xs ∧ xs.length = n }
theorem turn_enumC {P : Program} {w : World} {K : PySem.W.Frag} {elts : List Expr} {kk : Nat} {tpos : Pos} (c : Int) (n : Nat) (a e it : Addr) :
    Turn P w K (.Tuple elts kk tpos) (IteC K a c n) [e, it] e fun i h => (∃ old, IsEnum h e it (c + (i : Nat)) old) ∧ h.IsListIter it a i ∧ e ≠ it ∧ e ≠ a ∧ a ≠ it where
  mem := by simp
  obj := by
    rintro i h ⟨⟨old, he⟩, ⟨o, h1, h2, h3⟩, _, _⟩ b hb
    rcases List.mem_cons.mp hb with rfl | hb
    · exact ⟨_, he, fun v z => by cases z⟩
    · rcases List.mem_cons.mp hb with rfl | hb
      · exact ⟨o, h1, fun v z => by rw [h3] at z; cases z⟩
      · cases hb
  keep := by
    rintro i h h' ⟨⟨old, he⟩, ⟨o, h1, h2, h3⟩, ne⟩ k
    exact ⟨⟨old, k e (by simp) _ he⟩, ⟨o, k it (by simp) _ h1, h2, h3⟩, ne⟩
  item := by
    rintro X rfl rfl rfl calm i pins s σ H E I fp ⟨⟨old, he⟩, hi, ne, ne2, ne3⟩ ⟨hn, xs, x, hs, hl, hx⟩
    obtain ⟨its, rv, pl, _⟩ := I.list hs
    have hd : X.A.handled = none := I.ok.hd calm
    have sz : its.toArray.size = n := by rw [← hl, rv.length]; simp
    have G := GoesN.enumFrom (prog := X.prog) (w := X.w) (A := X.A) (elts := elts) (x1 := kk) (pos := tpos) c (Draws.list (A := X.A.in1) hd it a ne3 its.toArray) e ne (by simp [ne, ne2]) (by simp)
    refine thn (G.goes i s (fun u s2 => ∃ x H', L2.Inv X pins σ H' s2 ∧ L2.RelV x u ∧ (IteC X.K a c n).yld i H x H' ∧ ((∃ old, IsEnum s2.heap e it (c + ((i + 1 : Nat) : Int)) old) ∧ s2.heap.IsListIter it a (i + 1) ∧ e ≠ it ∧ e ≠ a ∧ a ≠ it) ∧ ∀ b ∈ [e, it], H' b = none) E (by rw [sz]; exact hn) ⟨⟨old, he⟩, hi, pl.isList⟩ ?_) ?_
    · rintro v h' tk ⟨T, t, u, rfl, hT, hu, isT⟩ ⟨⟨old', he'⟩, hi', _⟩ fr _
      obtain ⟨u', h5, h6⟩ := rv.get hx
      have hu : its[i]? = some u := by simpa using hu
      rw [h5] at hu; cases hu
      have hT0 : H T = none := I.hok.fresh hT
      have J : L2.Inv X pins σ (upd H T (.tup [.int (c + (i : Nat)), x])) { heap := h', gens := s.gens, drawn := s.drawn, toks := tk, os := s.os } := by
        refine I.turnedNew (ch := [e, it]) fr fp hT ?_
        exact ⟨by show 2 ≤ sizeLine; decide, [.int (c + (i : Nat)) t, u], .cons ⟨_, rfl⟩ (.cons h6 .nil), isT⟩
      refine ⟨.ref T, _, J, rfl, ⟨T, x, rfl, hT0, rfl, fun ys hy => by rw [I.list_inj hy hs]; exact hx⟩, ⟨⟨old', he'⟩, hi', ne, ne2, ne3⟩, fun b hb => ?_⟩
      rw [upd_ne (fun z => ?_)]
      · exact (fp b hb).1
      · subst z
        rcases List.mem_cons.mp hb with rfl | hb
        · exact absurd (Heap.lt_size he) (Nat.not_lt.mpr hT)
        · rcases List.mem_cons.mp hb with rfl | hb
          · obtain ⟨o, h1, _⟩ := hi
            exact absurd (Heap.lt_size h1) (Nat.not_lt.mpr hT)
          · cases hb
    · rintro r s1 ⟨v, rfl, q⟩
      exact ⟨v, rfl, q⟩
  done := by
    rintro X rfl rfl rfl calm i pins s σ H E I fp ⟨⟨old, he⟩, hi, ne, ne2, ne3⟩ ⟨hn, xs, hs, hl⟩
    obtain ⟨its, rv, pl, _⟩ := I.list hs
    have hd : X.A.handled = none := I.ok.hd calm
    have sz : its.toArray.size = n := by rw [← hl, rv.length]; simp
    have G := GoesN.enumFrom (prog := X.prog) (w := X.w) (A := X.A) (elts := elts) (x1 := kk) (pos := tpos) c (Draws.list (A := X.A.in1) hd it a ne3 its.toArray) e ne (by simp [ne, ne2]) (by simp)
    refine thn (G.stops s (fun s2 => L2.Inv X pins σ H s2) E (by rw [sz, ← hn]; exact ⟨⟨old, he⟩, hi, pl.isList⟩) ?_) fun r s1 q => q
    intro h' tk fr _
    exact I.turnedL (ch := [e, it]) fr fp
  self := by
    rintro A i s Q E ⟨⟨old, he⟩, _⟩ q
    exact wpAny_pyIter_enum he q
section
variable {X : Cx} {W : WX} {a b e : Expr} {f g : EF} {pos p : Pos}
theorem vals_ref1 {a : Addr} : ∀ {us : List Value}, Vals [.ref a] us → us = [.ref a]
  | _, .cons r .nil => by
    have r : _ = Value.ref a := r
    rw [r]
theorem vals_int1 {k : Int} : ∀ {us : List Value}, Vals [.int k] us → ∃ t, us = [.int k t]
  | _, .cons ⟨t, e⟩ .nil => ⟨t, by rw [e]⟩
theorem callWith_typeK {M : Model} {A : Around} {E : Value → Shared → Prop} {s : Shared} {pos : Pos} {T : String} {env : Env} {e : Expr} {kws : List Keyword} {Q : Value → Shared → Prop} (hall : ((backToKw pos (keywordEach kws env)).all fun x => x.1.isSome) = true)
    (h : wpAny M A (spliced (backTo pos (starEach [e] env))) (fun vs s₁ => wpAny M A (evalAll (List.map (fun x => x.2) (backToKw pos (keywordEach kws env)))) (fun ks s₂ => wpAny M A (call (.type T) vs ((List.filterMap (fun x => x.1) (backToKw pos (keywordEach kws env))).zip ks)) Q E s₂) E s₁) E s)
    (hst : ((((backTo pos (starEach [e] env)).any fun x => x.1) || (backToKw pos (keywordEach kws env)).any fun x => x.1.isNone) = false)) (he : starEach [e] env = [(false, eval e env)] := by rfl) :
    wpAny M A (callWith pos (.type T) [] (backTo pos (starEach [e] env)) (backToKw pos (keywordEach kws env))) Q E s := by
  refine PySem.W.callWith_of (P := fun _ => True) hst (fun h _ => ⟨.machine, .inr (.inl rfl), fun A Q E s _ q => ?_⟩) (PyProof.Rows.evalArgs_kw2 hall (thn h fun vs s1 q => thn q fun ks s2 q2 => ⟨trivial, q2⟩) he)
  unfold keeperOf
  exact wpAny_pure q
theorem pi_enumS {elts : List Expr} {kk : Nat} {tpos p2 kp : Pos} {jj : Nat} {k : Int} {ta : TA} (hg : Gl X "enumerate") (hm : X.mg "enumerate" = none) (hc : X.calm = true) (ha : PA X [e] ta) (hk : -2 ^ 63 ≤ k) (hk2 : k < 2 ^ 63)
    (hs : starEach [e] X.env = [(false, eval e X.env)] := by rfl) (hall : ((backToKw pos (keywordEach [⟨some "start", .Constant (.int k) jj p2, kp⟩] X.env)).all fun x => x.1.isSome) = true := by rfl)
    (hst : ((((backTo pos (starEach [e] X.env)).any fun x => x.1) || (backToKw pos (keywordEach [⟨some "start", .Constant (.int k) jj p2, kp⟩] X.env)).any fun x => x.1.isNone) = false) := by rfl) 
    (hfm : List.filterMap (fun x => x.1) (backToKw pos (keywordEach [⟨some "start", .Constant (.int k) jj p2, kp⟩] X.env)) = [("start" : Str)] := by rfl) :
    PI X (.Tuple elts kk tpos) (.Call (.Name "enumerate" p) [e] [⟨some "start", .Constant (.int k) jj p2, kp⟩] pos) (fun σ H R => ta σ H fun vs H1 => ∃ a xs, vs = [.ref a] ∧ SqL X.K H1 a xs ∧ R (IteC X.K a k xs.length) H1) := ⟨fun pins s σ H R I w => by
  refine wpAny_Call_Name_kw (ld_blt I hg hm boot_enumerate ?_)
  refine callWith_typeK hall (thn (ha.run pos pins s σ H _ I w) fun us s1 ⟨vs, H1, I1, r1, a, xs, e1, hs1, q⟩ => ?_) hst hs
  subst e1
  obtain rfl := vals_ref1 r1
  refine thn ((pk_cons (nm := some ("start" : Str)) (kpos := kp) (pe_int (i := k) (j := jj) (pos := p2)) pk_nil).run pos pins s1 σ H1 (fun zs H2 => zs = [.int k] ∧ H2 = H1) I1 ?_) ?_
  · exact ⟨rfl, rfl⟩
  · rintro ks s2 ⟨zs, H2, I2, r2, rfl, rfl⟩
    obtain ⟨tk, rfl⟩ := vals_int1 r2
    rw [hfm]
    obtain ⟨its, rv, pl, _⟩ := I2.list hs1
    refine enum_begins_start (begins_list a its.toArray) pl.isList hk hk2 ?_
    intro h' hE hL hsz hkeep
    refine wpAny_pyIter_enum hE ?_
    have J := I2.kept (t' := s2.toks) hkeep
    have hap : a < s2.heap.objs.size := by
      obtain ⟨o, _, h1, _⟩ := pl
      exact Heap.lt_size h1
    refine ⟨s2.heap.objs.size + 1, [s2.heap.objs.size + 1, s2.heap.objs.size], _, _, H2, rfl, J, turn_enumC k xs.length a (s2.heap.objs.size + 1) s2.heap.objs.size, ⟨⟨_, by simpa using hE⟩, ⟨_, hL, rfl, rfl⟩, Nat.succ_ne_self _, Nat.ne_of_gt (Nat.lt_succ_of_lt hap), Nat.ne_of_lt hap⟩, ?_, q⟩
    intro b hb
    have hb2 : s2.heap.objs.size ≤ b := by
      rcases List.mem_cons.mp hb with rfl | hb
      · omega
      · rcases List.mem_cons.mp hb with rfl | hb
        · omega
        · cases hb
    exact I2.fpOk hb2 (I2.hok.fresh hb2)⟩
def enumC (c : Int) : List D → List D
  | [] => []
  | x :: r => .tup [.int c, x] :: enumC (c + 1) r
theorem enumC_length : ∀ (xs : List D) (c : Int), (enumC c xs).length = xs.length
  | [], _ => rfl
  | _ :: r, c => by simp [enumC, enumC_length r]
theorem enumC_get : ∀ (xs : List D) (c : Int) (i : Nat) (d : D), (enumC c xs)[i]? = some d → ∃ x, xs[i]? = some x ∧ d = .tup [.int (c + (i : Nat)), x]
  | [], c, i, d, h => by simp [enumC] at h
  | x :: r, c, 0, d, h => by simp [enumC] at h; exact ⟨x, by simp, by simp [h]⟩
  | x :: r, c, i + 1, d, h => by
    obtain ⟨y, h1, h2⟩ := enumC_get r (c + 1) i d (by simpa [enumC] using h)
    exact ⟨y, by simpa using h1, by rw [h2]; congr 3; push_cast; omega⟩
theorem ylds_enumC {K : PySem.W.Frag} {c : Cf} {a : Addr} {k : Int} {vs : List V} {xs : List D} (h1 : SqL K c.G a vs) (r1 : c.DRs K vs xs) : Ylds K c (IteC K a k vs.length) (enumC k xs) := by
  have e : (enumC k xs).length = vs.length := by rw [enumC_length, r1.length]
  refine ⟨fun i H x H' => ∃ T y, x = .ref T ∧ H T = none ∧ H' = upd H T (.tup [.int (k + (i : Nat)), y]) ∧ vs[i]? = some y, ?_, fun i x H H' d hd ex y => ?_⟩
  · rw [e]
    refine ⟨fun i H hi G => ⟨hi, vs, _, Ex.l G h1, rfl, List.getElem?_eq_getElem hi⟩, fun H G => ⟨rfl, vs, Ex.l G h1, rfl⟩, fun i H x H' hi G y => ?_⟩
    obtain ⟨T, z, rfl, h3, h4, h5⟩ := y
    exact ⟨T, z, rfl, h3, h4, h5 vs (Ex.l G h1)⟩
  · obtain ⟨T, z, rfl, h3, h4, h5⟩ := y
    obtain ⟨u, h6, rfl⟩ := enumC_get xs k i d hd
    exact .inr ⟨T, _, _, rfl, h3, h4, rfl, .cons (.int _) (.cons (r1.get2 h5 h6) .nil)⟩
def fEnumS (k : Int) (g : AF) : AF := fun sl st => (g sl st).bind fun ds st1 => match ds with
  | [.lst xs] => .ok (enumC k xs) st1
  | _ => .stuck
theorem xi_enumS {elts : List Expr} {kk : Nat} {tpos p2 kp : Pos} {jj : Nat} {k : Int} {g : AF} (hm : X.mg "enumerate" = none) (hc : X.calm = true) (ha : PXs X W [e] g) (hk : (decide (-1000 ≤ k ∧ k ≤ 1000)) = true := by decide) (hg : Gl X "enumerate" := by rfl)
    (hs : starEach [e] X.env = [(false, eval e X.env)] := by rfl) (hall : ((backToKw pos (keywordEach [⟨some "start", .Constant (.int k) jj p2, kp⟩] X.env)).all fun x => x.1.isSome) = true := by rfl)
    (hst : ((((backTo pos (starEach [e] X.env)).any fun x => x.1) || (backToKw pos (keywordEach [⟨some "start", .Constant (.int k) jj p2, kp⟩] X.env)).any fun x => x.1.isNone) = false) := by rfl)
    (hfm : List.filterMap (fun x => x.1) (backToKw pos (keywordEach [⟨some "start", .Constant (.int k) jj p2, kp⟩] X.env)) = [("start" : Str)] := by rfl) :
    XI X W (.Tuple elts kk tpos) (.Call (.Name "enumerate" p) [e] [⟨some "start", .Constant (.int k) jj p2, kp⟩] pos) (fEnumS k g) :=
  pi_imp (pi_enumS hg hm hc ha (by have := of_decide_eq_true hk; omega) (by have := of_decide_eq_true hk; omega) hs hall hst hfm) fun σ H R w => by
  obtain ⟨c, sl, rfl, S, L, P⟩ := w
  refine ⟨c, sl, rfl, S, L, Post.bind P fun vs ds c1 s1 o1 r1 P1 => ?_⟩
  split at P1
  · next xs =>
    cases r1 with
    | cons r t =>
      cases t
      cases r with
      | lst h1 h2 => exact ⟨_, _, rfl, o1.ex.l (sqOf h1), P1 _ c1 (Step.refl _) o1 rfl (ylds_enumC (sqOf h1) h2)⟩
  · exact P1.elim
end
end Rq
set_option Elab.async false
set_option linter.all false
set_option maxRecDepth 100000
set_option maxHeartbeats 4000000
/-! Rq, part 15: isinstance, methods of texts without arguments, stars, zip of tuples, str, int of texts, sorted ints. -/
namespace Rq
open PySem PySem.Spec PyProof.Rows L2
section
variable {K : PySem.W.Frag} {W : WX} {c : Cf} {X : Cx} {a b e o : PySem.Expr} {es : List PySem.Expr} {f g h : EF} {pos apos cpos p : Pos}
/-! isinstance -/
theorem x_bty {x : Str} {T : String} (hm : X.mg x = none) (hv : bootBuiltins x = some (.type T)) (hg : Gl X x := by rfl) (hn : x ≠ "__name__" := by decide) (hd : (x == ("__debug__" : Str)) = false := by decide) : PX X W (.Name x pos) (fC (.raw (.ty T))) :=
  pe_imp (pe_bltn hg hm hv (show L2.RelV (.ty T) (.type T) from rfl) hn hd) fun _ _ _ w => tE_c (fun _ => .raw _) w
def tyD (d : D) (st : ST) : Option String := match d with
  | .non => some "NoneType"
  | .bl _ => some "bool"
  | .int _ => some "int"
  | .str _ => some "str"
  | .lst _ => some "list"
  | .lsr _ => some "list"
  | .tup _ => some "tuple"
  | .dct _ => some "dict"
  | .cel k => match st[k]? with
    | some (some (.lst _)) => some "list"
    | some (some (.dct _)) => some "dict"
    | _ => none
  | _ => none
theorem tyD_ok (S : c.ok K) {v : V} {d : D} {T : String} (r : c.DR K v d) (h : tyD d c.st = some T) : TyX K c.H v (.type T) := by
  unfold tyD at h
  cases r with
  | non => cases h; exact .base .non
  | bl b => cases h; exact .base (.bl b)
  | int i => cases h; exact .base (.int i)
  | str x => cases h; exact .base (.str x)
  | lst h1 h2 => cases h; exact .base (.lst (S.ex _ _ h1))
  | lsr h1 h2 =>
    cases h
    rcases S.ex.l h1 with (q | ⟨o, q⟩) | ⟨o, its, n, q1, q2, _⟩
    · exact .base (.lst q)
    · exact .base (.frz q)
    · exact .kList q1 q2
  | tup h1 h2 =>
    cases h
    rcases S.ex.t h1 with (q | ⟨o, q⟩) | ⟨o, its, n, q1, q2, _⟩
    · exact .base (.tup q)
    · exact .fTuple q
    · exact .kTuple q1 q2
  | dct h1 h2 => cases h; exact .fDict (S.ex _ _ h1)
  | ins h1 h2 => cases h
  | raw v => cases h
  | exc h1 h2 h3 h4 => cases h
  | fn h1 h2 => cases h
  | @cel a k h1 =>
    dsimp only at h
    split at h
    · next xs hk =>
      cases h
      obtain ⟨a', z1, _, vs, z3, _⟩ := S.cell k _ hk
      rw [h1] at z1; cases z1
      exact .base (.lst z3)
    · next xs hk =>
      cases h
      obtain ⟨a', z1, _, vs, z3, _⟩ := S.cell k _ hk
      rw [h1] at z1; cases z1
      exact .base (.dK z3)
    · cases h
def zIsi : List D → ST → Res D
  | [x, .raw (.ty T)], st => match tyD x st with
    | some t => match kitB t T with
      | some b => .ok (.bl b) st
      | none => .stuck
    | none => .stuck
  | _, _ => .stuck
theorem zIsi_ok : OpA K W (rIsi K) zIsi := fun c vs ds Q S r P => by
  unfold zIsi at P
  split at P
  · next x T =>
    split at P
    · next t ht =>
      split at P
      · next b hb =>
        cases r with
        | cons r1 t1 =>
          cases t1 with
          | cons r2 t2 =>
            cases t2
            cases r2
            exact ⟨_, _, _, _, b, rfl, .ty T, tyD_ok S r1 ht, kit_ty hb, Post.ok S (.bl b) P⟩
      · exact P.elim
    · exact P.elim
  · exact P.elim
theorem x_isi {g : AF} (hm : X.mg "isinstance" = none) (ha : PXs X W (e :: es) g) (hg : Gl X "isinstance" := by rfl) (hv : bootBuiltins "isinstance" = some (.builtin "isinstance") := by exact PyProof.Rows.boot_isinstance)
    (hs : starEach (e :: es) X.env = (false, eval e X.env) :: starEach es X.env := by rfl) (hpl : (backTo pos (starEach es X.env)).any (·.1) = false := by rfl) : PX X W (.Call (.Name "isinstance" p) (e :: es) [] pos) (fA zIsi g) :=
  pe_imp (pe_callB call_isi hg hm hv ha (by decide) (by decide) hs hpl) fun _ _ _ w => tE_fA zIsi_ok w
/-! methods of texts -/
def fS0 (z : Str → D) (f : EF) : EF := fun sl st => (f sl st).bind fun x st1 => match x with
  | .str s => .ok (z s) st1
  | _ => .stuck
theorem x_m0 {id : String} {name : Str} {q : Str → Bool} (slot : Slot "str" name id) (hty : typeOf (.builtin id) = pure (.type "method_descriptor")) (hm : MtR X id fun x xs H Q => ∃ a, x = .str a ∧ xs = [] ∧ True ∧ Q (.bl (q a)) H) (ho : PX X W o f)
    (hb : attributeBase o name X.env (eval o X.env) = eval o X.env := by rfl) (hl : (apos.endLine == pos.line) = true := by rfl) : PX X W (.Call (.Attribute o name apos) [] [] pos) (fS0 (fun s => .bl (q s)) f) :=
  pe_imp (pe_m0 slot hty hm ho hb hl) fun σ H Q w => by
    obtain ⟨c, sl, rfl, S, L, P⟩ := w
    refine ⟨c, sl, rfl, S, L, Post.bind P fun v d c1 s1 o1 r1 P1 => ?_⟩
    cases d with
    | str s =>
      cases r1
      exact ⟨⟨s, rfl⟩, s, rfl, rfl, trivial, Post.ok o1 (.bl _) P1⟩
    | _ => exact P1.elim
theorem x_isascii (ho : PX X W o f) (hb : attributeBase o "isascii" X.env (eval o X.env) = eval o X.env := by rfl) (hl : (apos.endLine == pos.line) = true := by rfl) : PX X W (.Call (.Attribute o "isascii" apos) [] [] pos) (fS0 (fun s => .bl (Txt.isascii s)) f) := x_m0 PySem.F.slot_str_isascii PySem.F.type_str_isascii mt_isascii ho hb hl
theorem x_isalpha (ho : PX X W o f) (hb : attributeBase o "isalpha" X.env (eval o X.env) = eval o X.env := by rfl) (hl : (apos.endLine == pos.line) = true := by rfl) : PX X W (.Call (.Attribute o "isalpha" apos) [] [] pos) (fS0 (fun s => .bl (Txt.isalpha s)) f) := x_m0 PySem.F.slot_str_isalpha PySem.F.type_str_isalpha mt_isalpha ho hb hl
theorem x_islower (ho : PX X W o f) (hb : attributeBase o "islower" X.env (eval o X.env) = eval o X.env := by rfl) (hl : (apos.endLine == pos.line) = true := by rfl) : PX X W (.Call (.Attribute o "islower" apos) [] [] pos) (fS0 (fun s => .bl (Txt.islower s)) f) := x_m0 PySem.F.slot_str_islower PySem.F.type_str_islower mt_islower ho hb hl
theorem x_isdigit (ho : PX X W o f) (hb : attributeBase o "isdigit" X.env (eval o X.env) = eval o X.env := by rfl) (hl : (apos.endLine == pos.line) = true := by rfl) : PX X W (.Call (.Attribute o "isdigit" apos) [] [] pos) (fS0 (fun s => .bl (Txt.isdigit s)) f) := x_m0 PySem.F.slot_str_isdigit PySem.F.type_str_isdigit mt_isdigit ho hb hl
/-! stars -/
def fStar (f : EF) (g : AF) : AF := fun sl st => (f sl st).bind fun d st1 => match asSeq d st1 with
  | some xs => (g sl st1).bind fun ds st2 => .ok (xs ++ ds) st2
  | none => .stuck
theorem xs_star {g : AF} {p : Pos} (ha : PX X W e f) (hr : PXs X W es g) (hs : starEach (.Starred e p :: es) X.env = (true, eval e X.env) :: starEach es X.env := by rfl) : PXs X W (.Starred e p :: es) (fStar f g) := pa_imp (StX.pa_star ha hr hs) fun σ H Q w => by
  obtain ⟨c, sl, rfl, S, L, P⟩ := w
  refine ⟨c, sl, rfl, S, L, Post.bind P fun v d c1 s1 o1 r1 P1 => ?_⟩
  split at P1
  · next xs hx =>
    obtain ⟨a, vs, rfl, h1, h2⟩ := asSeq_ok o1 r1 hx
    refine ⟨a, vs, rfl, h1.symm, c1, sl, rfl, o1, s1.sl L, Post.bind P1 fun ws ds c2 s2 o2 r2 P2 => ?_⟩
    exact P2 _ c2 (Step.refl _) o2 rfl (DRs.app (s2.drs h2) r2)
  · exact P1.elim
/-! str(int), int(text), sorted(ints) -/
def zStr : List D → ST → Res D
  | [.int i], st => if i.natAbs.log2 < 1920 then .ok (.str (toString i)) st else .stuck
  | _, _ => .stuck
theorem zStr_ok : OpA K W (fun xs H Q => ∃ i, xs = [.int i] ∧ i.natAbs.log2 < 1920 ∧ Q (.str (toString i)) H) zStr := fun c vs ds Q S r P => by
  unfold zStr at P
  split at P
  · next i =>
    split at P
    · next h =>
      cases r with
      | cons r1 t => cases t; cases r1; exact ⟨i, rfl, h, Post.ok S (.str _) P⟩
    · exact P.elim
  · exact P.elim
abbrev rInt2 : List V → Hp → VK → Prop := fun xs H Q => ((∃ i, xs = [.int i] ∧ Q (.int i) H) ∨ ∃ k, xs = [.bl k] ∧ Q (.int (if k then 1 else 0)) H) ∨ ∃ a n, xs = [.str a] ∧ PySem.intText? a = some n ∧ a.length ≤ 640 ∧ Q (.int n) H
def zInt2 : List D → ST → Res D
  | [.str a], st => match PySem.intText? a with
    | some n => if a.length ≤ 640 then .ok (.int n) st else .stuck
    | none => .stuck
  | ds, st => zInt ds st
theorem zInt2_ok : OpA K W rInt2 zInt2 := fun c vs ds Q S r P => by
  unfold zInt2 at P
  split at P
  · next a =>
    split at P
    · next n hn =>
      split at P
      · next h =>
        cases r with
        | cons r1 t => cases t; cases r1; exact .inr ⟨a, n, rfl, hn, h, Post.ok S (.int _) P⟩
      · exact P.elim
    · exact P.elim
  · exact .inl (zInt_ok c vs _ Q S r P)
theorem call_int2 : CallR X (.type "int") rInt2 := Rq.CallR.or call_int1 call_int_str
def insI (x : Int) : List Int → List Int
  | [] => [x]
  | y :: r => if x ≤ y then x :: y :: r else y :: insI x r
def sortI : List Int → List Int
  | [] => []
  | x :: r => insI x (sortI r)
theorem insI_perm (x : Int) : ∀ l, (insI x l).Perm (x :: l)
  | [] => .refl _
  | y :: r => by
    unfold insI
    split
    · exact .refl _
    · exact ((insI_perm x r).cons y).trans (.swap ..)
theorem sortI_perm : ∀ l, (sortI l).Perm l
  | [] => .refl _
  | x :: r => (insI_perm x _).trans ((sortI_perm r).cons x)
theorem insI_pw (x : Int) : ∀ {l : List Int}, l.Pairwise (· ≤ ·) → (insI x l).Pairwise (· ≤ ·)
  | [], _ => by simp [insI]
  | y :: r, h => by
    unfold insI
    obtain ⟨h1, h2⟩ := List.pairwise_cons.mp h
    split
    · next q =>
      refine List.pairwise_cons.mpr ⟨fun z hz => ?_, h⟩
      rcases List.mem_cons.mp hz with rfl | hz
      · exact q
      · exact Int.le_trans q (h1 z hz)
    · next q =>
      refine List.pairwise_cons.mpr ⟨fun z hz => ?_, insI_pw x h2⟩
      rcases List.mem_cons.mp ((insI_perm x r).mem_iff.mp hz) with rfl | hz
      · omega
      · exact h1 z hz
theorem sortI_pw : ∀ l, (sortI l).Pairwise (· ≤ ·)
  | [] => .nil
  | x :: r => insI_pw x (sortI_pw r)
theorem sortI_is {l ys : List Int} (p : ys.Perm l) (h : ys.Pairwise (· ≤ ·)) : ys = sortI l := List.Perm.eq_of_pairwise (fun a b _ _ q r => Int.le_antisymm q r) h (sortI_pw l) (p.trans (sortI_perm l).symm)
def zSortI : List D → ST → Res D
  | [x], st => match asL x st with
    | some xs => match intsOf xs with
      | some ns => .ok (.lst ((sortI ns).map D.int)) st
      | none => .stuck
    | none => .stuck
  | _, _ => .stuck
theorem zSortI_ok : OpA K W (rSortedI K) zSortI := fun c vs ds Q S r P => by
  unfold zSortI at P
  split at P
  · next x st =>
    split at P
    · next xs hx =>
      split at P
      · next ns hn =>
        cases r with
        | cons r1 t =>
          cases t
          obtain ⟨a, us, rfl, h1, h2⟩ := asL_ok S r1 hx
          obtain ⟨rfl, rfl⟩ := intsOf_ok hn h2
          refine ⟨a, ns, rfl, h1, fun ys q p1 p2 hq => ?_⟩
          have e := sortI_is p1 p2
          subst e
          exact newTree S hq (ints_dr _) P
      · exact P.elim
    · exact P.elim
  · exact P.elim
/-! zip of tuples -/
theorem ylds_zipT {K : PySem.W.Frag} {c : Cf} {a b : Addr} {vs ws : List V} {xs ys : List D} (h1 : SqT K c.G a vs) (h2 : SqT K c.G b ws) (r1 : c.DRs K vs xs) (r2 : c.DRs K ws ys) : Ylds K c (RZ.ItzT K a b) (zipD xs ys) := by
  have e : (zipD xs ys).length = min vs.length ws.length := by rw [zipD_length, r1.length, r2.length]
  refine ⟨fun i H x H' => ∃ T y z, x = .ref T ∧ H T = none ∧ H' = upd H T (.tup [y, z]) ∧ vs[i]? = some y ∧ ws[i]? = some z, ?_, fun i x H H' d hd ex y => ?_⟩
  · rw [e]
    refine ⟨fun i H hi G => ⟨vs, ws, _, _, Ex.t G h1, Ex.t G h2, List.getElem?_eq_getElem (by omega), List.getElem?_eq_getElem (by omega)⟩, fun H G => ⟨vs, ws, Ex.t G h1, Ex.t G h2, by omega⟩, fun i H x H' hi G y => ?_⟩
    obtain ⟨T, y1, z, rfl, h3, h4, h5, h6⟩ := y
    exact ⟨T, y1, z, rfl, h3, h4, h5 vs (Ex.t G h1), h6 ws (Ex.t G h2)⟩
  · obtain ⟨T, y1, z, rfl, h3, h4, h5, h6⟩ := y
    obtain ⟨u, v, q1, q2, rfl⟩ := zipD_get xs ys i d hd
    exact .inr ⟨T, _, _, rfl, h3, h4, rfl, .cons (r1.get2 h5 q1) (.cons (r2.get2 h6 q2) .nil)⟩
def fZipA (g : AF) : AF := fun sl st => (g sl st).bind fun ds st1 => match ds with
  | [.tup xs, .tup ys] => .ok (zipD xs ys) st1
  | [x, y] => match asT x, asT y with
    | some xs, some ys => .ok (zipD xs ys) st1
    | _, _ => .stuck
  | _ => .stuck
theorem xi_zipA {elts : List PySem.Expr} {kk : Nat} {tpos p : Pos} {g : AF} (hm : X.mg "zip" = none) (ha : PXs X W [a, b] g) (hg : Gl X "zip" := by rfl) (hs : starEach [a, b] X.env = (false, eval a X.env) :: starEach [b] X.env := by rfl) (hpl : (backTo pos (starEach [b] X.env)).any (·.1) = false := by rfl) :
    XI X W (.Tuple elts kk tpos) (.Call (.Name "zip" p) [a, b] [] pos) (fZipA g) := pi_imp (RZ.pi_zipA hg hm ha hs hpl) fun σ H R w => by
  obtain ⟨c, sl, rfl, S, L, P⟩ := w
  refine ⟨c, sl, rfl, S, L, Post.bind P fun vs ds c1 s1 o1 r1 P1 => ?_⟩
  split at P1
  · next xs ys =>
    cases r1 with
    | cons ra t =>
      cases t with
      | cons rb t =>
        cases t
        cases ra with
        | tup h1 h2 =>
          cases rb with
          | tup h3 h4 => exact ⟨_, _, _, _, rfl, .inr ⟨o1.ex.t h1, o1.ex.t h3, P1 _ c1 (Step.refl _) o1 rfl (ylds_zipT h1 h3 h2 h4)⟩⟩
  · next x y _ =>
    split at P1
    · next xs ys hx hy =>
      cases r1 with
      | cons ra t =>
        cases t with
        | cons rb t =>
          cases t
          obtain ⟨a1, vs, rfl, h1, h2⟩ := asT_ok ra hx
          obtain ⟨b1, ws, rfl, h3, h4⟩ := asT_ok rb hy
          exact ⟨_, _, _, _, rfl, .inl ⟨o1.ex.l h1, o1.ex.l h3, P1 _ c1 (Step.refl _) o1 rfl (ylds_zip h1 h3 h2 h4)⟩⟩
    · exact P1.elim
  · exact P1.elim
end
end Rq
set_option Elab.async false
set_option linter.all false
set_option maxRecDepth 100000
set_option maxHeartbeats 4000000
/-! Rq, part 16: repr of lists and tuples of data. -/
namespace Rq
open PySem PySem.Spec PyProof.Rows L2
section
variable {K : PySem.W.Frag} {W : WX} {c : Cf} {X : Cx} {a b e o : PySem.Expr} {es : List PySem.Expr} {f g h : EF} {pos apos cpos p : Pos}
def reprOk (d : PyData) : Bool := d.showable && !d.hasDict && isDisplay d && decide (d.depth ≤ 100) && decide (d.shown.length ≤ 1000000)
abbrev rRepr (K : PySem.W.Frag) : List V → Hp → VK → Prop := fun xs H Q => ∃ x d, xs = [x] ∧ Dp K H x d ∧ reprOk d = true ∧ Q (.str d.shown) H
theorem call_repr (gd : X.A.guards = some []) (hu : X.A.units + 200 < cLine) : CallR X (.builtin "repr") (rRepr X.K) := by
  intro pins s σ H xs us Q I rx ⟨x, d, e, hd, hk, q⟩
  subst e
  cases rx with
  | cons r t =>
    cases t
    rename_i u
    unfold reprOk at hk
    simp only [Bool.and_eq_true, decide_eq_true_eq, Bool.not_eq_true'] at hk
    obtain ⟨⟨⟨⟨h1, h2⟩, h3⟩, h4⟩, h5⟩ := hk
    obtain ⟨as, rd⟩ := Dp.reads I d x u hd r
    have hr : ∃ a, u = .ref a := by
      cases rd with
      | list => exact ⟨_, rfl⟩
      | tuple => exact ⟨_, rfl⟩
      | dict => exact ⟨_, rfl⟩
      | _ => cases h3
    obtain ⟨a, rfl⟩ := hr
    refine PySem.repr_of_reads' rd h1 (fun z => by rw [h2] at z; cases z) gd (by omega) (fun b o e => e) (fun h' u tk k => ?_) (Nat.le_trans h5 (by decide))
    exact ⟨.str d.shown, H, I.kept k, ⟨u, rfl⟩, q⟩
def zRepr : List D → ST → Res D
  | [x], st => match toPyS x st with
    | some d => if reprOk d then .ok (.str d.shown) st else .stuck
    | none => .stuck
  | _, _ => .stuck
theorem zRepr_ok : OpA K W (rRepr K) zRepr := fun c vs ds Q S r P => by
  unfold zRepr at P
  split at P
  · next x =>
    split at P
    · next d hd =>
      split at P
      · next hk =>
        cases r with
        | cons r1 t => cases t; exact ⟨_, d, rfl, toPyS_ok S r1 hd, hk, Post.ok S (.str _) P⟩
      · exact P.elim
    · exact P.elim
  · exact P.elim
theorem x_repr {g : AF} (gd : X.A.guards = some []) (hu : X.A.units + 200 < cLine) (hm : X.mg "repr" = none) (ha : PXs X W (e :: es) g) (hg : Gl X "repr" := by rfl)
    (hs : starEach (e :: es) X.env = (false, eval e X.env) :: starEach es X.env := by rfl) (hpl : (backTo pos (starEach es X.env)).any (·.1) = false := by rfl) : PX X W (.Call (.Name "repr" p) (e :: es) [] pos) (fA zRepr g) :=
  x_bltn (call_repr gd hu) zRepr_ok hm PyProof.Rows.boot_repr ha hg (by decide) (by decide) hs hpl
end
end Rq
set_option Elab.async false
set_option linter.all false
set_option maxRecDepth 100000
set_option maxHeartbeats 4000000
/-! Rq, part 17: enumerate of a tuple. -/
namespace Rq
open PySem PySem.Spec PyProof.Rows L2
theorem iteB {α : Type} {M : Model} {A : Around} {E : Value → Shared → Prop} {s : Shared} {b : Bool} {t u : Sem α} {Q : α → Shared → Prop} (h1 : wpAny M A t Q E s) (h2 : wpAny M A u Q E s) : wpAny M A (if b = true then t else u) Q E s := by
  cases b
  · exact h2
  · exact h1
theorem meets_enum1 {v : Value} {o : Obj} {Hh : Heap → Prop} (B : Begins v o Hh) : Meets (Builtin.«enumerate.__new__» { pos := [.type "enumerate", v] }) fun _ R s => Hh s.heap ∧ R (Except.ok (Flow.ret (Value.ref (s.heap.push o).objs.size)))
   { heap := (s.heap.push o).push { cls := Value.type "enumerate", data := Data.fields #[Value.none, Value.bool false, Value.ref s.heap.objs.size, rawInt 0, Value.none, Value.none] }, gens := s.gens, drawn := s.drawn, toks := s.toks, os := s.os } := by
  refine Meets.of_wp fun prog w A R s h => ?_
  have fin : ∀ (st : Shared), st = s → wpAny (model prog w) A.in1 (do
      let it ← pyIter v
      let r ← Builtin.SmallTypes.newRecord (.type "enumerate") (Builtin.SmallTypes.ownedTupleFields ++ [it, rawInt 0, Value.none, Value.none])
      ret r) (fun fin s' => ∃ v, fin = Fin.done (Flow.ret v) ∧ R (Except.ok (Flow.ret v)) s') (fun e s' => R (Except.error e) s') st := by
    rintro _ rfl
    refine wpAny_bind (B.iter prog w A.in1 _ _ _ h.1 ?_)
    refine wpAny_bind ?_
    unfold Builtin.SmallTypes.newRecord
    refine wpAny_newObj_type ?_ (by simp [sizeOk, Builtin.SmallTypes.ownedTupleFields, sizeLine_eq])
    exact wpAny_pure ⟨_, rfl, h.2⟩
  unfold Builtin.«enumerate.__new__»
  refine wpAny_bind ?_
  unfold Builtin.SmallTypes.newClass
  dsimp only
  refine wpAny_bind ?_
  unfold isType
  refine wpAny_pure ?_
  simp only [Bool.not_true, Bool.false_eq_true, if_false]
  rw [sub_enumerate]
  refine wpAny_bind (wpAny_pure ?_)
  simp only [Bool.not_true, Bool.false_eq_true, if_false]
  refine wpAny_pure ?_
  dsimp only
  simp only [show (Value.type "enumerate" == Value.type "enumerate") = true by decide +kernel, if_true]
  refine wpAny_bind ?_
  unfold Builtin.SmallTypes.calledThroughType
  refine wpAny_bind (wpAny_stack_any fun st => wpAny_pure ?_)
  refine iteB ?_ ?_
  · refine wpAny_bind (wpAny_pure ?_)
    exact fin s rfl
  · refine wpAny_bind (wpAny_pure ?_)
    exact fin s rfl
/-- enumerate(tuple) -/
def IteT (K : PySem.W.Frag) (a : Addr) (c : Int) (n : Nat) : It :=
  { go := fun i H => i < n ∧ ∃ xs x, SqT K H a xs ∧ xs.length = n ∧ xs[i]? = some x,
    yld := fun i H v H' => ∃ T x, v = .ref T ∧ H T = none ∧ H' = upd H T (.tup [.int (c + (i : Nat)), x]) ∧ ∀ xs, SqT K H a xs → xs[i]? = some x,
    stop := fun i H => i = n ∧ ∃ xs, SqT K H a xs ∧ xs.length = n }
theorem turn_enumT {P : Program} {w : World} {K : PySem.W.Frag} {elts : List Expr} {kk : Nat} {tpos : Pos} (c : Int) (n : Nat) (a e it : Addr) :
    Turn P w K (.Tuple elts kk tpos) (IteT K a c n) [e, it] e fun i h => (∃ old, IsEnum h e it (c + (i : Nat)) old) ∧ h.IsTupleIter it a i ∧ e ≠ it ∧ e ≠ a ∧ a ≠ it where
  mem := by simp
  obj := by
    rintro i h ⟨⟨old, he⟩, ⟨o, h1, h2, h3⟩, _, _⟩ b hb
    rcases List.mem_cons.mp hb with rfl | hb
    · exact ⟨_, he, fun v z => by cases z⟩
    · rcases List.mem_cons.mp hb with rfl | hb
      · exact ⟨o, h1, fun v z => by rw [h3] at z; cases z⟩
      · cases hb
  keep := by
    rintro i h h' ⟨⟨old, he⟩, ⟨o, h1, h2, h3⟩, ne⟩ k
    exact ⟨⟨old, k e (by simp) _ he⟩, ⟨o, k it (by simp) _ h1, h2, h3⟩, ne⟩
  item := by
    rintro X rfl rfl rfl calm i pins s σ H E I fp ⟨⟨old, he⟩, hi, ne, ne2, ne3⟩ ⟨hn, xs, x, hs, hl, hx⟩
    obtain ⟨its, rv, pl, _⟩ := I.tuple hs
    have hd : X.A.handled = none := I.ok.hd calm
    have sz : its.toArray.size = n := by rw [← hl, rv.length]; simp
    have G := GoesN.enumFrom (prog := X.prog) (w := X.w) (A := X.A) (elts := elts) (x1 := kk) (pos := tpos) c (Draws.tuple (A := X.A.in1) hd it a ne3 its.toArray) e ne (by simp [ne, ne2]) (by simp)
    refine thn (G.goes i s (fun u s2 => ∃ x H', L2.Inv X pins σ H' s2 ∧ L2.RelV x u ∧ (IteT X.K a c n).yld i H x H' ∧ ((∃ old, IsEnum s2.heap e it (c + ((i + 1 : Nat) : Int)) old) ∧ s2.heap.IsTupleIter it a (i + 1) ∧ e ≠ it ∧ e ≠ a ∧ a ≠ it) ∧ ∀ b ∈ [e, it], H' b = none) E (by rw [sz]; exact hn) ⟨⟨old, he⟩, hi, pl⟩ ?_) ?_
    · rintro v h' tk ⟨T, t, u, rfl, hT, hu, isT⟩ ⟨⟨old', he'⟩, hi', _⟩ fr _
      obtain ⟨u', h5, h6⟩ := rv.get hx
      have hu : its[i]? = some u := by simpa using hu
      rw [h5] at hu; cases hu
      have hT0 : H T = none := I.hok.fresh hT
      have J : L2.Inv X pins σ (upd H T (.tup [.int (c + (i : Nat)), x])) { heap := h', gens := s.gens, drawn := s.drawn, toks := tk, os := s.os } := by
        refine I.turnedNew (ch := [e, it]) fr fp hT ?_
        exact ⟨by show 2 ≤ sizeLine; decide, [.int (c + (i : Nat)) t, u], .cons ⟨_, rfl⟩ (.cons h6 .nil), isT⟩
      refine ⟨.ref T, _, J, rfl, ⟨T, x, rfl, hT0, rfl, fun ys hy => by rw [I.tuple_inj hy hs]; exact hx⟩, ⟨⟨old', he'⟩, hi', ne, ne2, ne3⟩, fun b hb => ?_⟩
      rw [upd_ne (fun z => ?_)]
      · exact (fp b hb).1
      · subst z
        rcases List.mem_cons.mp hb with rfl | hb
        · exact absurd (Heap.lt_size he) (Nat.not_lt.mpr hT)
        · rcases List.mem_cons.mp hb with rfl | hb
          · obtain ⟨o, h1, _⟩ := hi
            exact absurd (Heap.lt_size h1) (Nat.not_lt.mpr hT)
          · cases hb
    · rintro r s1 ⟨v, rfl, q⟩
      exact ⟨v, rfl, q⟩
  done := by
    rintro X rfl rfl rfl calm i pins s σ H E I fp ⟨⟨old, he⟩, hi, ne, ne2, ne3⟩ ⟨hn, xs, hs, hl⟩
    obtain ⟨its, rv, pl, _⟩ := I.tuple hs
    have hd : X.A.handled = none := I.ok.hd calm
    have sz : its.toArray.size = n := by rw [← hl, rv.length]; simp
    have G := GoesN.enumFrom (prog := X.prog) (w := X.w) (A := X.A) (elts := elts) (x1 := kk) (pos := tpos) c (Draws.tuple (A := X.A.in1) hd it a ne3 its.toArray) e ne (by simp [ne, ne2]) (by simp)
    refine thn (G.stops s (fun s2 => L2.Inv X pins σ H s2) E (by rw [sz, ← hn]; exact ⟨⟨old, he⟩, hi, pl⟩) ?_) fun r s1 q => q
    intro h' tk fr _
    exact I.turnedL (ch := [e, it]) fr fp
  self := by
    rintro A i s Q E ⟨⟨old, he⟩, _⟩ q
    exact wpAny_pyIter_enum he q
section
variable {X : Cx} {W : WX} {a b e : PySem.Expr} {f g : EF} {pos p : Pos}
theorem call_enum1 {prog : Program} {w : World} {A : Around} {E : Value → Shared → Prop} {s : Shared} {v : Value} {o : Obj} {Hh : Heap → Prop} {Q : Value → Shared → Prop} (B : Begins v o Hh) (h : Hh s.heap)
    (q : ∀ h', IsEnum h' (s.heap.objs.size + 1) s.heap.objs.size 0 .none → h'.get? s.heap.objs.size = some o → h'.objs.size = s.heap.objs.size + 2 → (∀ (b : Addr) (u : Obj), s.heap.get? b = some u → h'.get? b = some u) → Q (.ref (s.heap.objs.size + 1)) { heap := h', gens := s.gens, drawn := s.drawn, toks := s.toks, os := s.os }) :
    wpAny (model prog w) A (call (.type "enumerate") [v]) Q E s := by
  refine callType_new F.called_enumerate (by decide) (F.typeCall_enumerate_1 _) (F.newCall_enumerate_1 _) (fun _ => F.args_object_init_2 _ _) F.entry_enumerate_new (meets_enum1 B) ⟨h, ?_⟩
  have e1 : (s.heap.push o).objs.size = s.heap.objs.size + 1 := PyProof.Rows.size_push' ..
  have e2 : ((s.heap.push o).push { cls := Value.type "enumerate", data := Data.fields #[Value.none, Value.bool false, Value.ref s.heap.objs.size, rawInt 0, Value.none, Value.none] }).get? (s.heap.objs.size + 1) = some { cls := Value.type "enumerate", data := Data.fields #[Value.none, Value.bool false, Value.ref s.heap.objs.size, rawInt 0, Value.none, Value.none] } := by
    rw [← e1]; exact Heap.get?_push_size _ rfl
  rw [e1]
  refine ⟨⟨_, e2, rfl⟩, q _ e2 (Heap.get?_push_of_some _ (Heap.get?_push_size _ B.free)) ?_ fun b u e => Heap.get?_push_of_some _ (Heap.get?_push_of_some _ e)⟩
  rw [PyProof.Rows.size_push', e1]
theorem pi_enumT {elts : List PySem.Expr} {kk : Nat} {tpos : Pos} {ta : TA} (hg : Gl X "enumerate") (hm : X.mg "enumerate" = none) (ha : PA X [e] ta) (hs : starEach [e] X.env = [(false, eval e X.env)] := by rfl) (hpl : (backTo pos (starEach [] X.env)).any (·.1) = false := by rfl) :
    PI X (.Tuple elts kk tpos) (.Call (.Name "enumerate" p) [e] [] pos) (fun σ H R => ta σ H fun vs H1 => ∃ a xs, vs = [.ref a] ∧ SqT X.K H1 a xs ∧ R (IteT X.K a 0 xs.length) H1) := ⟨fun pins s σ H R I w => by
  refine PyProof.Rows.Call_ (ld_blt I hg hm boot_enumerate (callWith_type1 (thn (ha.run pos pins s σ H _ I w) fun us s1 ⟨vs, H1, I1, r1, a, xs, e1, hs1, q⟩ => ?_) hs hpl))
  subst e1
  obtain rfl := vals_ref1 r1
  obtain ⟨its, rv, pl, _⟩ := I1.tuple hs1
  refine call_enum1 (begins_tuple a its.toArray) pl fun h' hE hL hsz hkeep => ?_
  refine wpAny_pyIter_enum hE ?_
  have J := I1.kept (t' := s1.toks) hkeep
  have hap : a < s1.heap.objs.size := by
    obtain ⟨o, h1, _⟩ := pl
    exact Heap.lt_size h1
  refine ⟨s1.heap.objs.size + 1, [s1.heap.objs.size + 1, s1.heap.objs.size], _, _, H1, rfl, J, turn_enumT 0 xs.length a (s1.heap.objs.size + 1) s1.heap.objs.size, ⟨⟨_, by simpa using hE⟩, ⟨_, hL, rfl, rfl⟩, Nat.succ_ne_self _, Nat.ne_of_gt (Nat.lt_succ_of_lt hap), Nat.ne_of_lt hap⟩, ?_, q⟩
  intro b hb
  have hb2 : s1.heap.objs.size ≤ b := by
    rcases List.mem_cons.mp hb with rfl | hb
    · omega
    · rcases List.mem_cons.mp hb with rfl | hb
      · omega
      · cases hb
  exact I1.fpOk hb2 (I1.hok.fresh hb2)⟩
theorem ylds_enumT {K : PySem.W.Frag} {c : Cf} {a : Addr} {k : Int} {vs : List V} {xs : List D} (h1 : SqT K c.G a vs) (r1 : c.DRs K vs xs) : Ylds K c (IteT K a k vs.length) (enumC k xs) := by
  have e : (enumC k xs).length = vs.length := by rw [enumC_length, r1.length]
  refine ⟨fun i H x H' => ∃ T y, x = .ref T ∧ H T = none ∧ H' = upd H T (.tup [.int (k + (i : Nat)), y]) ∧ vs[i]? = some y, ?_, fun i x H H' d hd ex y => ?_⟩
  · rw [e]
    refine ⟨fun i H hi G => ⟨hi, vs, _, Ex.t G h1, rfl, List.getElem?_eq_getElem hi⟩, fun H G => ⟨rfl, vs, Ex.t G h1, rfl⟩, fun i H x H' hi G y => ?_⟩
    obtain ⟨T, z, rfl, h3, h4, h5⟩ := y
    exact ⟨T, z, rfl, h3, h4, h5 vs (Ex.t G h1)⟩
  · obtain ⟨T, z, rfl, h3, h4, h5⟩ := y
    obtain ⟨u, h6, rfl⟩ := enumC_get xs k i d hd
    exact .inr ⟨T, _, _, rfl, h3, h4, rfl, .cons (.int _) (.cons (r1.get2 h5 h6) .nil)⟩
/-- enumerate of a list or a tuple -/
def fEnumA (g : AF) : AF := fun sl st => (g sl st).bind fun ds st1 => match ds with
  | [.tup xs] => .ok (enumC 0 xs) st1
  | [.lst xs] => .ok (enumD 0 xs) st1
  | [.lsr xs] => .ok (enumD 0 xs) st1
  | _ => .stuck
def fEnumT (g : AF) : AF := fun sl st => (g sl st).bind fun ds st1 => match ds with
  | [.tup xs] => .ok (enumC 0 xs) st1
  | _ => .stuck
theorem xi_enumT {elts : List PySem.Expr} {kk : Nat} {tpos : Pos} {g : AF} (hm : X.mg "enumerate" = none) (ha : PXs X W [e] g) (hg : Gl X "enumerate" := by rfl) (hs : starEach [e] X.env = [(false, eval e X.env)] := by rfl) (hpl : (backTo pos (starEach [] X.env)).any (·.1) = false := by rfl) :
    XI X W (.Tuple elts kk tpos) (.Call (.Name "enumerate" p) [e] [] pos) (fEnumT g) := pi_imp (pi_enumT hg hm ha hs hpl) fun σ H R w => by
  obtain ⟨c, sl, rfl, S, L, P⟩ := w
  refine ⟨c, sl, rfl, S, L, Post.bind P fun vs ds c1 s1 o1 r1 P1 => ?_⟩
  split at P1
  · next xs =>
    cases r1 with
    | cons r t =>
      cases t
      cases r with
      | tup h1 h2 => exact ⟨_, _, rfl, o1.ex.t h1, P1 _ c1 (Step.refl _) o1 rfl (ylds_enumT h1 h2)⟩
  · exact P1.elim
theorem xi_enumA {elts : List PySem.Expr} {kk : Nat} {tpos : Pos} {g : AF} (hm : X.mg "enumerate" = none) (ha : PXs X W [e] g) (hg : Gl X "enumerate" := by rfl) (hs : starEach [e] X.env = [(false, eval e X.env)] := by rfl) (hpl : (backTo pos (starEach [] X.env)).any (·.1) = false := by rfl) :
    XI X W (.Tuple elts kk tpos) (.Call (.Name "enumerate" p) [e] [] pos) (fEnumA g) := xi_case fun sl st => by
  have h1 := xi_enumT (tpos := tpos) (elts := elts) (kk := kk) (pos := pos) (p := p) hm ha hg hs hpl
  have h2 := xi_enum (tpos := tpos) (elts := elts) (kk := kk) (pos := pos) (p := p) hm ha hg hs
  cases q : g sl st with
  | stuck => exact ⟨_, h1, by unfold fEnumT fEnumA; rw [q]; rfl⟩
  | err C d sl st => exact ⟨_, h1, by unfold fEnumT fEnumA; rw [q]; rfl⟩
  | ok ds st1 =>
    match ds with
    | [.tup xs] => exact ⟨_, h1, by unfold fEnumT fEnumA; rw [q]; rfl⟩
    | [.lst xs] => exact ⟨_, h2, by unfold fEnum fEnumA; rw [q]; rfl⟩
    | [.lsr xs] => exact ⟨_, h2, by unfold fEnum fEnumA; rw [q]; rfl⟩
    | [] => exact ⟨_, h1, by unfold fEnumT fEnumA; rw [q]; rfl⟩
    | [.non] => exact ⟨_, h1, by unfold fEnumT fEnumA; rw [q]; rfl⟩
    | [.bl _] => exact ⟨_, h1, by unfold fEnumT fEnumA; rw [q]; rfl⟩
    | [.int _] => exact ⟨_, h1, by unfold fEnumT fEnumA; rw [q]; rfl⟩
    | [.str _] => exact ⟨_, h1, by unfold fEnumT fEnumA; rw [q]; rfl⟩
    | [.dct _] => exact ⟨_, h1, by unfold fEnumT fEnumA; rw [q]; rfl⟩
    | [.ins _ _] => exact ⟨_, h1, by unfold fEnumT fEnumA; rw [q]; rfl⟩
    | [.cel _] => exact ⟨_, h1, by unfold fEnumT fEnumA; rw [q]; rfl⟩
    | [.raw _] => exact ⟨_, h1, by unfold fEnumT fEnumA; rw [q]; rfl⟩
    | [.exc _ _] => exact ⟨_, h1, by unfold fEnumT fEnumA; rw [q]; rfl⟩
    | [.fn _ _ _ _ _] => exact ⟨_, h1, by unfold fEnumT fEnumA; rw [q]; rfl⟩
    | x :: y :: r => exact ⟨_, h1, by unfold fEnumT fEnumA; rw [q]; cases x <;> rfl⟩
end
end Rq
set_option Elab.async false
set_option linter.all false
set_option maxRecDepth 100000
set_option maxHeartbeats 4000000
/-! RqSet: sets of texts: what they are, add, sorted. -/
namespace Rq
open PySem PySem.Spec PyProof.Rows L2
def sOf (e : Int × Value) : Str := match e.2 with
  | .str x _ => x
  | _ => Str.empty
def SGood (w : World) (e : Int × Value) : Prop := ∃ x tk, e.2 = Value.str x tk ∧ e.1 = hashStr w x
/-- the set of texts at a: l its members in some sequence -/
def SetS (w : World) (h : Heap) (a : Addr) (l : List Str) : Prop :=
  ∃ o es ep t, h.get? a = some o ∧ o.ExactSet ∧ o.data = .set es ep t ∧ (∀ e ∈ es.toList, SGood w e) ∧ (es.toList.map sOf).Perm l ∧ l.Nodup ∧
    es.size < scanBound ∧ t.fits es.size = true ∧ Ris t.place.toList ∧ (w.params.followText "set-order" = true ∨ t.led = true)
section
variable {P : Program} {w : World} {A : Around} {E : Value → Shared → Prop} {s : Shared} {a : Addr} {l : List Str} {x : Str}
theorem isStr (k : Str) (u : Tok) : (PySem.strKind P w).is k (.str k u) = true := by simp [PySem.strKind, Value.isStrOf]
theorem SetS.at {h h' : Heap} (R : SetS w h a l) (k : ∀ o, h.get? a = some o → h'.get? a = some o) : SetS w h' a l := by
  obtain ⟨o, es, ep, t, ho, rest⟩ := R
  exact ⟨o, es, ep, t, k o ho, rest⟩
theorem sgood_elems {es : List (Int × Value)} (g : ∀ e ∈ es, SGood w e) : ElemsOf (PySem.strKind P w) es := by
  intro e he
  obtain ⟨y, tk, h1, h2⟩ := g e he
  constructor
  · exact ⟨y, by rw [h1]; exact isStr y tk, h2⟩
  · rw [h1]; rfl
theorem sgood_is {e : Int × Value} (g : SGood w e) : (PySem.strKind P w).is x e.2 = true ↔ sOf e = x := by
  obtain ⟨y, tk, h1, _⟩ := g
  have e2 : sOf e = y := by unfold sOf; rw [h1]
  rw [h1, e2]
  constructor
  · intro q
    obtain ⟨u, hu⟩ := Value.isStrOf_shape (show Value.isStrOf x (Value.str y tk) = true from q)
    exact (Value.str.inj hu).1
  · intro q; rw [← q]; exact isStr y tk
theorem sgood_mem {es : List (Int × Value)} (g : ∀ e ∈ es, SGood w e) : x ∈ es.map sOf ↔ ∃ e ∈ es, (PySem.strKind P w).is x e.2 = true := by
  rw [List.mem_map]
  constructor
  · intro ⟨e, he, q⟩; exact ⟨e, he, (sgood_is (P := P) (g e he)).mpr q⟩
  · intro ⟨e, he, q⟩; exact ⟨e, he, (sgood_is (P := P) (g e he)).mp q⟩
theorem laidAt {h : Heap} {o : Obj} {es es' : Array (Int × Value)} {ep : Nat} {t t' : SetTable} (ho : h.get? a = some o) (hd : o.data = .set es ep t) : (h.update a (Obj.putSet es' t')).get? a = some { o with data := .set es' (ep + 1) t' } := by
  rw [Heap.get?_update_self (Obj.putSet es' t') ho (by rw [putSet_of es' t' hd]; rfl), putSet_of es' t' hd]
theorem sets_tail {g : Bool → Sem Unit} (hg : ∀ (b : Bool) (s₁ : Shared) (Z : Unit → Shared → Prop), Z () s₁ → wpAny (model P w) A (g b) Z E s₁)
    {o : Obj} {es es1 : Array (Int × Value)} {ep : Nat} {t t2 : SetTable} {l' : List Str} (ho : s.heap.get? a = some o) (hex : o.ExactSet) (hd : o.data = .set es ep t)
    (good : ∀ e ∈ es1.toList, SGood w e) (pm : (es1.toList.map sOf).Perm l') (nd : l'.Nodup) (few : es1.size < scanBound) (fit : t2.fits es1.size = true) (ris : Ris t2.place.toList) (led : w.params.followText "set-order" = true ∨ t2.led = true) {wd : Bool} {R : Option Bool → Shared → Prop}
    (hR : ∀ h', Heap.SameBut a s.heap h' → SetS w h' a l' → R (some true) { s with heap := h' }) :
    wpAny (model P w) A (do
      storeSet a es1 t2
      if (!wd && t2.tooFull) = true then do
        g (relayAll t2 es1 (SetTable.grown es1.size)).2.2
        storeSet a (relayAll t2 es1 (SetTable.grown es1.size)).1 (relayAll t2 es1 (SetTable.grown es1.size)).2.1
        pure (some true)
      else pure (some true)) R E s := by
  refine wpAny_bind (wpAny_storeSet_of ho hd ?_ (fits_of_scanBound few))
  have ho1 := laidAt (es' := es1) (t' := t2) ho hd
  have one := Heap.SameBut.update s.heap a (Obj.putSet es1 t2)
  split
  · have q1 := relayAll_perm t2 es1 (SetTable.grown es1.size)
    have q2 := relayAll_fits t2 es1 (SetTable.grown es1.size)
    have q3 := relayAll_ris t2 es1 (SetTable.grown es1.size)
    have q4 := relayAll_led t2 es1 (SetTable.grown es1.size)
    revert q1 q2 q3 q4
    generalize relayAll t2 es1 (SetTable.grown es1.size) = Z
    obtain ⟨es2, t3, gave⟩ := Z
    intro q1 q2 q3 q4
    dsimp only at q1 q2 q3 q4 ⊢
    have len : es2.size = es1.size := by rw [← Array.length_toList, q1.length_eq, Array.length_toList]
    refine wpAny_bind (hg _ _ _ (wpAny_bind (wpAny_storeSet_of ho1 rfl (wpAny_pure ?_) (fits_of_scanBound (by rw [len]; exact few)))))
    refine hR _ (one.trans (Heap.SameBut.update _ a _)) ⟨_, es2, _, t3, laidAt (es' := es2) (t' := t3) ho1 rfl, hex, rfl, ?_, (q1.map sOf).trans pm, nd, by rw [len]; exact few, q2, q3, ?_⟩
    · intro e he; exact good e (q1.mem_iff.mp he)
    · rcases led with z | z
      · exact .inl z
      · exact .inr (q4.trans z)
  · exact wpAny_pure (hR _ one ⟨_, es1, _, t2, ho1, hex, rfl, good, pm, nd, few, fit, ris, led⟩)
theorem sets_hashed {tk : Tok} {Q : Bool → Shared → Prop} (R : SetS w s.heap a l) (room : l.length + 1 < scanBound)
    (hQ : ∀ b h', Heap.SameBut a s.heap h' → SetS w h' a (if x ∈ l then l else x :: l) → Q b { s with heap := h' }) : wpAny (model P w) A (setAddHashed a (.str x tk) ((PySem.strKind P w).hash x)) Q E s := by
  obtain ⟨o, es, ep, t, ho, hex, hd, good, pm, nd, few, fit, ris, led⟩ := R
  have isx : (PySem.strKind P w).is x (.str x tk) = true := isStr x tk
  have sc : (Value.str x tk).scannable = true := rfl
  have els : ElemsOf (PySem.strKind P w) es.toList := sgood_elems good
  have num : es.size = l.length := by rw [← Array.length_toList, ← List.length_map (f := sOf)]; exact pm.length_eq
  unfold setAddHashed setAddHashedIn
  refine wpAny_holding (wpAny_bind (wpAny_setState_of ho hd fit ?_))
  dsimp only
  rw [byScan_of sc few els]
  simp only [↓reduceIte]
  unfold setAddByScan
  refine wpAny_bind (wpAny_bind (wpAny_rule (wpAny_bind (wpAny_setScan_of isx ho hd fit els ?_))))
  cases fi : List.findIdx? (fun e => (PySem.strKind P w).is x e.2) es.toList with
  | some j =>
    dsimp only
    obtain ⟨hj, pj, _⟩ := List.findIdx?_eq_some_iff_getElem.mp fi
    have mem : x ∈ l := pm.mem_iff.mp ((sgood_mem (P := P) good).mpr ⟨es.toList[j], List.getElem_mem hj, pj⟩)
    refine wpAny_pure (wpAny_pure (hQ _ s.heap (Heap.SameBut.refl a s.heap) ?_))
    rw [if_pos mem]
    exact ⟨o, es, ep, t, ho, hex, hd, good, pm, nd, few, fit, ris, led⟩
  | none =>
    dsimp only
    have out : x ∉ l := by
      intro z
      obtain ⟨e, he, q⟩ := (sgood_mem (P := P) good).mp (pm.mem_iff.mpr z)
      have := List.findIdx?_eq_none_iff.mp fi e he
      rw [q] at this; cases this
    have gw : ∀ (b : Bool) {s₁ : Shared} {Z : Unit → Shared → Prop}, Z () s₁ → wpAny (model P w) A (match b with | true => rule "set.scan.the-table-gave-way" | false => pure ()) Z E s₁ := by
      intro b s₁ Z z
      cases b
      · exact wpAny_pure z
      · exact wpAny_rule z
    have p1 := layNew_perm t es ((PySem.strKind P w).hash x) (.str x tk)
    have p2 := layNew_fits t es ((PySem.strKind P w).hash x) (.str x tk)
    have p3 := layNew_ris t es ((PySem.strKind P w).hash x) (.str x tk) ris
    have p4 := layNew_led t es ((PySem.strKind P w).hash x) (.str x tk)
    revert p1 p2 p3 p4
    generalize layNew t es ((PySem.strKind P w).hash x) (.str x tk) = Z
    obtain ⟨es1, t1, wd, gave⟩ := Z
    intro p1 p2 p3 p4
    dsimp only at p1 p2 p3 p4 ⊢
    rw [Array.toList_push] at p1
    have pc : es1.toList.Perm (((PySem.strKind P w).hash x, Value.str x tk) :: es.toList) := p1.trans (List.perm_append_singleton _ _)
    have pk : (es1.toList.map sOf).Perm (x :: l) := (pc.map sOf).trans (.cons x pm)
    have good1 : ∀ e ∈ es1.toList, SGood w e := by
      intro e he
      rcases List.mem_cons.mp (pc.mem_iff.mp he) with z | z
      · subst z; exact ⟨x, tk, rfl, rfl⟩
      · exact good e z
    have nd1 : (x :: l).Nodup := List.nodup_cons.mpr ⟨out, nd⟩
    have few1 : es1.size < scanBound := by rw [← Array.length_toList, pc.length_eq, List.length_cons, Array.length_toList, num]; exact room
    have led1 : w.params.followText "set-order" = true ∨ t1.led = true := by
      rcases led with z | z
      · exact .inl z
      · exact .inr (p4.trans z)
    have fin : ∀ b h', Heap.SameBut a s.heap h' → SetS w h' a (x :: l) → Q b { s with heap := h' } := by
      intro b h' sb r
      refine hQ b h' sb ?_
      rw [if_neg out]; exact r
    refine wpAny_bind (gw _ ?_)
    split
    · refine wpAny_bind ?_
      rw [hashByValue_scannable 8 sc]
      refine wpAny_pure ?_
      refine sets_tail ?_ ho hex hd good1 pk nd1 few1 ?_ ?_ ?_ ?_
      · intro b s₁ Z z
        cases b
        · exact wpAny_pure z
        · exact wpAny_rule z
      · first
          | (split <;> first | exact p2 | exact SetTable.fits_plain_off p2)
          | exact p2
      · first
          | (split <;> exact p3)
          | exact p3
      · first
          | (split <;> exact led1)
          | exact led1
      · intro h' sb r; dsimp only; exact wpAny_pure (fin _ h' sb r)
    · refine wpAny_bind (wpAny_pure ?_)
      simp only [↓reduceIte]
      refine sets_tail ?_ ho hex hd good1 pk nd1 few1 p2 p3 led1 ?_
      · intro b s₁ Z z
        cases b
        · exact wpAny_pure z
        · exact wpAny_rule z
      · intro h' sb r; dsimp only; exact wpAny_pure (fin _ h' sb r)
theorem SetS.setOf (R : SetS w s.heap a l) : s.heap.SetOf (PySem.strKind P w) a (fun k => decide (k ∈ l)) l.length := by
  obtain ⟨o, es, ep, t, ho, hex, hd, good, pm, nd, few, fit, ris, led⟩ := R
  exact ⟨o, es, ep, t, ho, hex, hd, sgood_elems good, fun k => by rw [decide_eq_true_eq, ← pm.mem_iff]; exact sgood_mem good, few, fit, by rw [← Array.length_toList, ← List.length_map (f := sOf)]; exact pm.length_eq⟩
theorem sets_add {tk : Tok} {Q : Value → Shared → Prop} (R : SetS w s.heap a l) (room : l.length + 1 < scanBound)
    (hQ : ∀ h', Heap.SameBut a s.heap h' → SetS w h' a (if x ∈ l then l else x :: l) → Q .none { s with heap := h', toks := s.toks + 1 }) : wpAny (model P w) A (call (.builtin "set.add") [.ref a, .str x tk]) Q E s := by
  have so : s.heap.SetOf (PySem.strKind P w) a (fun k => decide (k ∈ l)) l.length := R.setOf
  refine wpAny_call_entry F.slot_set_add so.typeIs F.entry_set_add ?_ (F.args_set_add_2 _ _)
  unfold Builtin.«set.add» Builtin.Frozenset.oneOther
  simp only [List.isEmpty_nil, bind_assoc]
  unfold Builtin.Frozenset.addrOf setAdd
  refine wpAny_bind (wpAny_pure ?_)
  try dsimp only
  refine wpAny_bind (wpAny_pure ?_)
  try dsimp only
  refine wpAny_bind (wpAny_holding (wpAny_bind ((PySem.strKind P w).pyHash (isStr x tk) ?_)))
  refine sets_hashed (s := { s with toks := s.toks + 1 }) R room fun b h' sb r => ?_
  show wpAny _ _ (ret Value.none) _ _ _
  exact wpAny_pure ⟨_, rfl, hQ h' sb r⟩
end
end Rq
set_option Elab.async false
set_option linter.all false
set_option maxRecDepth 100000
set_option maxHeartbeats 4000000
/-! RqSet2: {e for x in xs for y in ys}, texts, no tests. -/
namespace Rq
open PySem PySem.Spec PyProof.Rows L2
/-- a set of texts as a tracked thing -/
def SetSO (w : World) (a : Addr) (l : List Str) : HO := .ext fun h => SetS w h a l
theorem setSO_ok {w : World} {P : Program} {H : Hp} {h : Heap} {a : Addr} {l : List Str} (R : SetS w h a l) : ObjOk P w H h a (SetSO w a l) :=
  ⟨R, by obtain ⟨o, _, _, _, ho, _⟩ := R; exact ⟨o, ho⟩, fun _ _ p k => p.at k⟩
theorem sets_fresh {w : World} {h : Heap} {a : Addr} (e : h.get? a = some { cls := .type "set", dict := none, data := .set #[] 0 (.fresh 0 0 (!w.params.followText "set-order")) }) : SetS w h a [] := by
  refine ⟨_, #[], 0, _, e, ⟨rfl, rfl, rfl⟩, rfl, ?_, .nil, .nil, by decide, by rfl, List.Pairwise.nil, ?_⟩
  · intro e he; simp at he
  · show _ ∨ (!w.params.followText "set-order") = true
    cases w.params.followText "set-order"
    · exact Or.inr rfl
    · exact Or.inl rfl
section
variable {prog : Program} {w : World} {A : Around} {R : Result → Shared → Prop} {s : Shared} {el t0 i0 t1 i1 : Expr} {sc : Scope} {pos : Pos} {it acc : Value} {env : Env}
abbrev SC2 (el t0 i0 t1 i1 : Expr) (sc : Scope) (pos : Pos) : Expr := .SetComp el [⟨t0, i0, [], 0⟩, ⟨t1, i1, [], 0⟩] sc pos
theorem sTurn_out : compTurn (SC2 el t0 i0 t1 i1 sc pos) 0 it acc env = (do
    standAt i0.pos
    match ← pyNext it with
    | none => pure (.done .next)
    | some v => do
      letOwnedTupleGo t0 it v
      assign t0 env v
      let y ← eval i1 env
      standAt i1.pos
      let y ← foldedSetIterable i1 env y
      let _ ← runOwn (.compStart (SC2 el t0 i0 t1 i1 sc pos) 1 (← holding [y] (pyIter y)) acc env) env
      again (.compLoop (SC2 el t0 i0 t1 i1 sc pos) 0 it acc env)) := by rfl
theorem sTurn_in : compTurn (SC2 el t0 i0 t1 i1 sc pos) 1 it acc env = (do
    standAt i1.pos
    match ← pyNext it with
    | none => pure (.done .next)
    | some v => do
      letOwnedTupleGo t1 it v
      assign t1 env v
      (do let y ← eval el env; standAt el.pos; let _ ← call (.builtin "set.add") [acc, y])
      again (.compLoop (SC2 el t0 i0 t1 i1 sc pos) 1 it acc env)) := by rfl
abbrev nE (prog : Program) (w : World) (A : Around) (env : Env) (R : Result → Shared → Prop) : Value → Shared → Prop := notedBy (model prog w) A env fun e s' => R (.error e) s'
theorem sLoop_out (hs : ∀ x, foldedSetIterable i1 env x = pure x) (I : Nat → Shared → Prop)
    (turn : ∀ n s, I n s → wpAny (model prog w) A (pyNext it) (fun r s1 => match r with
      | none => R (.ok .next) s1
      | some v => wpAny (model prog w) A (letOwnedTupleGo t0 it v) (fun _ s2 => wpAny (model prog w) A (assign t0 env v) (fun _ s3 => wpAny (model prog w) A (eval i1 env) (fun x s4 => wpAny (model prog w) A (pyIter x) (fun j s5 =>
          codeAny (model prog w) A (.compStart (SC2 el t0 i0 t1 i1 sc pos) 1 j acc env) (fun r s' => match r with
            | .ok _ => ∃ m, m < n ∧ I m s'
            | .error _ => False) s5) (nE prog w A env R) s4) (nE prog w A env R) s3) (nE prog w A env R) s2) (nE prog w A env R) s1) (nE prog w A env R) s)
    (n : Nat) (h : I n s) : codeAny (model prog w) A (.compLoop (SC2 el t0 i0 t1 i1 sc pos) 0 it acc env) R s := by
  refine codeAny_loop rfl I ?_ n h
  intro n s hI
  show wpAny _ A ((compTurn (SC2 el t0 i0 t1 i1 sc pos) 0 it acc env).onRaise (fun x => do noteFrame x env; theTreesLotGoes x)) _ _ s
  refine wpAny_noted ?_
  rw [sTurn_out]
  refine wpAny_bind (wpAny_standAt (wpAny_bind (wpAny_mono (turn n s hI) ?_ fun _ _ z => z)))
  intro r s1 h1
  cases r with
  | none => exact wpAny_pure h1
  | some v =>
    refine wpAny_bind (wpAny_mono h1 (fun _ s2 h2 => wpAny_bind (wpAny_mono h2 (fun _ s3 h3 => wpAny_bind (wpAny_mono h3 (fun x s4 h4 => ?_) fun _ _ z => z)) fun _ _ z => z)) fun _ _ z => z)
    refine wpAny_bind (wpAny_standAt (wpAny_bind (wpAny_of_eq (hs x) (wpAny_bind (wpAny_holding (wpAny_mono h4 (fun j s5 h5 => ?_) fun _ _ z => z))))))
    refine wpAny_bind (wpAny_runOwn ?_)
    rw [Around.mark_none]
    refine codeAny_mono h5 ?_
    intro r s' hr
    cases r with
    | ok f => first | exact wpAny_pure ⟨rfl, hr⟩ | exact wpAny_bind (wpAny_pure (wpAny_pure ⟨rfl, hr⟩))
    | error e => exact False.elim hr
theorem sLoop_in (I : Nat → Shared → Prop)
    (turn : ∀ n s, I n s → wpAny (model prog w) A (pyNext it) (fun r s1 => match r with
      | none => R (.ok .next) s1
      | some v => wpAny (model prog w) A (letOwnedTupleGo t1 it v) (fun _ s2 => wpAny (model prog w) A (assign t1 env v) (fun _ s3 => wpAny (model prog w) A (eval el env) (fun x s4 =>
          wpAny (model prog w) A (call (.builtin "set.add") [acc, x]) (fun _ s5 => ∃ m, m < n ∧ I m s5) (nE prog w A env R) s4) (nE prog w A env R) s3) (nE prog w A env R) s2) (nE prog w A env R) s1) (nE prog w A env R) s)
    (n : Nat) (h : I n s) : codeAny (model prog w) A (.compLoop (SC2 el t0 i0 t1 i1 sc pos) 1 it acc env) R s := by
  refine codeAny_loop rfl I ?_ n h
  intro n s hI
  show wpAny _ A ((compTurn (SC2 el t0 i0 t1 i1 sc pos) 1 it acc env).onRaise (fun x => do noteFrame x env; theTreesLotGoes x)) _ _ s
  refine wpAny_noted ?_
  rw [sTurn_in]
  refine wpAny_bind (wpAny_standAt (wpAny_bind (wpAny_mono (turn n s hI) ?_ fun _ _ z => z)))
  intro r s1 h1
  cases r with
  | none => exact wpAny_pure h1
  | some v =>
    refine wpAny_bind (wpAny_mono h1 (fun _ s2 h2 => wpAny_bind (wpAny_mono h2 (fun _ s3 h3 => ?_) fun _ _ z => z)) fun _ _ z => z)
    exact wpAny_bind (wpAny_bind (wpAny_mono h3 (fun x s4 h4 => wpAny_bind (wpAny_standAt (wpAny_bind (wpAny_mono h4 (fun _ s5 h5 => wpAny_pure (wpAny_pure ⟨rfl, h5⟩)) fun _ _ z => z)))) fun _ _ z => z))
theorem sStart {k : Nat} {t' i' : Expr} (hk : (k = 0 ∧ i' = i0) ∨ (k = 1 ∧ i' = i1)) (h0 : codeAny (model prog w) A (.compLoop (SC2 el t0 i0 t1 i1 sc pos) k it acc env) R s)
    (h : wpAny (model prog w) A (pyIter it) (fun j s' => codeAny (model prog w) A (.compLoop (SC2 el t0 i0 t1 i1 sc pos) k j acc env) R s') (nE prog w A env R) s) :
    codeAny (model prog w) A (.compStart (SC2 el t0 i0 t1 i1 sc pos) k it acc env) R s := by
  rcases hk with ⟨rfl, rfl⟩ | ⟨rfl, rfl⟩
  all_goals
    refine codeAny_of_tree ?_
    show wpAny _ _ ((compStart (SC2 el t0 _ t1 _ sc pos) _ it acc env).onRaise (fun x => do noteFrame x env; standAt theWindowsPlace)) _ _ s
    refine wpAny_notedAt ?_
    unfold compStart
    show wpAny _ _ (ask >>= _) _ _ s
    refine wpAny_bind (wpAny_askSetting (wpAny_ite ?_))
    split
    · first
        | exact wpAny_bind (wpAny_pure (wpAny_pure (And.intro rfl h0)))
        | exact wpAny_pure (And.intro rfl h0)
    · refine wpAny_bind (wpAny_rule (wpAny_bind (wpAny_standAt (wpAny_bind (wpAny_mono h ?_ fun _ _ z => z)))))
      intro j s' h'
      exact wpAny_pure (And.intro rfl h')
end
end Rq
set_option Elab.async false
set_option linter.all false
set_option maxRecDepth 100000
set_option maxHeartbeats 4000000
/-! RqSet3: sorted(a set of texts), len of it. -/
namespace Rq
open PySem PySem.Spec PyProof.Rows L2
section
variable {X : Cx} {pins : List (Addr × Obj)} {σ : L2.St} {H : Hp} {s : Shared}
abbrev inX (X : Cx) : Cx := { X with A := X.A.in1 }
theorem ok_in (o : X.Ok) : (inX X).Ok := ⟨o.mod, o.kind, o.glob, o.blt, o.above, o.inj, o.has, o.cab, o.hd, o.frames, o.stk, o.exf, o.bs, o.bsz, o.noex, o.exfs, o.funs, o.frf⟩
theorem ok_out (o : (inX X).Ok) : X.Ok := ⟨o.mod, o.kind, o.glob, o.blt, o.above, o.inj, o.has, o.cab, o.hd, o.frames, o.stk, o.exf, o.bs, o.bsz, o.noex, o.exfs, o.funs, o.frf⟩
theorem inv_in (I : L2.Inv X pins σ H s) : L2.Inv (inX X) pins σ H s := ⟨ok_in I.ok, I.os, I.bare, I.base, I.loc, I.cell, I.free, I.freeC, I.pin, I.hok, I.len⟩
theorem inv_out (I : L2.Inv (inX X) pins σ H s) : L2.Inv X pins σ H s := ⟨ok_out I.ok, I.os, I.bare, I.base, I.loc, I.cell, I.free, I.freeC, I.pin, I.hok, I.len⟩
theorem strsOf {w : World} {es : Array (Int × Value)} {out : List Value} (good : ∀ e ∈ es.toList, SGood w e) (p : out.Perm (es.toList.map (·.2))) : ∃ ys : List Str, Vals (ys.map V.str) out ∧ ys.Perm (es.toList.map sOf) := by
  have key : ∀ (out : List Value), (∀ v ∈ out, ∃ x tk, v = Value.str x tk) → Vals ((out.map fun v => match v with | .str x _ => x | _ => Str.empty).map V.str) out := by
    intro out
    induction out with
    | nil => intro _; exact .nil
    | cons v r ih =>
      intro h
      obtain ⟨x, tk, rfl⟩ := h v (by simp)
      exact .cons ⟨tk, rfl⟩ (ih fun u hu => h u (by simp [hu]))
  refine ⟨_, key out fun v hv => ?_, ?_⟩
  · obtain ⟨e, he, rfl⟩ := List.mem_map.mp (p.mem_iff.mp hv)
    obtain ⟨x, tk, h, _⟩ := good e he
    exact ⟨x, tk, h⟩
  · refine (p.map _).trans ?_
    rw [List.map_map]
    exact List.Perm.refl _
abbrev rSortedSS (w : World) : List V → Hp → VK → Prop := fun xs H Q => ∃ (a : Addr) (l : List Str), xs = [.ref a] ∧ H a = some (SetSO w a l) ∧ l.length < 64 ∧ ∀ ys p, ys.Perm l → sortedS ys = true → H p = none → Q (.ref p) (upd H p (.lst (ys.map V.str)))
theorem vals_ref1' {a : Addr} : ∀ {us : List Value}, Vals [.ref a] us → us = [.ref a]
  | _, .cons r .nil => by
    have r : _ = Value.ref a := r
    rw [r]
theorem call_sortedSS (hc : X.calm = true) : CallR X (.builtin "sorted") (rSortedSS X.w) := by
  intro pins s σ H xs us Q I rx ⟨a, l, e, hH, hl, q⟩
  subst e
  obtain rfl := vals_ref1' rx
  have R : SetS X.w s.heap a l := (I.hok a _ hH).1
  obtain ⟨o, es, ep, t, ho, hex, hd, good, pm, nd, few, fit, ris, led⟩ := R
  refine Calls.call_function_entry kind_sorted (by decide +kernel) entry_sorted (args_sorted1 _) ?_
  unfold Builtin.sorted
  refine wpAny_bind ?_
  unfold checkCount
  refine wpAny_pure ?_
  refine wpAny_bind (collect_set (A := X.A.in1) (I.ok.hd hc) ⟨o, ho, hex.1, hd⟩ fit few ris led ?_)
  intro s1 out k1 k2 k3 k4 pout
  obtain ⟨ys, rv, py⟩ := strsOf good pout
  have ly : ys.length < 64 := by rw [(py.trans pm).length_eq]; exact hl
  have lo : out.length < 64 := by rw [← rv.length]; simpa using ly
  refine wpAny_bind (wpAny_newList ?_ (Nat.le_trans (Nat.le_of_lt lo) (by decide)))
  have I1 : L2.Inv X pins σ H s1 := by
    have := I.kept (t' := s1.toks) k1
    exact ⟨this.ok, by rw [k4]; exact this.os, by rw [k3]; exact this.bare, this.base, this.loc, this.cell, this.free, this.freeC, this.pin, this.hok, this.len⟩
  have hp : H s1.heap.objs.size = none := I1.hok.fresh (Nat.le_refl _)
  have I2 : L2.Inv X pins σ (upd H s1.heap.objs.size (.lst (ys.map V.str))) { heap := s1.heap.push { cls := Value.type "list", data := Data.seq out.toArray }, gens := s1.gens, drawn := s1.drawn, toks := s1.toks, os := s1.os } := by
    refine I1.laid (fun b u e => Heap.get?_push_of_some _ e) (Nat.le_refl _) ?_
    exact ⟨Nat.le_trans (by simp; omega : (ys.map V.str).length ≤ 64) (by decide), out, 0, rv, Heap.get?_push_size _ rfl⟩
  refine wpAny_bind (wpAny_holding (thn (mt_sortS (X := inX X) pins _ σ _ (.ref s1.heap.objs.size) [] (.ref s1.heap.objs.size) [] (fun v H' => H' = upd H s1.heap.objs.size (.lst (ys.map V.str)) ∧ False ∨ ∃ zs : List Str, zs.Perm ys ∧ sortedS zs = true ∧ H' = upd H s1.heap.objs.size (.lst (zs.map V.str))) (inv_in I2) rfl .nil ?_) ?_))
  · refine ⟨s1.heap.objs.size, ys, rfl, rfl, upd_same, ly, fun zs p1 p2 => .inr ⟨zs, p1, p2, ?_⟩⟩
    funext b
    by_cases hb : b = s1.heap.objs.size
    · subst hb; rw [upd_same, upd_same]
    · rw [upd_ne hb, upd_ne hb, upd_ne hb]
  · rintro r s2 ⟨v, H2, J, _, ⟨_, z⟩ | ⟨zs, p1, p2, rfl⟩⟩
    · exact z.elim
    · exact wpAny_pure ⟨_, rfl, .ref s1.heap.objs.size, _, inv_out J, rfl, q zs _ (p1.trans (py.trans pm)) p2 hp⟩
end
end Rq
set_option Elab.async false
set_option linter.all false
set_option maxRecDepth 100000
set_option maxHeartbeats 4000000
/-! RqSet4: {e for x in xs for y in ys} of texts. -/
namespace Rq
open PySem PySem.Spec PyProof.Rows L2
def tSc2 (w : World) (wi : TI) (g : TG) (wi1 : TI) (g1 : TG) (te : TE) (vs vs1 : List Nat) : TE := fun σ H Q => wi σ H fun J H1 => ∀ D, H1 D = none → ∃ Wv : Nat → Nat → Hp → Prop, (∃ m, Wv 0 m (upd H1 D (SetSO w D []))) ∧
  ∀ i m H, Wv i m H → (J.stop i H ∧ Q (.ref D) H) ∨ (J.go i H ∧ ∃ Nx : Hp → Prop, (∀ H', Nx H' → ∃ m', m' < m ∧ Wv (i + 1) m' H') ∧ ∀ x H', J.yld i H x H' → g x (wipe σ vs) H' fun σ2 H2 => wipe σ2 vs = wipe σ vs ∧
    wi1 σ2 H2 fun J1 H4 => ∃ W1 : Nat → Nat → Hp → Prop, (∃ m, W1 0 m H4) ∧ ∀ j k H, W1 j k H → (J1.stop j H ∧ Nx H) ∨ (J1.go j H ∧ ∃ Nx1 : Hp → Prop, (∀ H', Nx1 H' → ∃ k', k' < k ∧ W1 (j + 1) k' H') ∧
      ∀ x H', J1.yld j H x H' → g1 x (wipe σ2 vs1) H' fun σ3 H5 => wipe σ3 vs1 = wipe σ2 vs1 ∧ te σ3 H5 fun y H7 => ∃ acc z, y = .str z ∧ H7 D = some (SetSO w D acc) ∧ acc.length + 1 < scanBound ∧ Nx1 (upd H7 D (SetSO w D (if z ∈ acc then acc else z :: acc)))))
section
variable {X : Cx} {pins : List (Addr × Obj)} {σ : L2.St} {H : Hp} {s : Shared}
theorem mut_set {w : World} {D : Addr} {acc : List Str} : Mut (some (SetSO w D acc)) := trivial
theorem sadd_ok {E : Value → Shared → Prop} {D : Addr} {acc : List Str} {z : Str} {v : Value} {Q : Value → Shared → Prop} (I : L2.Inv X pins σ H s) (h : H D = some (SetSO X.w D acc)) (room : acc.length + 1 < scanBound) (r : L2.RelV (.str z) v)
    (q : ∀ v s', L2.Inv X pins σ (upd H D (SetSO X.w D (if z ∈ acc then acc else z :: acc))) s' → Q v s') : wpAny (model X.prog X.w) X.A (call (.builtin "set.add") [.ref D, v]) Q E s := by
  obtain ⟨tk, rfl⟩ : ∃ tk, v = .str z tk := r
  have R : SetS X.w s.heap D acc := (I.hok D _ h).1
  refine sets_add R room fun h' sb R' => q _ _ ?_
  refine I.write (x := D) (e := D) (by rw [h]; exact mut_set) (.inl rfl) (fun b u hb e => by first | exact sb.2 b u hb e | exact sb.2 b hb u e | exact (sb.2 b hb).trans e | (rw [sb.2 b hb]; exact e)) ?_ (setSO_ok R')
  obtain ⟨o, _, _, _, ho, _⟩ := R'
  exact ⟨o, ho⟩
theorem fpOk_at {b : Addr} {H' : Hp} (f : FpOk X pins H b) (h : H' b = none) : FpOk X pins H' b := ⟨h, f.2⟩
theorem wipe_weak {σ2 : L2.St} {vs vs1 : List Nat} (hv : ∀ i ∈ vs1, i ∈ vs) (e : wipe σ2 vs = wipe σ vs) (I : L2.Inv X pins (wipe σ2 vs1) H s) : L2.Inv X pins (wipe σ vs) H s := by
  refine I.weak (by rw [← e, wipe_length, wipe_length]) fun i v q => ?_
  rw [← e] at q
  by_cases hi : i ∈ vs
  · rw [wipe_get hi] at q
    split at q <;> cases q
  · rw [wipe_out hi] at q
    rw [wipe_out fun z => hi (hv i z)]; exact q
theorem inv_wipe {vs : List Nat} (I : L2.Inv X pins σ H s) : L2.Inv X pins (wipe σ vs) H s := by
  refine I.weak (wipe_length ..) fun i v q => ?_
  by_cases hi : i ∈ vs
  · rw [wipe_get hi] at q
    split at q <;> cases q
  · rw [wipe_out hi] at q; exact q
end
theorem pin_keep {X : Cx} {pins : List (Addr × Obj)} {σ : L2.St} {H : Hp} {s s2 : Shared} {fp : List Addr} (I : L2.Inv X (pins ++ pinsAt fp s2.heap) σ H s) {b : Addr} (hb : b ∈ fp) {o : Obj} (e : s2.heap.get? b = some o) : s.heap.get? b = some o ∧ H b = none := by
  obtain ⟨h1, h2, _⟩ := I.pin (b, o) (by simp [mem_pinsAt hb e])
  exact ⟨h1, h2⟩
theorem eval_sc2 {el t0 i0 t1 i1 : PySem.Expr} {sc : Scope} {pos : Pos} {env : Env} : eval (SC2 el t0 i0 t1 i1 sc pos) env = comprehension (SC2 el t0 i0 t1 i1 sc pos) sc env (firstIterPos [⟨t0, i0, [], 0⟩, ⟨t1, i1, [], 0⟩] pos) (newSet (.type "set")) false (eval i0 env) none := by rfl
theorem new_set {P : Program} {w : World} {A : Around} {E : Value → Shared → Prop} {s : Shared} {Q : Value → Shared → Prop}
    (q : Q (.ref s.heap.objs.size) { s with heap := s.heap.push { cls := .type "set", dict := none, data := .set #[] 0 (.fresh 0 0 (!w.params.followText "set-order")) } }) : wpAny (model P w) A (newSet (.type "set")) Q E s := by
  unfold newSet setsByText
  refine wpAny_bind (wpAny_bind (wpAny_askSetting (wpAny_pure ?_)))
  exact wpAny_newObj_type q (by first | trivial | decide | simp [sizeOk] | (unfold sizeOk; exact Nat.zero_le _))
theorem pe_sc2 {X : Cx} {elt tg iter tg1 iter1 : PySem.Expr} {scope : Scope} {own : List (Str × Nat)} {vs1 : List Nat} {pos : Pos} {wi wi1 : TI} {g g1 : TG} {te : TE} (hc : X.calm = true) (hN : X.N.Nodup) (hi : PI X tg iter wi) (ok : BlkOk X.N X.env.scope scope own) (hv : ∀ i ∈ vs1, i ∈ own.map (·.2))
    (hg : ∀ (s : Shared) (H : Hp) (C : Addr) (cl : List (Str × Addr)) (fp : List Addr), PG (X.blk s H scope (compEnvC scope cl C X.env) fp) tg g)
    (hi1 : ∀ (s : Shared) (H : Hp) (C : Addr) (cl : List (Str × Addr)) (fp : List Addr), PI (X.blk s H scope (compEnvC scope cl C X.env) fp) tg1 iter1 wi1)
    (hg1 : ∀ (s : Shared) (H : Hp) (C : Addr) (cl : List (Str × Addr)) (fp : List Addr), PG (X.blk s H scope (compEnvC scope cl C X.env) fp) tg1 g1)
    (he : ∀ (s : Shared) (H : Hp) (C : Addr) (cl : List (Str × Addr)) (fp : List Addr), PE (X.blk s H scope (compEnvC scope cl C X.env) fp) elt te)
    (hs : ∀ x, foldedSetIterable iter X.env x = pure x := by intro _; rfl) (hs1 : ∀ env x, foldedSetIterable iter1 env x = pure x := by intro _ _; rfl) :
    PE X (SC2 elt tg iter tg1 iter1 scope pos) (tSc2 X.w wi g wi1 g1 te (own.map (·.2)) vs1) := ⟨fun pins s σ H Q I w => by
  rw [eval_sc2]
  have hcl := closure_ok (scope := scope) (env := X.env) fun y hy hf => I.ok.has y.1 (by
    rcases ok.free y hy hf with z | z
    · exact .inl z
    · exact .inr z)
  refine wpAny_comprehension_free rfl hs hcl ok.kind (fun y hy e => by rw [ok.uniq y hy, e]) (thn (hi.run pins s σ H _ I w) fun x s1 h1 => thn h1 fun it0 s2 ⟨it, fp, tn, J, H1, e1, I1, T, t0, fpo, q⟩ => ?_)
  subst e1
  obtain ⟨Wv, ⟨m0, w0⟩, step⟩ := q s2.heap.objs.size I1.fresh
  refine new_set ?_
  generalize hD : s2.heap.objs.size = D at *
  generalize hob : ({ cls := .type "set", dict := none, data := .set #[] 0 (.fresh 0 0 (!X.w.params.followText "set-order")) } : Obj) = ob
  have fob : (s2.heap.push ob).get? D = some ob := by rw [← hD, ← hob]; exact Heap.get?_push_size _ rfl
  have I2 : L2.Inv X pins σ (upd H1 D (SetSO X.w D [])) { s2 with heap := s2.heap.push ob } := by
    refine I1.laid (fun b u e => Heap.get?_push_of_some _ e) (by rw [hD]; exact Nat.le_refl _) (setSO_ok (sets_fresh ?_))
    rw [fob, hob]
  have fpD : ∀ b ∈ fp, b < D ∧ ∃ o, s2.heap.get? b = some o ∧ ∀ v, o.data ≠ Data.cell v := fun b hb => by
    obtain ⟨o, h1, h2⟩ := T.obj 0 s2.heap t0 b hb
    exact ⟨by rw [← hD]; exact Heap.lt_size h1, o, h1, h2⟩
  have fp2 : ∀ b ∈ fp, FpOk X pins (upd H1 D (SetSO X.w D [])) b := fun b hb => fpOk_at (fpo b hb) (by rw [upd_ne (Nat.ne_of_lt (fpD b hb).1)]; exact (fpo b hb).1)
  have szD : (s2.heap.push ob).objs.size = D + 1 := by rw [PyProof.Rows.size_push', hD]
  refine newEnv_comp ?_
  generalize hs3 : ({ s2 with heap := s2.heap.push ob } : Shared) = s3 at *
  have h3 : s3.heap = s2.heap.push ob := by rw [← hs3]
  have B := block_start (fp := fp) I2 ok hN fun b hb => ⟨fp2 b hb, by rw [h3, szD]; exact Nat.lt_succ_of_lt (fpD b hb).1⟩
  generalize hH2 : upd H1 D (SetSO X.w D []) = H2 at *
  generalize hC : s3.heap.objs.size = C at *
  generalize hcl2 : cellsFrom (C + 1) scope.names (cloFrom X.env.cells scope.names []) = cl at *
  generalize hs4 : ({ heap := pushCells (s3.heap.push { cls := Value.type "dict", data := Data.dict #[] }) scope.names, gens := s3.gens, drawn := s3.drawn, toks := s3.toks, os := s3.os } : Shared) = s4 at *
  have XBe : (X.blk s3 H2 scope (compEnvC scope cl C X.env) fp).A = X.A := rfl
  have t4 : tn 0 s4.heap := T.keep 0 s2.heap s4.heap t0 fun b hb o e => by
    rw [← hs4]
    exact pushCells_keeps _ _ _ _ (Heap.get?_push_of_some _ (by rw [h3]; exact Heap.get?_push_of_some _ e))
  suffices goal : codeAny (model X.prog X.w) X.A (.compStart (SC2 elt tg iter tg1 iter1 scope pos) 0 (.ref it) (.ref D) (compEnvC scope cl C X.env)) (compPost (model X.prog X.w) X.A X.xe none (EP X pins σ Q) (.ref D) C) s4 by
    exact goal
  refine sStart (t' := tg) (.inl ⟨rfl, rfl⟩) ?_ (T.self _ 0 _ _ _ t4 ?_)
  all_goals
    refine sLoop_out (hs1 _) (fun n s' => ∃ i H', L2.Inv (X.blk s3 H2 scope (compEnvC scope cl C X.env) fp) [] (wipe σ (own.map (·.2))) H' s' ∧ tn i s'.heap ∧ (∀ b ∈ fp, H' b = none) ∧ Wv i n H') ?_ m0 ⟨0, H2, B, t4, fun b hb => (fp2 b hb).1, w0⟩
    rintro n s' ⟨i, H', J1, tt, fn, wv⟩
    have fpB : ∀ b ∈ fp, FpOk (X.blk s3 H2 scope (compEnvC scope cl C X.env) fp) [] H' b := fun b hb => ⟨fn b hb, (B.ok.exf b hb).1, B.ok.exfs b hb, .inl hb, (B.ok.exf b hb).2, fun p hp => by simp at hp⟩
    rcases step i n H' wv with ⟨st, fin⟩ | ⟨go, Nx, nx, body⟩
    · refine thn (T.done (X.blk s3 H2 scope (compEnvC scope cl C X.env) fp) rfl rfl rfl hc i [] s' (wipe σ (own.map (·.2))) H' _ J1 fpB tt st) ?_
      rintro r s5 ⟨rfl, J5⟩
      obtain ⟨m, hm, _⟩ := J5.loc
      have O : L2.Inv X pins σ H' s5 := I2.call' J5.os J5.base J5.hok J5.bare fun b hb => by
        obtain ⟨_, a1, _, a2, a3, a4⟩ := fp2 b hb
        exact ⟨a2, a1, a3, a4⟩
      refine ⟨m, hm, fun h' sb => ⟨.ref D, H', ?_, rfl, fin⟩⟩
      obtain ⟨z0, z1, _, z2, z3, z4⟩ := I2.fpOk (b := C) (H' := H') (Nat.le_of_eq hC) J5.free
      exact O.turned (it := C) (fun b o hb e => (sb.2 b hb).trans e) z0 (fun e => z1 e) z2 z3 z4
    · refine thn (T.item (X.blk s3 H2 scope (compEnvC scope cl C X.env) fp) rfl rfl rfl hc i [] s' (wipe σ (own.map (·.2))) H' _ J1 fpB tt go) ?_
      rintro r s5 ⟨u, rfl, h5⟩
      refine thn h5 ?_
      rintro _ s6 ⟨x, H6, J6, rx, yl, t6, fn6⟩
      have fp6 : ∀ b ∈ fp, FpOk (X.blk s3 H2 scope (compEnvC scope cl C X.env) fp) [] H6 b := fun b hb => fpOk_at (fpB b hb) (fn6 b hb)
      have J6p := J6.pinned fp6 fun b hb => T.obj (i + 1) s6.heap t6 b hb
      refine thnF ((hg s3 H2 C cl fp).run _ s6 _ H6 x u _ J6p rx (body x H6 yl)) ?_
      rintro _ s7 ⟨σ2, H7, J7, ew, q7⟩
      refine thnF ((hi1 s3 H2 C cl fp).run _ s7 σ2 H7 _ J7 q7) ?_
      intro y s8 h8
      refine thnF h8 ?_
      rintro it1' s9 ⟨it1, fp1, tn1, J1', H9, rfl, J9, T1, t9, fp9, W1, ⟨m1, w1⟩, step1⟩
      refine sStart (t' := tg1) (.inr ⟨rfl, rfl⟩) ?_ (T1.self _ 0 _ _ _ t9 ?_)
      all_goals
        refine sLoop_in (fun k s' => ∃ j H', L2.Inv (X.blk s3 H2 scope (compEnvC scope cl C X.env) fp) ([] ++ pinsAt fp s6.heap) (wipe σ2 vs1) H' s' ∧ tn1 j s'.heap ∧ (∀ b ∈ fp1, H' b = none) ∧ W1 j k H') ?_ m1 ⟨0, H9, inv_wipe J9, t9, fun b hb => (fp9 b hb).1, w1⟩
        rintro k s10 ⟨j, H10, J10, t10, fn10, w10⟩
        have fpB1 : ∀ b ∈ fp1, FpOk (X.blk s3 H2 scope (compEnvC scope cl C X.env) fp) ([] ++ pinsAt fp s6.heap) H10 b := fun b hb => fpOk_at (fp9 b hb) (fn10 b hb)
        rcases step1 j k H10 w10 with ⟨st, fin⟩ | ⟨go, Nx1, nx1, body1⟩
        · refine thn (T1.done (X.blk s3 H2 scope (compEnvC scope cl C X.env) fp) rfl rfl rfl hc j _ s10 _ H10 _ J10 fpB1 t10 st) ?_
          rintro r s11 ⟨rfl, J11⟩
          obtain ⟨m', lt, wv'⟩ := nx H10 fin
          exact ⟨m', lt, i + 1, H10, wipe_weak hv ew J11.unpinned, T.keep (i + 1) s6.heap s11.heap t6 fun b hb o e => (pin_keep J11 hb e).1, fun b hb => by
            obtain ⟨o, h1, _⟩ := T.obj (i + 1) s6.heap t6 b hb
            exact (pin_keep J11 hb h1).2, wv'⟩
        · refine thn (T1.item (X.blk s3 H2 scope (compEnvC scope cl C X.env) fp) rfl rfl rfl hc j _ s10 _ H10 _ J10 fpB1 t10 go) ?_
          rintro r s11 ⟨u1, rfl, h11⟩
          refine thn h11 ?_
          rintro _ s12 ⟨x1, H12, J12, rx1, yl1, t12, fn12⟩
          have J12p := J12.pinned (fp := fp1) (fun b hb => fpOk_at (fpB1 b hb) (fn12 b hb)) fun b hb => T1.obj (j + 1) s12.heap t12 b hb
          refine thnF ((hg1 s3 H2 C cl fp).run _ s12 _ H12 x1 u1 _ J12p rx1 (body1 x1 H12 yl1)) ?_
          rintro _ s13 ⟨σ3, H13, J13, ew3, q13⟩
          refine thnF ((he s3 H2 C cl fp).run _ s13 σ3 H13 _ J13 q13) ?_
          rintro y s14 ⟨yv, H14, J14, ry, acc, z, rfl, hD14, room, nxt⟩
          refine sadd_ok (X := X.blk s3 H2 scope (compEnvC scope cl C X.env) fp) J14 hD14 room ry ?_
          intro v15 s15 J15
          obtain ⟨k', lt, w15⟩ := nx1 _ nxt
          refine ⟨k', lt, j + 1, _, ?_, T1.keep (j + 1) s12.heap s15.heap t12 fun b hb o e => (pin_keep J15 hb e).1, fun b hb => ?_, w15⟩
          · rw [← ew3]; exact inv_wipe J15.unpinned
          · obtain ⟨o, h1, _⟩ := T1.obj (j + 1) s12.heap t12 b hb
            exact (pin_keep J15 hb h1).2⟩
end Rq
set_option Elab.async false
set_option linter.all false
set_option maxRecDepth 100000
set_option maxHeartbeats 4000000
/-! RqSet5: sorted texts; sorted({e for x in xs for y in ys}). -/
namespace Rq
open PySem PySem.Spec PyProof.Rows L2
/-! ### sorted texts -/
def leS (a b : Str) : Prop := a.cps.toList ≤ b.cps.toList
theorem str_ext {a b : Str} (h : a.cps.toList = b.cps.toList) : a = b := by
  cases a; cases b; simp at h; rw [h]
theorem leS_antisymm {a b : Str} (h : leS a b) (k : leS b a) : a = b := str_ext (List.le_antisymm h k)
theorem rising_pw : ∀ (l : List Str) (x : Str), risingS x l = true → (x :: l).Pairwise leS
  | [], x, _ => by simp
  | y :: r, x, h => by
    have h : (!ltCps y.cps.toList x.cps.toList && risingS y r) = true := h
    rw [Bool.and_eq_true] at h
    obtain ⟨h1, h2⟩ := h
    have ih := rising_pw r y h2
    have hxy : leS x y := by
      have h1 : ltCps y.cps.toList x.cps.toList = false := by simpa using h1
      rw [ltCps_eq] at h1
      exact fun z => by simp [z] at h1
    refine List.pairwise_cons.mpr ⟨fun z hz => ?_, ih⟩
    rcases List.mem_cons.mp hz with rfl | hz
    · exact hxy
    · exact List.le_trans hxy ((List.pairwise_cons.mp ih).1 z hz)
theorem sortedS_pw {l : List Str} (h : sortedS l = true) : l.Pairwise leS := by
  cases l with
  | nil => exact .nil
  | cons x r => exact rising_pw r x h
theorem sorted_unique {l m : List Str} (h : l.Pairwise leS) (k : m.Pairwise leS) (p : l.Perm m) : l = m := List.Perm.eq_of_pairwise (fun a b _ _ q r => leS_antisymm q r) h k p
def insS (x : Str) : List Str → List Str
  | [] => [x]
  | y :: r => if x.cps.toList ≤ y.cps.toList then x :: y :: r else y :: insS x r
def sortS : List Str → List Str
  | [] => []
  | x :: r => insS x (sortS r)
theorem insS_perm (x : Str) : ∀ l, (insS x l).Perm (x :: l)
  | [] => .refl _
  | y :: r => by
    unfold insS
    split
    · exact .refl _
    · exact ((insS_perm x r).cons y).trans (.swap ..)
theorem sortS_perm : ∀ l, (sortS l).Perm l
  | [] => .refl _
  | x :: r => (insS_perm x _).trans ((sortS_perm r).cons x)
theorem insS_pw (x : Str) : ∀ {l : List Str}, l.Pairwise leS → (insS x l).Pairwise leS
  | [], _ => by simp [insS]
  | y :: r, h => by
    unfold insS
    obtain ⟨h1, h2⟩ := List.pairwise_cons.mp h
    split
    · next q =>
      refine List.pairwise_cons.mpr ⟨fun z hz => ?_, h⟩
      rcases List.mem_cons.mp hz with rfl | hz
      · exact q
      · exact List.le_trans q (h1 z hz)
    · next q =>
      refine List.pairwise_cons.mpr ⟨fun z hz => ?_, insS_pw x h2⟩
      rcases List.mem_cons.mp ((insS_perm x r).mem_iff.mp hz) with rfl | hz
      · rcases List.le_total y.cps.toList z.cps.toList with t | t
        · exact t
        · exact absurd t q
      · exact h1 z hz
theorem sortS_pw : ∀ l, (sortS l).Pairwise leS
  | [] => .nil
  | x :: r => insS_pw x (sortS_pw r)
theorem sortS_is {l ys : List Str} (p : ys.Perm l) (h : sortedS ys = true) : ys = sortS l := sorted_unique (sortedS_pw h) (sortS_pw l) (p.trans (sortS_perm l).symm)
/-! ### the comprehension -/
section
variable {X : Cx} {W : WX} {tg iter tg1 iter1 elt : PySem.Expr} {scope : Scope} {pos pos2 p : Pos} {fi fi1 : AF} {tf tf1 : TF} {el : EF} {ts ts1 : List Nat}
def addS (z : Str) (acc : List Str) : List Str := if z ∈ acc then acc else z :: acc
def scIn (tf1 : TF) (el : EF) (slw : SL) : List D → List Str → ST → Res (List Str)
  | [], acc, st => .ok acc st
  | d :: r, acc, st => match tf1 d slw with
    | none => .stuck
    | some sl2 => (el sl2 st).ne.bind fun y st2 => match y with
      | .str z => if acc.length ≤ 4000 then scIn tf1 el slw r (addS z acc) st2 else .stuck
      | _ => .stuck
def scOut (tf : TF) (fi1 : AF) (tf1 : TF) (el : EF) (vs1 : List Nat) (slw : SL) : List D → List Str → ST → Res (List Str)
  | [], acc, st => .ok acc st
  | d :: r, acc, st => match tf d slw with
    | none => .stuck
    | some sl1 => (fi1 sl1 st).ne.bind fun es st1 => (scIn tf1 el (wipeD sl1 vs1) es acc st1).bind fun acc' st2 => scOut tf fi1 tf1 el vs1 slw r acc' st2
def fSc2 (fi : AF) (tf : TF) (fi1 : AF) (tf1 : TF) (el : EF) (vs vs1 : List Nat) (kk : List Str → ST → Res D) : EF := fun sl st => (fi sl st).bind fun ds st1 => (scOut tf fi1 tf1 el vs1 (wipeD sl vs) ds [] st1).bind kk
theorem kqp_set {w : World} {a : Addr} {l : List Str} : Kqp (SetSO w a l) a := by
  refine ⟨(fun ps z => by unfold SetSO at z; cases z), fun q z => ?_⟩
  unfold SetSO LamX.CodeO at z
  have e := HO.ext.inj z
  let o0 : Obj := { cls := .none, data := .fields #[.none, .str q 0] }
  let h0 : Heap := { objs := Array.replicate (a + 1) o0 }
  have g : h0.get? a = some o0 := by
    unfold Heap.get?
    have : h0.objs[a]? = some o0 := by
      show (Array.replicate (a + 1) o0)[a]? = some o0
      simp
    rw [this]
  have y : SetS w h0 a l := by
    have := congrFun e h0
    rw [this]
    exact ⟨o0, _, 0, g, rfl, rfl⟩
  obtain ⟨o, es, ep, t, ho, _, hd, _⟩ := y
  rw [g] at ho
  cases ho
  cases hd
theorem Ylds.turnW {K : PySem.W.Frag} {c0 c : Cf} {i : Nat} {x : V} {H' : Hp} {d : D} (S : c.ok K) (se : Ex c0.G c.G) (sp : Pf c0.as c.as)
    (y : (H' = c.H ∧ c0.DR K x d) ∨ ∃ p vs es, x = .ref p ∧ c.H p = none ∧ H' = upd c.H p (.tup vs) ∧ d = .tup es ∧ c0.DRs K vs es) : ∃ c', c'.H = H' ∧ c'.ok K ∧ Step c c' ∧ c'.DR K x d ∧ c'.st = c.st := by
  rcases y with ⟨rfl, r⟩ | ⟨p, vs, es, rfl, hp, rfl, rfl, r⟩
  · exact ⟨c, rfl, S, Step.refl _, DR.mono se sp r, rfl⟩
  · obtain ⟨h1, h2⟩ := Cf.fix S hp (o := .tup vs)
    exact ⟨_, rfl, h1, h2, .tup (.inl (.inl upd_same)) (DRs.mono (se.trans h2.ex) (sp.trans h2.pf) r), rfl⟩
/-- what a set at D is asked for behind the loops -/
def ToldS (K : PySem.W.Frag) (W : WX) (w : World) (Q : VK) (kk : List Str → ST → Res D) (Q' : VK) : Prop :=
  ∀ c1 c D acc, Step c1 c → c.ok K → c.H D = some (SetSO w D acc) → Post K W c1 (RlD K) Q (kk acc c.st) → Q' (.ref D) c.H
theorem sc2_read {own : List (Str × Nat)} {g g1 : TG} {kk : List Str → ST → Res D} {σ : L2.St} {c : Cf} {sl : SL} {Q Q' : VK} {vs1 : List Nat} (S : c.ok X.K) (L : c.SlR X.K σ sl) (hw : ∀ i ∈ ts, i ∈ own.map (·.2)) (hw1 : ∀ i ∈ ts1, i ∈ vs1)
    (hg : ∀ (G H : Hp) as v d σ sl sl' (Q : L2.St → Hp → Prop), Ex G H → DR X.K G as v d → SlR X.K G as σ sl → tf d sl = some sl' → (∀ σ', SlR X.K G as σ' sl' → Only ts σ σ' → Q σ' H) → g v σ H Q)
    (hg1 : ∀ (G H : Hp) as v d σ sl sl' (Q : L2.St → Hp → Prop), Ex G H → DR X.K G as v d → SlR X.K G as σ sl → tf1 d sl = some sl' → (∀ σ', SlR X.K G as σ' sl' → Only ts1 σ σ' → Q σ' H) → g1 v σ H Q)
    (T : ToldS X.K W X.w Q kk Q') (P : Post X.K W c (RlD X.K) Q (fSc2 fi tf fi1 tf1 el (own.map (·.2)) vs1 kk sl c.st)) :
    tSc2 X.w (tI X.K W fi) g (tI X.K W0 fi1) g1 (tE X.K W0 el) (own.map (·.2)) vs1 σ c.H Q' := by
  refine ⟨c, sl, rfl, S, L, Post.bind P fun J ds c1 s1 o1 ⟨Y, wk, yl⟩ P1 D hD => ?_⟩
  refine ⟨fun i m H' => m = ds.length - i ∧ i ≤ ds.length ∧ ∃ c' acc, c'.H = H' ∧ c'.ok X.K ∧ Step c1 c' ∧ c'.H D = some (SetSO X.w D acc) ∧ ¬ Live c'.as c'.st D ∧ c'.G D = none ∧
      Post X.K W c1 (RlD X.K) Q ((scOut tf fi1 tf1 el vs1 (wipeD sl (own.map (·.2))) (ds.drop i) acc c'.st).bind kk), ⟨ds.length, rfl, Nat.zero_le _, ⟨c1.G, upd c1.H D (SetSO X.w D []), c1.as, c1.st⟩, [], rfl, Cf.out o1 (not_live o1 hD) (o1.ex.free hD), (Step.refl c1).out hD, upd_same, not_live (c := c1) o1 hD, o1.ex.free hD, by simpa using P1⟩, ?_⟩
  rintro i m H' ⟨rfl, hi, c', acc, rfl, o', s', hd1, hd2, hd3, P'⟩
  by_cases hlt : i < ds.length
  · refine .inr ⟨wk.goes i c'.H hlt (s'.ex.trans o'.ex), fun H' => ∃ c' acc, c'.H = H' ∧ c'.ok X.K ∧ Step c1 c' ∧ c'.H D = some (SetSO X.w D acc) ∧ ¬ Live c'.as c'.st D ∧ c'.G D = none ∧
      Post X.K W c1 (RlD X.K) Q ((scOut tf fi1 tf1 el vs1 (wipeD sl (own.map (·.2))) (ds.drop (i + 1)) acc c'.st).bind kk), fun H' h => ⟨ds.length - (i + 1), by omega, rfl, by omega, h⟩, ?_⟩
    intro x H2 y0
    have y := wk.yields i c'.H x H2 hlt (s'.ex.trans o'.ex) y0
    obtain ⟨d, hd, e⟩ := drop_cons hlt
    obtain ⟨c2, rfl, o2, s2, r2, e2⟩ := Ylds.turn (i := i) o' s' (yl i x _ H2 d hd (s'.ex.trans o'.ex) y)
    obtain ⟨k1, k2, k3⟩ := s2.kq hd1 hd2 hd3 kqp_set
    rw [e] at P'
    unfold scOut at P'
    cases q : tf d (wipeD sl (own.map (·.2))) with
    | none => rw [q] at P'; exact P'.elim
    | some sl1 =>
      rw [q] at P'
      dsimp only at P'
      refine hg c2.G c2.H c2.as x d (wipe σ (own.map (·.2))) _ sl1 _ o2.ex r2 (s2.sl (s'.sl ((s1.sl L).wipe _))) q ?_
      intro σ2 L2 on
      refine ⟨by rw [on.wipe hw, wipe_wipe], ?_⟩
      rw [← e2] at P'
      refine ⟨c2, sl1, rfl, o2, L2, ?_⟩
      cases q1 : fi1 sl1 c2.st with
      | stuck => rw [q1] at P'; exact P'.elim
      | err C d sl st => rw [q1] at P'; exact P'.elim
      | ok es st1 =>
        rw [q1] at P'
        intro J1 c3 s3 o3 e3 ⟨Y1, wk1, yl1⟩
        subst e3
        obtain ⟨k4, k5, k6⟩ := s3.kq k1 k2 k3 kqp_set
        have L3 := s3.sl L2
        have s03 : Step c1 c3 := (s'.trans s2).trans s3
        have P3 : Post X.K W c1 (RlD X.K) Q (((scIn tf1 el (wipeD sl1 vs1) es acc c3.st).bind fun acc' st2 => scOut tf fi1 tf1 el vs1 (wipeD sl (own.map (·.2))) (ds.drop (i + 1)) acc' st2).bind kk) := P'
        clear P'
        refine ⟨fun j k H' => k = es.length - j ∧ j ≤ es.length ∧ ∃ c' acc, c'.H = H' ∧ c'.ok X.K ∧ Step c1 c' ∧ Ex c3.G c'.G ∧ Pf c3.as c'.as ∧ c'.H D = some (SetSO X.w D acc) ∧ ¬ Live c'.as c'.st D ∧ c'.G D = none ∧
          Post X.K W c1 (RlD X.K) Q (((scIn tf1 el (wipeD sl1 vs1) (es.drop j) acc c'.st).bind fun acc' st2 => scOut tf fi1 tf1 el vs1 (wipeD sl (own.map (·.2))) (ds.drop (i + 1)) acc' st2).bind kk), ⟨es.length, rfl, Nat.zero_le _, c3, acc, rfl, o3, s03, Ex.refl _, Pf.refl _, k4, k5, k6, by simpa using P3⟩, ?_⟩
        rintro j k H3 ⟨rfl, hj, c4, acc4, rfl, o4, s14, se4, sp4, m1, m2, m3, P4⟩
        by_cases hjt : j < es.length
        · refine .inr ⟨wk1.goes j c4.H hjt (se4.trans o4.ex), fun H' => ∃ c' acc, c'.H = H' ∧ c'.ok X.K ∧ Step c1 c' ∧ Ex c3.G c'.G ∧ Pf c3.as c'.as ∧ c'.H D = some (SetSO X.w D acc) ∧ ¬ Live c'.as c'.st D ∧ c'.G D = none ∧
            Post X.K W c1 (RlD X.K) Q (((scIn tf1 el (wipeD sl1 vs1) (es.drop (j + 1)) acc c'.st).bind fun acc' st2 => scOut tf fi1 tf1 el vs1 (wipeD sl (own.map (·.2))) (ds.drop (i + 1)) acc' st2).bind kk), fun H' h => ⟨es.length - (j + 1), by omega, rfl, by omega, h⟩, ?_⟩
          intro x1 H5 y10
          have y1 := wk1.yields j c4.H x1 H5 hjt (se4.trans o4.ex) y10
          obtain ⟨d1, hd1', e1⟩ := drop_cons hjt
          obtain ⟨c5, rfl, o5, s5, r5, e5⟩ := Ylds.turnW (i := j) o4 se4 sp4 (yl1 j x1 _ H5 d1 hd1' (se4.trans o4.ex) y1)
          obtain ⟨n1, n2, n3⟩ := s5.kq m1 m2 m3 kqp_set
          rw [e1] at P4
          unfold scIn at P4
          cases q2 : tf1 d1 (wipeD sl1 vs1) with
          | none => rw [q2] at P4; exact P4.elim
          | some sl2 =>
            rw [q2] at P4
            dsimp only at P4
            refine hg1 c5.G c5.H c5.as x1 d1 (wipe σ2 vs1) _ sl2 _ o5.ex r5 (s5.sl (SlR.mono se4 sp4 (L3.wipe _))) q2 ?_
            intro σ3 L5 on1
            refine ⟨by rw [on1.wipe hw1, wipe_wipe], ?_⟩
            rw [← e5] at P4
            refine ⟨c5, sl2, rfl, o5, L5, ?_⟩
            cases q3 : el sl2 c5.st with
            | stuck => rw [q3] at P4; exact P4.elim
            | err C d sl st => rw [q3] at P4; exact P4.elim
            | ok yd st6 =>
              rw [q3] at P4
              intro v c6 s6 o6 e6 r6
              subst e6
              obtain ⟨n4, n5, n6⟩ := s6.kq n1 n2 n3 kqp_set
              cases yd with
              | str z =>
                cases r6
                have P4 : Post X.K W c1 (RlD X.K) Q (((if acc4.length ≤ 4000 then scIn tf1 el (wipeD sl1 vs1) (es.drop (j + 1)) (addS z acc4) c6.st else .stuck : Res (List Str)).bind fun acc' st2 => scOut tf fi1 tf1 el vs1 (wipeD sl (own.map (·.2))) (ds.drop (i + 1)) acc' st2).bind kk) := P4
                by_cases hroom : acc4.length ≤ 4000
                · rw [if_pos hroom] at P4
                  refine ⟨acc4, z, rfl, n4, Nat.lt_of_le_of_lt (Nat.succ_le_succ hroom) (by decide), ?_⟩
                  exact ⟨⟨c6.G, upd c6.H D (SetSO X.w D (addS z acc4)), c6.as, c6.st⟩, addS z acc4, rfl, Cf.out o6 n5 n6, ((s14.trans s5).trans s6).out hD, se4.trans (s5.trans s6).ex, sp4.trans (s5.trans s6).pf, upd_same, n5, n6, P4⟩
                · rw [if_neg hroom] at P4; exact P4.elim
              | _ => exact P4.elim
        · have hj2 : j = es.length := by omega
          subst hj2
          refine .inl ⟨wk1.stops c4.H (se4.trans o4.ex), ?_⟩
          rw [List.drop_length] at P4
          unfold scIn at P4
          exact ⟨c4, acc4, rfl, o4, s14, m1, m2, m3, P4⟩
  · have hi2 : i = ds.length := by omega
    subst hi2
    refine .inl ⟨wk.stops c'.H (s'.ex.trans o'.ex), ?_⟩
    rw [List.drop_length] at P'
    unfold scOut at P'
    exact T c1 c' D acc s' o' hd1 P'
def kSorted (l : List Str) (st : ST) : Res D := if l.length < 64 then .ok (.lst ((sortS l).map D.str)) st else .stuck
theorem told_sorted {Q : VK} : ToldS X.K W X.w Q kSorted (fun v H1 => rSortedSS X.w [v] H1 Q) := fun c1 c D acc s S h P => by
  unfold kSorted at P
  split at P
  · next hl =>
    refine ⟨D, acc, rfl, h, hl, fun ys p h1 h2 hp => ?_⟩
    have e := sortS_is h1 h2
    subst e
    exact newTree S hp (strs_dr _) (Post.mono s P)
  · exact P.elim
/-- sorted({elt for tg in iter for tg1 in iter1}) -/
theorem x_sortedSc2 {own : List (Str × Nat)} {vs1 : List Nat} {g g1 : TG} (hc : X.calm = true) (hN : X.N.Nodup) (hm : X.mg "sorted" = none) (hi : XI X W tg iter fi) (ok : BlkOk X.N X.env.scope scope own) (hv : ∀ i ∈ vs1, i ∈ own.map (·.2))
    (hg : ∀ (s : Shared) (H : Hp) (C : Addr) (cl : List (Str × Addr)) (fp : List Addr), GT (X.blk s H scope (compEnvC scope cl C X.env) fp) tg ts g tf) (hw : ∀ i ∈ ts, i ∈ own.map (·.2))
    (hi1 : ∀ (s : Shared) (H : Hp) (C : Addr) (cl : List (Str × Addr)) (fp : List Addr), XI (X.blk s H scope (compEnvC scope cl C X.env) fp) W0 tg1 iter1 fi1)
    (hg1 : ∀ (s : Shared) (H : Hp) (C : Addr) (cl : List (Str × Addr)) (fp : List Addr), GT (X.blk s H scope (compEnvC scope cl C X.env) fp) tg1 ts1 g1 tf1) (hw1 : ∀ i ∈ ts1, i ∈ vs1)
    (he : ∀ (s : Shared) (H : Hp) (C : Addr) (cl : List (Str × Addr)) (fp : List Addr), PX (X.blk s H scope (compEnvC scope cl C X.env) fp) W0 elt el)
    (hs : ∀ x, foldedSetIterable iter X.env x = pure x := by intro _; rfl) (hs1 : ∀ env x, foldedSetIterable iter1 env x = pure x := by intro _ _; rfl) (hgl : Gl X "sorted" := by rfl)
    (hst : starEach [SC2 elt tg iter tg1 iter1 scope pos] X.env = [(false, eval (SC2 elt tg iter tg1 iter1 scope pos) X.env)] := by rfl) (hpl : (backTo pos2 (starEach [] X.env)).any (·.1) = false := by rfl) :
    PX X W (.Call (.Name "sorted" p) [SC2 elt tg iter tg1 iter1 scope pos] [] pos2) (fSc2 fi tf fi1 tf1 el (own.map (·.2)) vs1 kSorted) :=
  pe_imp (pe_callB (call_sortedSS hc) hgl hm PyProof.Rows.boot_sorted (pa_cons (pe_sc2 (wi := tI X.K W fi) (wi1 := tI X.K W0 fi1) (te := tE X.K W0 el) hc hN hi ok hv (fun s H C cl fp => (hg s H C cl fp).pg) (fun s H C cl fp => hi1 s H C cl fp) (fun s H C cl fp => (hg1 s H C cl fp).pg) (fun s H C cl fp => he s H C cl fp) hs hs1) pa_nil hst) (by decide) (by decide) hst hpl) fun σ H Q w => by
    obtain ⟨c, sl, rfl, S, L, P⟩ := w
    have hg0 := (hg X.s_0 X.H_0 0 [] []).ok
    have hg10 := (hg1 X.s_0 X.H_0 0 [] []).ok
    exact sc2_read S L hw hw1 hg0 hg10 told_sorted P
end
end Rq
set_option Elab.async false
set_option linter.all false
set_option maxRecDepth 100000
set_option maxHeartbeats 4000000
/-! RqSet6: set(texts). -/
namespace Rq
open PySem PySem.Spec PyProof.Rows L2
section
variable {prog : Program} {w : World} {A : Around} {E : Value → Shared → Prop} {s : Shared}
/-- the texts one after another into a set -/
def addAll (xs : List Str) (acc : List Str) : List Str := xs.foldl (fun a z => addS z a) acc
theorem addS_len (z : Str) (acc : List Str) : (addS z acc).length ≤ acc.length + 1 := by unfold addS; split <;> simp
theorem set_loop {R : Result → Shared → Prop} {I S : Addr} {fp wr : List Addr} {G : Array GenState → Array GenState → Prop} {P : Nat → Value → Prop} {St : Nat → Shared → Prop} {xs : List Str}
    (W : WalksS prog w A.in1 I fp wr G xs.length P St) (hS : S ∉ fp) (hP : ∀ i v, P i v → ∃ x t, xs[i]? = some x ∧ v = .str x t) (hn : xs.length + 1 < scanBound) :
    ∀ (k i : Nat) (s : Shared) (l : List Str), xs.length - i = k → i ≤ xs.length → St i s → SetS w s.heap S l → l.length ≤ i →
      (∀ s', Moved (S :: wr) G s s' → SetS w s'.heap S (addAll (xs.drop i) l) → R (.ok (.ret .none)) s') →
      codeAny (model prog w) A (.builtin "set.update.loop" ⟨[.ref S, .ref I], []⟩) R s
  | 0, i, s, l, hk, hi, st, hs, hl, q => by
    have e : i = xs.length := by omega
    subst e
    refine codeAny_builtin F.entry_set_update_loop ?_
    rw [Around.under_plainId F.plain_set_update_loop]
    unfold Builtin.«set.update.loop»
    refine wpAny_bind (W.done s _ _ st fun s' mv => ?_)
    refine wpAny_pure ?_
    refine q s' (mv.mono fun b hb => List.mem_cons_of_mem _ hb) ?_
    rw [List.drop_length]
    exact hs.at fun o e => mv.heap S o (fun z => hS (W.sub _ z)) e
  | k + 1, i, s, l, hk, hi, st, hs, hl, q => by
    have hlt : i < xs.length := by omega
    refine codeAny_builtin F.entry_set_update_loop ?_
    rw [Around.under_plainId F.plain_set_update_loop]
    unfold Builtin.«set.update.loop»
    refine wpAny_bind (W.item i s _ _ hlt st fun v s1 pv st1 mv => ?_)
    obtain ⟨x, t, hx, rfl⟩ := hP i v pv
    have hs1 : SetS w s1.heap S l := hs.at fun o e => mv.heap S o (fun z => hS (W.sub _ z)) e
    refine wpAny_bind (wpAny_holding ?_)
    unfold setAdd
    refine wpAny_holding (wpAny_bind ((PySem.strKind prog w).pyHash (isStr x t) ?_))
    refine sets_hashed (s := { s1 with toks := s1.toks + 1 }) hs1 (by omega) fun b h' sb hs2 => ?_
    refine wpAny_pure ⟨plainId_quiet F.plain_set_update_loop _, ?_⟩
    have mv2 : Moved (S :: wr) G s { heap := h', gens := s1.gens, drawn := s1.drawn, toks := s1.toks + 1, os := s1.os } :=
      ⟨fun b o hb e => (sb.2 b fun z => hb (by rw [z]; exact List.mem_cons_self)).trans (mv.heap b o (fun z => hb (List.mem_cons_of_mem _ z)) e), mv.gens, mv.drawn, mv.os, Nat.le_succ_of_le mv.toks⟩
    refine set_loop W hS hP hn k (i + 1) _ (addS x l) (by omega) (by omega) ?_ hs2 (Nat.le_trans (addS_len x l) (by omega)) fun s' mv3 hs3 => q s' ?_ ?_
    · exact W.frame (i + 1) s1 h' (s1.toks + 1) st1 (Nat.le_succ _) fun b hb o e => (sb.2 b fun z => hS (by rw [← z]; exact hb)).trans e
    · exact ⟨fun b o hb e => mv3.heap b o hb (mv2.heap b o hb e), W.gtrans _ _ _ mv2.gens mv3.gens, mv3.drawn.trans mv2.drawn, mv3.os.trans mv2.os, Nat.le_trans mv2.toks mv3.toks⟩
    · obtain ⟨d, hd, e⟩ := drop_cons hlt
      rw [hx] at hd; cases hd
      rw [e]
      exact hs3
theorem strs_get : ∀ {us : List Value} {xs : List Str} {i : Nat} {v : Value}, StrsAre us xs → us[i]? = some v → ∃ x t, xs[i]? = some x ∧ v = .str x t
  | _, _, i, v, .nil, h => by simp at h
  | _, _, 0, v, .cons y t r, h => by simp at h; exact ⟨y, t, by simp, h.symm⟩
  | _, _, i + 1, v, .cons y t r, h => by
    obtain ⟨x, t, h1, h2⟩ := strs_get r (by simpa using h)
    exact ⟨x, t, by simpa using h1, h2⟩
/-- set(list) -/
theorem call_set_list {l : Addr} {items : Array Value} {xs : List Str} {Q : Value → Shared → Prop} (hd : A.handled = none) (hl : s.heap.IsList l items) (hx : StrsAre items.toList xs) (hn : xs.length + 1 < scanBound)
    (q : ∀ h' tk, SetS w h' s.heap.objs.size (addAll xs []) → (∀ b o, s.heap.get? b = some o → h'.get? b = some o) → Q (.ref s.heap.objs.size) { heap := h', gens := s.gens, drawn := s.drawn, toks := tk, os := s.os }) :
    wpAny (model prog w) A (call (.type "set") [.ref l]) Q E s := by
  obtain ⟨c0, tl, hmro⟩ := F.called_set.mro
  have hmade := F.called_set.made
  have hsub := F.called_set.sub
  refine wpAny_call ?_
  refine codeAny_of_tree ?_
  show wpAny _ _ (pure (Fin.again (Code.builtin "type.__call__" ⟨[.type "set", .ref l], []⟩))) _ _ _
  refine wpAny_pure ⟨Code.quiet_builtin _ (by decide +kernel), ?_⟩
  refine codeAny_builtin F.entry_type_call ?_
  rw [Around.under_plain (weight_type_call_type _ _ _) rfl]
  unfold Builtin.«type.__call__»
  dsimp only
  have nt : (Value.type "set" == Value.type "type") = false := F.called_set.notType
  simp only [nt, Bool.false_eq_true, if_false]
  have cc := F.called_set.canCreate
  simp only [cc, Bool.false_eq_true, if_false]
  rw [F.typeCall_set_1]
  refine wpAny_bind (wpAny_pure ?_)
  rw [hmro]
  refine wpAny_bind (wpAny_pure ?_)
  simp only [List.isEmpty_cons, Bool.false_eq_true, if_false]
  rw [hmade]
  refine wpAny_bind (wpAny_pure ?_)
  dsimp only
  refine wpAny_bind (wpAny_pure ?_)
  generalize hob : ({ cls := .type "set", dict := none, data := .set #[] 0 (.fresh 0 0 (!w.params.followText "set-order")) } : Obj) = ob
  refine wpAny_bind (wpAny_holding (wpAny_call ?_))
  refine codeAny_mono (code_set_led1 (E := E) (.ref l) (Q₁ := fun obj s1 => obj = .ref s.heap.objs.size ∧ s1 = { s with heap := s.heap.push ob }) ⟨rfl, by rw [← hob]⟩) ?_
  intro r s1 hr
  match r, hr with
  | .ok .next, h => exact h.elim
  | .ok .brk, h => exact h.elim
  | .ok .cont, h => exact h.elim
  | .error _, h => exact h
  | .ok (.ret v1), h =>
    obtain ⟨rfl, rfl⟩ := h
    dsimp only
    have fob : (s.heap.push ob).get? s.heap.objs.size = some ob := by rw [← hob]; exact Heap.get?_push_size _ rfl
    have obc : ob.cls = .type "set" := by rw [← hob]
    have ty : ({ s with heap := s.heap.push ob } : Shared).TypeIs (.ref s.heap.objs.size) "set" := ⟨ob, fob, obc⟩
    refine wpAny_bind (wpAny_isInstance ty hsub ?_)
    simp only [Bool.not_true, Bool.false_eq_true, if_false]
    refine wpAny_bind (wpAny_holding (wpAny_callSpecial?_slot ty F.called_set.init ?_))
    refine wpAny_call ?_
    refine codeAny_call_builtin (F.called_set.init.plain) F.entry_set_init (check_set_init_1 ty ?_)
    unfold Builtin.«set.__init__»
    refine wpAny_bind ?_
    unfold noKeywords
    refine wpAny_pure ?_
    dsimp only
    refine wpAny_bind ?_
    unfold typeNameOfCut
    unfold shownTypeOf
    refine wpAny_bind (wpAny_bind (wpAny_typeOf ty ?_))
    simp only [show (Value.type "set" == Value.type "builtin_function_or_method") = false by decide +kernel, Bool.false_eq_true, if_false]
    refine wpAny_pure ?_
    unfold typeNameCut typeName
    refine wpAny_pure ?_
    refine wpAny_bind ?_
    unfold checkCount
    refine wpAny_pure ?_
    unfold Builtin.Frozenset.addrOf
    refine wpAny_bind (wpAny_pure ?_)
    unfold setUsed
    refine wpAny_bind ?_
    refine wpAny_bind (wpAny_setState_of (o := ob) (es := #[]) (ep := 0) (t := .fresh 0 0 (!w.params.followText "set-order")) fob (by rw [← hob]) (by rfl) ?_)
    refine wpAny_pure ?_
    simp only [show ((SetTable.fresh 0 0 (!w.params.followText "set-order")).fill != 0) = false by rfl, Bool.false_eq_true, if_false]
    unfold Builtin.Frozenset.updateFrom
    refine wpAny_bind ?_
    have hl1 : (s.heap.push ob).IsList l items := by
      obtain ⟨o, h1, h2⟩ := hl
      exact ⟨o, Heap.get?_push_of_some _ h1, h2⟩
    have tyl : ({ s with heap := s.heap.push ob } : Shared).TypeIs (.ref l) "list" := by
      obtain ⟨o, h1, h2, _⟩ := hl1
      exact ⟨o, h1, h2⟩
    have lS : l ≠ s.heap.objs.size := by
      obtain ⟨o, h1, _⟩ := hl
      exact Nat.ne_of_lt (Heap.lt_size h1)
    have szo : (s.heap.push ob).objs.size = s.heap.objs.size + 1 := PyProof.Rows.size_push' ..
    refine wpAny_bind ?_
    unfold Builtin.Frozenset.isAnySet
    refine wpAny_bind (wpAny_isInstance tyl F.sub_list_set ?_)
    show wpAny _ _ (isInstance (Value.ref l) (Value.type "frozenset")) _ _ _
    refine wpAny_isInstance tyl F.sub_list_frozenset ?_
    simp only [Bool.false_eq_true, if_false]
    refine wpAny_bind (wpAny_typeOf tyl ?_)
    simp only [show (Value.type "list" == Value.type "dict") = false by decide +kernel, Bool.false_eq_true, if_false]
    refine wpAny_bind (wpAny_pyIter_list hl1 ?_)
    dsimp only
    generalize hit : ({ cls := Value.type "list_iterator", data := Data.fields #[Value.ref l, Value.int 0 0] } : Obj) = itob
    have fit : ((s.heap.push ob).push itob).get? (s.heap.objs.size + 1) = some itob := by rw [← szo, ← hit]; exact Heap.get?_push_size _ rfl
    rw [szo]
    refine wpAny_bind (wpAny_runValue ?_)
    have nxs : items.size = xs.length := by rw [← Array.length_toList]; exact hx.len_eq
    have W := (Walks.list (prog := prog) (w := w) (A := A.in1.in1.in1) hd (s.heap.objs.size + 1) l (by have := lS; obtain ⟨o, h1, _⟩ := hl; exact Nat.ne_of_lt (Nat.lt_succ_of_lt (Heap.lt_size h1))) items).toS
    rw [nxs] at W
    refine set_loop (S := s.heap.objs.size) W (fun z => ?_) (fun i v hv => ?_) hn xs.length 0 _ [] (by omega) (Nat.zero_le _) ⟨⟨itob, fit, by rw [← hit], by rw [← hit]; rfl⟩, ?_⟩ ?_ (Nat.le_refl _) ?_
    · rcases List.mem_cons.mp z with z | z
      · exact absurd z (Nat.ne_of_lt (Nat.lt_succ_self _))
      · rcases List.mem_cons.mp z with z | z
        · exact lS z.symm
        · cases z
    · exact strs_get hx (by rw [Array.getElem?_toList]; exact hv)
    · obtain ⟨o, h1, h2⟩ := hl1
      exact ⟨o, Heap.get?_push_of_some _ h1, h2⟩
    · refine sets_fresh ?_
      rw [Heap.get?_push_of_some _ fob, hob]
    · intro s' mv hs
      refine wpAny_pure (wpAny_pure ?_)
      show wpAny _ A.in1 (if (Value.none != Value.none) = true then _ else ret (Value.ref s.heap.objs.size)) _ _ _
      simp only [show (Value.none != Value.none) = false by decide +kernel, Bool.false_eq_true, if_false]
      refine wpAny_pure ?_
      show Q (Value.ref s.heap.objs.size) s'
      obtain ⟨h', g', d', t', o'⟩ := s'
      have e1 : g' = s.gens := mv.gens
      have e2 : d' = s.drawn := mv.drawn
      have e3 : o' = s.os := mv.os
      subst e1; subst e2; subst e3
      refine q h' t' hs fun b o e => mv.heap b o (fun z => ?_) (Heap.get?_push_of_some _ (Heap.get?_push_of_some _ e))
      have hb := Heap.lt_size e
      rcases List.mem_cons.mp z with z | z
      · exact absurd z (Nat.ne_of_lt hb)
      · rcases List.mem_cons.mp z with z | z
        · exact absurd z (Nat.ne_of_lt (Nat.lt_succ_of_lt hb))
        · cases z
/-- set(tuple) -/
theorem call_set_tuple {l : Addr} {items : Array Value} {xs : List Str} {Q : Value → Shared → Prop} (hd : A.handled = none) (hl : s.heap.IsTuple l items) (hx : StrsAre items.toList xs) (hn : xs.length + 1 < scanBound)
    (q : ∀ h' tk, SetS w h' s.heap.objs.size (addAll xs []) → (∀ b o, s.heap.get? b = some o → h'.get? b = some o) → Q (.ref s.heap.objs.size) { heap := h', gens := s.gens, drawn := s.drawn, toks := tk, os := s.os }) :
    wpAny (model prog w) A (call (.type "set") [.ref l]) Q E s := by
  obtain ⟨c0, tl, hmro⟩ := F.called_set.mro
  have hmade := F.called_set.made
  have hsub := F.called_set.sub
  refine wpAny_call ?_
  refine codeAny_of_tree ?_
  show wpAny _ _ (pure (Fin.again (Code.builtin "type.__call__" ⟨[.type "set", .ref l], []⟩))) _ _ _
  refine wpAny_pure ⟨Code.quiet_builtin _ (by decide +kernel), ?_⟩
  refine codeAny_builtin F.entry_type_call ?_
  rw [Around.under_plain (weight_type_call_type _ _ _) rfl]
  unfold Builtin.«type.__call__»
  dsimp only
  have nt : (Value.type "set" == Value.type "type") = false := F.called_set.notType
  simp only [nt, Bool.false_eq_true, if_false]
  have cc := F.called_set.canCreate
  simp only [cc, Bool.false_eq_true, if_false]
  rw [F.typeCall_set_1]
  refine wpAny_bind (wpAny_pure ?_)
  rw [hmro]
  refine wpAny_bind (wpAny_pure ?_)
  simp only [List.isEmpty_cons, Bool.false_eq_true, if_false]
  rw [hmade]
  refine wpAny_bind (wpAny_pure ?_)
  dsimp only
  refine wpAny_bind (wpAny_pure ?_)
  generalize hob : ({ cls := .type "set", dict := none, data := .set #[] 0 (.fresh 0 0 (!w.params.followText "set-order")) } : Obj) = ob
  refine wpAny_bind (wpAny_holding (wpAny_call ?_))
  refine codeAny_mono (code_set_led1 (E := E) (.ref l) (Q₁ := fun obj s1 => obj = .ref s.heap.objs.size ∧ s1 = { s with heap := s.heap.push ob }) ⟨rfl, by rw [← hob]⟩) ?_
  intro r s1 hr
  match r, hr with
  | .ok .next, h => exact h.elim
  | .ok .brk, h => exact h.elim
  | .ok .cont, h => exact h.elim
  | .error _, h => exact h
  | .ok (.ret v1), h =>
    obtain ⟨rfl, rfl⟩ := h
    dsimp only
    have fob : (s.heap.push ob).get? s.heap.objs.size = some ob := by rw [← hob]; exact Heap.get?_push_size _ rfl
    have obc : ob.cls = .type "set" := by rw [← hob]
    have ty : ({ s with heap := s.heap.push ob } : Shared).TypeIs (.ref s.heap.objs.size) "set" := ⟨ob, fob, obc⟩
    refine wpAny_bind (wpAny_isInstance ty hsub ?_)
    simp only [Bool.not_true, Bool.false_eq_true, if_false]
    refine wpAny_bind (wpAny_holding (wpAny_callSpecial?_slot ty F.called_set.init ?_))
    refine wpAny_call ?_
    refine codeAny_call_builtin (F.called_set.init.plain) F.entry_set_init (check_set_init_1 ty ?_)
    unfold Builtin.«set.__init__»
    refine wpAny_bind ?_
    unfold noKeywords
    refine wpAny_pure ?_
    dsimp only
    refine wpAny_bind ?_
    unfold typeNameOfCut
    unfold shownTypeOf
    refine wpAny_bind (wpAny_bind (wpAny_typeOf ty ?_))
    simp only [show (Value.type "set" == Value.type "builtin_function_or_method") = false by decide +kernel, Bool.false_eq_true, if_false]
    refine wpAny_pure ?_
    unfold typeNameCut typeName
    refine wpAny_pure ?_
    refine wpAny_bind ?_
    unfold checkCount
    refine wpAny_pure ?_
    unfold Builtin.Frozenset.addrOf
    refine wpAny_bind (wpAny_pure ?_)
    unfold setUsed
    refine wpAny_bind ?_
    refine wpAny_bind (wpAny_setState_of (o := ob) (es := #[]) (ep := 0) (t := .fresh 0 0 (!w.params.followText "set-order")) fob (by rw [← hob]) (by rfl) ?_)
    refine wpAny_pure ?_
    simp only [show ((SetTable.fresh 0 0 (!w.params.followText "set-order")).fill != 0) = false by rfl, Bool.false_eq_true, if_false]
    unfold Builtin.Frozenset.updateFrom
    refine wpAny_bind ?_
    have hl1 : (s.heap.push ob).IsTuple l items := by
      obtain ⟨o, h1, h2⟩ := hl
      exact ⟨o, Heap.get?_push_of_some _ h1, h2⟩
    have tyl : ({ s with heap := s.heap.push ob } : Shared).TypeIs (.ref l) "tuple" := by
      obtain ⟨o, h1, h2, _⟩ := hl1
      exact ⟨o, h1, h2⟩
    have lS : l ≠ s.heap.objs.size := by
      obtain ⟨o, h1, _⟩ := hl
      exact Nat.ne_of_lt (Heap.lt_size h1)
    have szo : (s.heap.push ob).objs.size = s.heap.objs.size + 1 := PyProof.Rows.size_push' ..
    refine wpAny_bind ?_
    unfold Builtin.Frozenset.isAnySet
    refine wpAny_bind (wpAny_isInstance tyl F.sub_tuple_set ?_)
    show wpAny _ _ (isInstance (Value.ref l) (Value.type "frozenset")) _ _ _
    refine wpAny_isInstance tyl F.sub_tuple_frozenset ?_
    simp only [Bool.false_eq_true, if_false]
    refine wpAny_bind (wpAny_typeOf tyl ?_)
    simp only [show (Value.type "tuple" == Value.type "dict") = false by decide +kernel, Bool.false_eq_true, if_false]
    refine wpAny_bind (wpAny_pyIter_tuple hl1 ?_)
    dsimp only
    generalize hit : ({ cls := Value.type "tuple_iterator", data := Data.fields #[Value.ref l, Value.int 0 0] } : Obj) = itob
    have fit : ((s.heap.push ob).push itob).get? (s.heap.objs.size + 1) = some itob := by rw [← szo, ← hit]; exact Heap.get?_push_size _ rfl
    rw [szo]
    refine wpAny_bind (wpAny_runValue ?_)
    have nxs : items.size = xs.length := by rw [← Array.length_toList]; exact hx.len_eq
    have W := (Walks.tuple (prog := prog) (w := w) (A := A.in1.in1.in1) hd (s.heap.objs.size + 1) l (by have := lS; obtain ⟨o, h1, _⟩ := hl; exact Nat.ne_of_lt (Nat.lt_succ_of_lt (Heap.lt_size h1))) items).toS
    rw [nxs] at W
    refine set_loop (S := s.heap.objs.size) W (fun z => ?_) (fun i v hv => ?_) hn xs.length 0 _ [] (by omega) (Nat.zero_le _) ⟨⟨itob, fit, by rw [← hit], by rw [← hit]; rfl⟩, ?_⟩ ?_ (Nat.le_refl _) ?_
    · rcases List.mem_cons.mp z with z | z
      · exact absurd z (Nat.ne_of_lt (Nat.lt_succ_self _))
      · rcases List.mem_cons.mp z with z | z
        · exact lS z.symm
        · cases z
    · exact strs_get hx (by rw [Array.getElem?_toList]; exact hv)
    · obtain ⟨o, h1, h2⟩ := hl1
      exact ⟨o, Heap.get?_push_of_some _ h1, h2⟩
    · refine sets_fresh ?_
      rw [Heap.get?_push_of_some _ fob, hob]
    · intro s' mv hs
      refine wpAny_pure (wpAny_pure ?_)
      show wpAny _ A.in1 (if (Value.none != Value.none) = true then _ else ret (Value.ref s.heap.objs.size)) _ _ _
      simp only [show (Value.none != Value.none) = false by decide +kernel, Bool.false_eq_true, if_false]
      refine wpAny_pure ?_
      show Q (Value.ref s.heap.objs.size) s'
      obtain ⟨h', g', d', t', o'⟩ := s'
      have e1 : g' = s.gens := mv.gens
      have e2 : d' = s.drawn := mv.drawn
      have e3 : o' = s.os := mv.os
      subst e1; subst e2; subst e3
      refine q h' t' hs fun b o e => mv.heap b o (fun z => ?_) (Heap.get?_push_of_some _ (Heap.get?_push_of_some _ e))
      have hb := Heap.lt_size e
      rcases List.mem_cons.mp z with z | z
      · exact absurd z (Nat.ne_of_lt hb)
      · rcases List.mem_cons.mp z with z | z
        · exact absurd z (Nat.ne_of_lt (Nat.lt_succ_of_lt hb))
        · cases z
end
end Rq
set_option Elab.async false
set_option linter.all false
set_option maxRecDepth 100000
set_option maxHeartbeats 4000000
/-! RqSet7: len(set(texts)), sorted(set(texts)). -/
namespace Rq
open PySem PySem.Spec PyProof.Rows L2
section
variable {X : Cx} {W : WX} {e : PySem.Expr} {f : EF} {pos p p2 q2 : Pos}
abbrev rSetS (K : PySem.W.Frag) (w : World) : List V → Hp → VK → Prop := fun xs H Q => ∃ a zs, xs = [.ref a] ∧ (SqL K H a (zs.map V.str) ∨ SqT K H a (zs.map V.str)) ∧ zs.length ≤ 4000 ∧ ∀ p, H p = none → Q (.ref p) (upd H p (SetSO w p (addAll zs [])))
theorem call_setS (hc : X.calm = true) : CallR X (.type "set") (rSetS X.K X.w) := by
  intro pins s σ H xs us Q I rx ⟨a, zs, e, h, hn, q⟩
  subst e
  obtain rfl := vals_ref1' rx
  have hn2 : zs.length + 1 < scanBound := Nat.lt_of_le_of_lt (Nat.succ_le_succ hn) (by decide)
  have fin : ∀ h' tk, SetS X.w h' s.heap.objs.size (addAll zs []) → (∀ b o, s.heap.get? b = some o → h'.get? b = some o) → EP X pins σ Q (.ref s.heap.objs.size) { heap := h', gens := s.gens, drawn := s.drawn, toks := tk, os := s.os } := fun h' tk hs k =>
    ⟨.ref s.heap.objs.size, _, I.laid k (Nat.le_refl _) (setSO_ok hs), rfl, q _ I.fresh⟩
  rcases h with h | h
  · obtain ⟨its, rv, pl, _⟩ := I.list h
    exact call_set_list (I.ok.hd hc) pl.isList (by simpa using Vals.strs rv) hn2 fin
  · obtain ⟨its, rv, pl, _⟩ := I.tuple h
    exact call_set_tuple (I.ok.hd hc) pl (by simpa using Vals.strs rv) hn2 fin
abbrev rLenSS (w : World) : List V → Hp → VK → Prop := fun xs H Q => ∃ (a : Addr) (l : List Str), xs = [.ref a] ∧ H a = some (SetSO w a l) ∧ Q (.int l.length) H
theorem call_lenSS : CallR X (.builtin "len") (rLenSS X.w) := by
  intro pins s σ H xs us Q I rx ⟨a, l, e, hH, q⟩
  subst e
  obtain rfl := vals_ref1' rx
  have R : SetS X.w s.heap a l := (I.hok a _ hH).1
  obtain ⟨o, es, ep, t, ho, hex, hd, good, pm, nd, few, fit, ris, led⟩ := R
  have num : es.size = l.length := by rw [← Array.length_toList, ← List.length_map (f := sOf)]; exact pm.length_eq
  refine PySem.call_len_set ho hex hd fit (by have : (scanBound : Nat) < 2 ^ 63 := by decide
                                              omega) ?_
  refine ⟨.int l.length, H, inv_toks I _, ⟨_, by rw [num]⟩, q⟩
def zSetOf (kk : List Str → ST → Res D) (d : D) (st : ST) : Res D := match asSeq d st with
  | some xs => match texts xs with
    | some zs => if zs.length ≤ 4000 then kk (addAll zs []) st else .stuck
    | none => .stuck
  | none => .stuck
def kLenS (l : List Str) (st : ST) : Res D := .ok (.int l.length) st
theorem setOf_read {w : World} {c1 : Cf} {v : V} {d : D} {Q : VK} {kk : List Str → ST → Res D} {r : List V → Hp → VK → Prop} (o1 : c1.ok X.K) (r1 : c1.DR X.K v d) (P1 : Post X.K W c1 (RlD X.K) Q (zSetOf kk d c1.st))
    (T : ∀ (c : Cf) (p : Addr) l, Step c1 c → c.ok X.K → c.H p = some (SetSO w p l) → Post X.K W c1 (RlD X.K) Q (kk l c.st) → r [.ref p] c.H Q) : rSetS X.K w [v] c1.H (fun u H1 => r [u] H1 Q) := by
  unfold zSetOf at P1
  split at P1
  · next xs hx =>
    split at P1
    · next zs hz =>
      split at P1
      · next hl =>
        obtain ⟨a, vs, rfl, h1, h2⟩ := asSeq_ok o1 r1 hx
        obtain ⟨rfl, rfl⟩ := texts_ok hz h2
        refine ⟨a, zs, rfl, h1, hl, fun p hp => ?_⟩
        exact T ⟨c1.G, upd c1.H p (SetSO w p (addAll zs [])), c1.as, c1.st⟩ p _ ((Step.refl c1).out hp) (Cf.out o1 (not_live o1 hp) (o1.ex.free hp)) upd_same P1
      · exact P1.elim
    · exact P1.elim
  · exact P1.elim
theorem x_lenSet (hc : X.calm = true) (hm : X.mg "len" = none) (hm2 : X.mg "set" = none) (ha : PX X W e f) (hg : Gl X "len" := by rfl) (hg2 : Gl X "set" := by rfl)
    (hs : starEach [e] X.env = [(false, eval e X.env)] := by rfl) (hs2 : starEach [.Call (.Name "set" p2) [e] [] q2] X.env = [(false, eval (.Call (.Name "set" p2) [e] [] q2) X.env)] := by rfl) (hp : (backTo pos (starEach [] X.env)).any (·.1) = false := by rfl) (hp2 : (backTo q2 (starEach [] X.env)).any (·.1) = false := by rfl) :
    PX X W (.Call (.Name "len" p) [.Call (.Name "set" p2) [e] [] q2] [] pos) (f1 (zSetOf kLenS) f) :=
  pe_imp (pe_callB call_lenSS hg hm boot_len (pa_cons (pe_callTy (call_setS hc) hg2 hm2 PyProof.Rows.boot_set (pa_cons ha pa_nil hs) (by decide) (by decide) hs hp2) pa_nil hs2) (by decide) (by decide) hs2 hp) fun σ H Q w => by
    obtain ⟨c, sl, rfl, S, L, P⟩ := w
    refine ⟨c, sl, rfl, S, L, Post.bind P fun v d c1 s1 o1 r1 P1 => ?_⟩
    exact setOf_read (w := X.w) (r := rLenSS X.w) o1 r1 P1 fun c p l st S2 h P2 => ⟨p, l, rfl, h, Post.ok S2 (.int _) (Post.mono st P2)⟩
theorem x_sortedSet (hc : X.calm = true) (hm : X.mg "sorted" = none) (hm2 : X.mg "set" = none) (ha : PX X W e f) (hg : Gl X "sorted" := by rfl) (hg2 : Gl X "set" := by rfl)
    (hs : starEach [e] X.env = [(false, eval e X.env)] := by rfl) (hs2 : starEach [.Call (.Name "set" p2) [e] [] q2] X.env = [(false, eval (.Call (.Name "set" p2) [e] [] q2) X.env)] := by rfl) (hp : (backTo pos (starEach [] X.env)).any (·.1) = false := by rfl) (hp2 : (backTo q2 (starEach [] X.env)).any (·.1) = false := by rfl) :
    PX X W (.Call (.Name "sorted" p) [.Call (.Name "set" p2) [e] [] q2] [] pos) (f1 (zSetOf kSorted) f) :=
  pe_imp (pe_callB (call_sortedSS hc) hg hm PyProof.Rows.boot_sorted (pa_cons (pe_callTy (call_setS hc) hg2 hm2 PyProof.Rows.boot_set (pa_cons ha pa_nil hs) (by decide) (by decide) hs hp2) pa_nil hs2) (by decide) (by decide) hs2 hp) fun σ H Q w => by
    obtain ⟨c, sl, rfl, S, L, P⟩ := w
    refine ⟨c, sl, rfl, S, L, Post.bind P fun v d c1 s1 o1 r1 P1 => ?_⟩
    refine setOf_read (w := X.w) (r := rSortedSS X.w) o1 r1 P1 fun c p l st S2 h P2 => ?_
    unfold kSorted at P2
    split at P2
    · next hl =>
      refine ⟨p, l, rfl, h, hl, fun ys q h1 h2 hq => ?_⟩
      have e := sortS_is h1 h2
      subst e
      exact newTree S2 hq (strs_dr _) (Post.mono st P2)
    · exact P2.elim
end
end Rq
set_option Elab.async false
set_option linter.all false
set_option maxRecDepth 100000
set_option maxHeartbeats 4000000
/-! Rq, part 18: tests by what stands there, truth, constants of a module, x op= e, methods of a class. -/
namespace Rq
open PySem PySem.Spec PyProof.Rows L2
section
variable {K : PySem.W.Frag} {W : WX} {c : Cf} {X : Cx} {a b e o : PySem.Expr} {es : List PySem.Expr} {f g h : EF} {pos apos cpos p : Pos}
theorem xt_case (h : ∀ sl st, ∃ f', XT X W e f' ∧ f' sl st = f sl st) : XT X W e f := ⟨fun pins s σ H Q I w => by
  obtain ⟨c, sl, rfl, S, L, P⟩ := w
  obtain ⟨f', h1, h2⟩ := h sl c.st
  exact h1.run pins s σ c.H Q I ⟨c, sl, rfl, S, L, by unfold cOne fTest at P ⊢; rw [h2]; exact P⟩⟩
theorem xt_or2 {z z1 z2 : D → D → ST → Res D} (h : ∀ x y st, z x y st = z1 x y st ∨ z x y st = z2 x y st) (h1 : XT X W e (f2 z1 f g)) (h2 : XT X W e (f2 z2 f g)) : XT X W e (f2 z f g) := xt_case fun sl st => by
  unfold f2 at *
  cases q : f sl st with
  | ok d st1 =>
    cases q2 : g sl st1 with
    | ok d2 st2 =>
      rcases h d d2 st2 with k | k
      · exact ⟨_, h1, by rw [q]; show Res.bind (g sl st1) _ = Res.bind (g sl st1) _; rw [q2]; exact k.symm⟩
      · exact ⟨_, h2, by rw [q]; show Res.bind (g sl st1) _ = Res.bind (g sl st1) _; rw [q2]; exact k.symm⟩
    | err C d sl' st' => exact ⟨_, h1, by rw [q]; show Res.bind (g sl st1) _ = Res.bind (g sl st1) _; rw [q2]; rfl⟩
    | stuck => exact ⟨_, h1, by rw [q]; show Res.bind (g sl st1) _ = Res.bind (g sl st1) _; rw [q2]; rfl⟩
  | err C d sl' st' => exact ⟨_, h1, by rw [q]; rfl⟩
  | stuck => exact ⟨_, h1, by rw [q]; rfl⟩
theorem din_read (neg : Bool) {σ : L2.St} {H : Hp} {Q : Bool → Hp → Prop} (w : tT K W (f2 (zDIn neg) f g) σ H Q) : tE K W f σ H fun y H1 => tE K W g σ H1 fun x H2 => ∃ a o, x = .ref a ∧ DGet H2 a y o ∧ Q (if neg then !o.isSome else o.isSome) H2 := by
  obtain ⟨c, sl, rfl, S, L, P⟩ := w
  have P : Post K W c (fun _ (b : Bool) (b' : Bool) => b = b') Q ((f2 (zDIn neg) f g sl c.st).bind fun d st1 => match d with
    | .bl b => .ok b st1
    | _ => .stuck) := P
  unfold f2 at P
  rw [Res.bind_assoc] at P
  refine ⟨c, sl, rfl, S, L, Post.bind P fun v d c1 s1 o1 r1 P1 => ?_⟩
  rw [Res.bind_assoc] at P1
  refine ⟨c1, sl, rfl, o1, s1.sl L, Post.bind P1 fun v2 d2 c2 s2 o2 r2 P2 => ?_⟩
  unfold zDIn at P2
  split at P2
  · next kvs k h1 h2 =>
    obtain ⟨a, o, rfl, h3, h4⟩ := dget_ok o2 r2 (s2.dr r1) h1 h2
    refine ⟨a, o, rfl, h3, ?_⟩
    rw [h4]
    exact P2 _ c2 (Step.refl _) o2 rfl rfl
  · exact P2.elim
theorem xt_din (hu : X.A.units + 1 < cLine) (ha : PX X W a f) (hb : PX X W b g) (hm : behindInMarks .In b = false := by rfl) : XT X W (.Compare a [.In] [b] pos) (f2 (zDIn false) f g) := pt_imp (pt_cmp (pc_din hu ha hb) hm) fun σ H Q w => by
  obtain ⟨c, sl, e1, S, L, P⟩ := din_read false w
  refine ⟨c, sl, e1, S, L, ?_⟩
  cases q : f sl c.st with
  | stuck => rw [q] at P; exact P
  | err C d sl st => rw [q] at P; exact P
  | ok d st =>
    rw [q] at P
    intro v c1 s1 o1 e2 r1
    obtain ⟨c2, sl2, e3, S2, L2, P2⟩ := P v c1 s1 o1 e2 r1
    refine ⟨c2, sl2, e3, S2, L2, ?_⟩
    cases q2 : g sl2 c2.st with
    | stuck => rw [q2] at P2; exact P2
    | err C d sl st => rw [q2] at P2; exact P2
    | ok d st =>
      rw [q2] at P2
      intro v c1 s1 o1 e2 r1
      obtain ⟨a, o, h1, h2, h3⟩ := P2 v c1 s1 o1 e2 r1
      exact ⟨a, o, h1, h2, _, rfl, h3⟩
theorem xt_dnotIn (hu : X.A.units + 1 < cLine) (ha : PX X W a f) (hb : PX X W b g) (hm : behindInMarks .NotIn b = false := by rfl) : XT X W (.Compare a [.NotIn] [b] pos) (f2 (zDIn true) f g) := pt_imp (pt_cmp (pc_dnotin hu ha hb) hm) fun σ H Q w => by
  obtain ⟨c, sl, e1, S, L, P⟩ := din_read true w
  refine ⟨c, sl, e1, S, L, ?_⟩
  cases q : f sl c.st with
  | stuck => rw [q] at P; exact P
  | err C d sl st => rw [q] at P; exact P
  | ok d st =>
    rw [q] at P
    intro v c1 s1 o1 e2 r1
    obtain ⟨c2, sl2, e3, S2, L2, P2⟩ := P v c1 s1 o1 e2 r1
    refine ⟨c2, sl2, e3, S2, L2, ?_⟩
    cases q2 : g sl2 c2.st with
    | stuck => rw [q2] at P2; exact P2
    | err C d sl st => rw [q2] at P2; exact P2
    | ok d st =>
      rw [q2] at P2
      intro v c1 s1 o1 e2 r1
      obtain ⟨a, o, h1, h2, h3⟩ := P2 v c1 s1 o1 e2 r1
      exact ⟨a, o, h1, h2, _, rfl, h3⟩
theorem xt_in2 (hu : X.A.units + 1 < cLine) (ha : PX X W a f) (hb : PX X W b g) (hm : behindInMarks .In b = false := by rfl) : XT X W (.Compare a [.In] [b] pos) (f2 (zIn2 false) f g) := xt_or2 (zIn2_or false) (xt_din hu ha hb hm) (xt_in ha hb hm)
theorem xt_notIn2 (hu : X.A.units + 1 < cLine) (ha : PX X W a f) (hb : PX X W b g) (hm : behindInMarks .NotIn b = false := by rfl) : XT X W (.Compare a [.NotIn] [b] pos) (f2 (zIn2 true) f g) := xt_or2 (zIn2_or true) (xt_dnotIn hu ha hb hm) (xt_notIn ha hb hm)
/-! constants of the module -/
theorem x_gint {x : Str} {i : Int} (h : ∃ t, X.mg x = some (.int i t)) (hg : Gl X x := by rfl) (hd : (x == ("__debug__" : Str)) = false := by decide) : PX X W (.Name x pos) (fC (.int i)) := by
  obtain ⟨t, h⟩ := h
  exact x_glob (v := .int i) (d := .int i) hg h (show L2.RelV (.int i) (.int i t) from ⟨t, rfl⟩) (fun _ => .int i) hd
/-! truth -/
def tru (d : D) (st : ST) : Option Bool := match d with
  | .non => some false
  | .bl b => some b
  | .int i => some (i != 0)
  | .str y => if y.length ≤ 1000000 then some ((y.length : Int) != 0) else none
  | d => (asSeq d st).map fun xs => !xs.isEmpty
def fTru (f : EF) : EF := f1 (fun d st => match tru d st with
  | some b => .ok (.bl b) st
  | none => .stuck) f
theorem drs_empty {G : Hp} {as : List Addr} {vs : List V} {ds : List D} (h : DRs K G as vs ds) : vs.isEmpty = ds.isEmpty := by cases h <;> rfl
theorem xt_tru (ha : PX X W a f) (he : ∀ whole, isTrue a X.env whole = (do let v ← whole; standAt a.pos; holding [v] (truthy v)) := by intro _; rfl) : XT X W a (fTru f) := pt_imp (pt_truth ha he) fun σ H Q w => by
  obtain ⟨c, sl, rfl, S, L, P⟩ := w
  have P : Post X.K W c (fun _ (b : Bool) (b' : Bool) => b = b') Q ((fTru f sl c.st).bind fun d st1 => match d with
    | .bl b => .ok b st1
    | _ => .stuck) := P
  unfold fTru f1 at P
  rw [Res.bind_assoc] at P
  refine ⟨c, sl, rfl, S, L, Post.bind P fun v d c1 s1 o1 r1 P1 => ?_⟩
  dsimp only at P1
  cases q : tru d c1.st with
  | none => rw [q] at P1; exact P1.elim
  | some b =>
    rw [q] at P1
    refine ⟨b, ?_, P1 b c1 (Step.refl _) o1 rfl rfl⟩
    unfold tru at q
    split at q
    · cases r1; cases q; rfl
    · cases r1; cases q; rfl
    · cases r1; cases q; rfl
    · split at q
      · next hl => cases r1; cases q; exact ⟨szLe hl, rfl⟩
      · cases q
    · obtain ⟨xs, hx, rfl⟩ := Option.map_eq_some_iff.mp q
      obtain ⟨p, vs, rfl, h1, h2⟩ := asSeq_ok o1 r1 hx
      rw [← drs_empty h2]
      rcases h1 with h1 | h1
      · exact .inl ⟨vs, h1, rfl⟩
      · exact .inr (.inl ⟨vs, h1, rfl⟩)
end
/-! methods of a class -/
structure AtM (K : PySem.W.Frag) (C : Addr) (m qual : Str) (st : Stmt) : Prop where
  ex : ∃ (fa : Addr) (oc : Value) (od an : Option Addr) (osl : Array (Option Value)) (kV doc pm cdv ct : Value), PySem.W.findIn K (.ref C) m = some (some (.ref fa)) ∧ PySem.W.isFn K (.ref fa) = true ∧
    K.lookup fa = some ⟨oc, od, .func (PySem.W.fnOf m qual (defArgs st) (defBody st) (defScope st) .none kV doc pm an cdv ct), osl⟩ ∧ PySem.W.codeIn K cdv qual = true ∧ PySem.W.keepIn K (.ref fa) = true
theorem fnOk_of {P : Program} {w : World} {K : PySem.W.Frag} {mg : Str → Option Value} {base : Heap} {x qual : Str} {st : Stmt} {fa : Addr} {fd : FuncData} {N ps : List Str} {k n : Nat} {F : SF} (Fu : Fun K x qual st fa fd) (S : FnScope N ps (defScope st)) (hn : ps.length = n)
    (h : ∀ (fa : Addr) (cdv : Value) (A : Around) (outer : List Env) (s : Shared) (H : Hp) (E : XK), Room k (A.deeper (envOfC qual (defScope st) s.heap.objs.size fa cdv)) →
      PYs (cxOf CX0 P w K mg base N qual (defScope st) fa cdv A outer s H E).nox W0 (defBody st) F) : FnOk P w K mg base CX0 (k + 1) fa fd ps (spF K n fun ds st => (bodyF N.length F ds st).ne) := by
  refine Fu.ok S (fun vs H Q E h => ?_) (fun cdv A outer s H vs Q E hr hs => ?_)
  · obtain ⟨c, ds, _, _, r, e, _⟩ := h
    rw [r.length, e, hn]
  · obtain ⟨c, ds, rfl, o, r, e, P⟩ := hs
    refine ⟨_, PSs.nox (h fa cdv A outer s c.H E hr), c, _, rfl, o, SlR.start r, ?_⟩
    show PostS K W0 c _ (F _ c.st)
    unfold bodyF at P
    dsimp only at P
    cases q : F (ds.map some ++ List.replicate (N.length - ds.length) none) c.st with
    | stuck => rw [q] at P; exact P
    | err C d sl st => rw [q] at P; exact P.elim
    | ok fl st1 =>
      rw [q] at P
      intro c1 s1 o1 e1
      subst e1
      cases fl with
      | nx sl => exact fun σ' L' => P .non c1 s1 o1 rfl .non
      | rt d => exact fun v r => P v c1 s1 o1 rfl r
      | bk sl => exact P.elim
      | ct sl => exact P.elim
section
variable {P : Program} {w : World} {K : PySem.W.Frag} {mg : Str → Option Value} {base : Heap} {C : Addr} {m qual x : Str} {st : Stmt} {N ps : List Str} {k n : Nat} {F : SF}
theorem mt_of (T : AtM K C m qual st) (S : FnScope N ps (defScope st)) (hn : ps.length = n)
    (hb : ∀ (kV doc pm : Value) (an : Option Addr) (cdv ct : Value) (us : List Value), us.length = ps.length → bindArgs (PySem.W.fnOf m qual (defArgs st) (defBody st) (defScope st) .none kV doc pm an cdv ct) ⟨us, []⟩ = pure (ps.zip us))
    (h : ∀ (fa : Addr) (cdv : Value) (A : Around) (outer : List Env) (s : Shared) (H : Hp) (E : XK), Room k (A.deeper (envOfC qual (defScope st) s.heap.objs.size fa cdv)) →
      PYs (cxOf CX0 P w K mg base N qual (defScope st) fa cdv A outer s H E).nox W0 (defBody st) F) : Mt P w K mg base C m (k + 1) n fun ds st => (bodyF N.length F ds st).ne := by
  obtain ⟨fa, oc, od, an, osl, kV, doc, pm, cdv, ct, h1, h2, h3, h4, h5⟩ := T.ex
  have Fu := fun_mk h3 h4 h5
  exact ⟨fa, _, ps, ⟨h1, h2, h5⟩, fnOk_of Fu S hn h, Fu.binds hb⟩
theorem m0_of (T : AtM K C "__init__" qual st) (hmk : PySem.W.makesIn K C = true) (hkp : PySem.W.keepIn K (.ref C) = true) (hx : mg x = some (.ref C)) (S : FnScope N ps (defScope st)) (hn : ps.length = n)
    (hb : ∀ (kV doc pm : Value) (an : Option Addr) (cdv ct : Value) (us : List Value), us.length = ps.length → bindArgs (PySem.W.fnOf "__init__" qual (defArgs st) (defBody st) (defScope st) .none kV doc pm an cdv ct) ⟨us, []⟩ = pure (ps.zip us))
    (h : ∀ (fa : Addr) (cdv : Value) (A : Around) (outer : List Env) (s : Shared) (H : Hp) (E : XK), Room k (A.deeper (envOfC qual (defScope st) s.heap.objs.size fa cdv)) →
      PYs (cxOf CX0 P w K mg base N qual (defScope st) fa cdv A outer s H E).nox W0 (defBody st) F) : M0 P w K mg base x C (k + 1) n fun ds st => (bodyF N.length F ds st).ne := by
  obtain ⟨fa, oc, od, an, osl, kV, doc, pm, cdv, ct, h1, h2, h3, h4, h5⟩ := T.ex
  have Fu := fun_mk h3 h4 h5
  exact ⟨fa, _, ps, ⟨hmk, h1, h2, hkp⟩, fnOk_of Fu S hn h, hx, Fu.binds hb⟩
end
end Rq
set_option Elab.async false
set_option linter.all false
set_option maxRecDepth 100000
set_option maxHeartbeats 4000000
/-! Rq, part 19: list(range(n)). -/
namespace Rq
open PySem PySem.Spec PyProof.Rows L2
section
variable {W : WX} {X : Cx} {e : PySem.Expr} {f : EF} {pos p p2 pos2 : Pos}
def fListRg (f : EF) : EF := f1 (fun d st => match d with
  | .int n => if -100000 ≤ n ∧ n ≤ 100000 then .ok (.lst (rangeD 0 n.toNat)) st else .stuck
  | _ => .stuck) f
theorem x_listRg (hc : X.calm = true) (hm : X.mg "list" = none) (hm2 : X.mg "range" = none) (ha : PX X W e f) (hg : Gl X "list" := by rfl) (hg2 : Gl X "range" := by rfl) (hs : starEach [e] X.env = (false, eval e X.env) :: starEach [] X.env := by rfl)
    (hs2 : starEach [.Call (.Name "range" p2) [e] [] pos2] X.env = (false, eval (.Call (.Name "range" p2) [e] [] pos2) X.env) :: starEach [] X.env := by rfl) :
    PX X W (.Call (.Name "list" p) [.Call (.Name "range" p2) [e] [] pos2] [] pos) (fListRg f) := pe_imp (pe_listRg hc hg hm (prg_1 hg2 hm2 ha hs) hs2) fun σ H Q w => by
  obtain ⟨c, sl, rfl, S, L, P⟩ := w
  refine ⟨c, sl, rfl, S, L, Post.bind P fun v d c1 s1 o1 r1 P1 => ?_⟩
  cases d with
  | int n =>
    cases r1
    dsimp only at P1
    split at P1
    · next hn =>
      refine ⟨n, rfl, ?_, fun q hq => ?_⟩
      · have : n.toNat ≤ 2 ^ 24 := Nat.le_trans (Int.toNat_le.mpr (by omega : n ≤ ((100000 : Nat) : Int))) (by decide)
        exact ⟨by omega, by omega, by omega, by omega, by simpa using this⟩
      · have e : c1.DRs X.K (rgV 0 n) (rangeD 0 n.toNat) := by
          have h := ints_dr (K := X.K) (c := c1) ((List.range n.toNat).map fun (i : Nat) => (0 : Int) + (i : Int))
          rw [List.map_map, List.map_map] at h
          unfold rgV rangeD
          simpa [Function.comp_def] using h
        exact newTree o1 hq e P1
    · exact P1.elim
  | _ => exact P1.elim
end
end Rq
set_option Elab.async false
set_option linter.all false
set_option maxRecDepth 100000
set_option maxHeartbeats 4000000
/-! RqEnd: the end of a law row where the law's def is known from a caller without guards, and some defs make lambdas. -/
namespace Rq
open PySem PySem.Spec PyProof.Rows L2
theorem clsN {c : String} : (Value.type c) ≠ Value.none := fun z => by cases z
/-- the law called, where cs are the code objects and the tables of the defs that make lambdas -/
theorem law_callT {P : Program} {w : World} {K : PySem.W.Frag} {mg mb : Str → Option Value} {k : Nat} {fa a : Addr} {cs : List (Addr × Addr)} {fd : FuncData} {x : Str} {sp : Sp} {s₁ : Shared} {vs : List Value} {ns : List Int} (hK : K.In s₁.heap) (hg : s₁.heap.Ns mainGlobals mg) (hb : s₁.heap.Ns builtinsNs mb)
    (hbb : ∀ x : Str, x ≠ "__name__" → mb x = bootBuiltins x) (hl : s₁.heap.NoLimit) (hgen : s₁.gens = #[]) (hcs : PySem.W.TabsAt cs s₁.heap) (hkt : ∀ p ∈ cs, K.lookup p.2 = none)
    (hmod : ∃ (bm : Addr) (ob : Obj), mg "__builtins__" = some (.ref bm) ∧ bm ≠ builtinsNs ∧ s₁.heap.get? bm = some ob ∧ ob.cls = .type "module" ∧ ob.dict = some builtinsNs ∧ ob.data = .plain)
    (ha : s₁.heap.get? a = some { cls := .type "list", data := .seq vs.toArray }) (hv : IntsAre vs ns) (hn : ns.length ≤ sizeLine) (hr : Room k callerA)
    (F : ∀ base : Heap, K.In base → base.Ns mainGlobals mg → (∀ p ∈ cs, LamX.TabB base mg p.1 p.2) → FG P w K mg base CX0 k fa fd [x] sp) (hbind : ∀ (s : Shared) (u : Value), BindsTo s fd ⟨[u], []⟩ [(x, u)])
    (q : ∀ H : Hp, (∀ p ∈ cs, H p.2 = some (.tbl #[])) → SqL K H a (ns.map V.int) → sp [.ref a] H (fun v _ => v = .bl true) fun _ _ _ => False) :
    codeAny (model P w) callerA (.call (.ref fa) ⟨[.ref a], []⟩) (fun r s' => r = .ok (.ret (.bool true)) ∧ OldK s₁.heap s'.heap ∧ s'.os = s₁.os ∧ AllBare s'.gens) s₁ := by
  have rv : Vals (ns.map V.int) vs := vals_ints hv
  have atT : ∀ b ∈ cs.map (·.2), s₁.heap.get? b = some (PySem.W.tabObj #[]) := fun b hm => by
    obtain ⟨p, hp, rfl⟩ := List.mem_map.mp hm
    exact (hcs p hp).2
  have key : ∀ H : Hp, (∀ b ∈ cs.map (·.2), H b = some (.tbl #[])) → (∀ b, b ∉ cs.map (·.2) → H b = none ∨ ∃ o xs, H b = some (.frz o (.lst xs))) → HOk P w H s₁.heap → SqL K H a (ns.map V.int) → (∀ b, K.lookup b ≠ none → H b = none) →
      (∀ b o, s₁.heap.get? b = some o → o.cls ≠ .none → (∀ ys n, o.data ≠ .seq ys n) → H b = none) →
      codeAny (model P w) callerA (.call (.ref fa) ⟨[.ref a], []⟩) (fun r s' => r = .ok (.ret (.bool true)) ∧ OldK s₁.heap s'.heap ∧ s'.os = s₁.os ∧ AllBare s'.gens) s₁ := by
    intro H hT on hok hs hk0 hd0
    have dct : ∀ b o es ep, s₁.heap.get? b = some o → o.data = .dict es ep → b ∉ cs.map (·.2) := fun b o es ep e d hm => by
      have := atT b hm
      rw [e] at this; cases this; cases d
    have dn : ∀ b o es ep, s₁.heap.get? b = some o → o.data = .dict es ep → H b = none := fun b o es ep e d => by
      rcases on b (dct b o es ep e d) with z | ⟨o', xs, z⟩
      · exact z
      · have y := hok b _ z
        unfold ObjOk at y
        obtain ⟨y1, y2⟩ := y
        unfold ObjOk at y2
        obtain ⟨_, _, _, _, y3⟩ := y2
        rw [e] at y3; cases y3; cases d
    have ns0 : ∀ {p : Addr} {m : Str → Option Value}, s₁.heap.Ns p m → (hidT s₁.heap H).Ns p m := fun {p m} ⟨o, es, ep, h1, h2, h3⟩ => ⟨o, es, ep, hidT_get h1 (dn p o es ep h1 h2), h2, h3⟩
    have kin : K.In (hidT s₁.heap H) := fun b o e => hidT_get (hK b o e) (hk0 b (by rw [e]; exact fun z => by cases z))
    have md : L2.Mod K mg (hidT s₁.heap H) := ⟨kin, ns0 hg, ⟨mb, ns0 hb, hbb⟩, by obtain ⟨mc, h1, h2⟩ := hl; exact ⟨mc, ns0 h1, h2⟩⟩
    have e0 : Env0 P w K mg (hidT s₁.heap H) callerA [] s₁ H := ⟨rfl, md, (fun b o e => of_hidT e), (by rw [hidT_size]; exact Nat.le_refl _), trivial, (fun b hb => nomatch hb), hok, AllBare.of_eq hgen⟩
    have tb : ∀ p ∈ cs, LamX.TabB (hidT s₁.heap H) mg p.1 p.2 := fun p hp => by
      obtain ⟨c1, c2⟩ := hcs p hp
      constructor
      · obtain ⟨o, us, f1, t1, f2, t2, b1, x1, x2, y1, y2, y3, y4⟩ := c1
        exact ⟨o, us, f1, t1, f2, t2, b1, x1, x2, hidT_get y1 (hd0 _ _ y1 (by rw [y2]; exact clsN) (by intro ys n z; rw [y3] at z; cases z)), y2, y3, y4⟩
      · obtain ⟨bm, ob, m1, m2, m3, m4, m5, m6⟩ := hmod
        refine ⟨bm, ob, m1, m2, fun z => ?_, fun z => ?_, hidT_get m3 (hd0 _ _ m3 (by rw [m4]; exact clsN) (by intro ys n z; rw [m6] at z; cases z)), m4, m5, m6⟩
        · obtain ⟨o, es, ep, h1, h2, _⟩ := hg
          subst z
          rw [m3] at h1; cases h1; rw [m6] at h2; cases h2
        · subst z
          rw [m3] at c2; cases c2; cases m6
      · intro z
        obtain ⟨o, es, ep, h1, h2, _⟩ := hg
        rw [z, c2] at h1; cases h1; cases h2
    refine codeAny_mono ((F _ kin (ns0 hg) tb).run callerA [] s₁ H ⟨[.ref a], []⟩ [.ref a] [.ref a] _ _ rfl hr e0 (by simpa using hbind s₁ (.ref a)) (.cons (show L2.RelV (.ref a) (.ref a) from rfl) .nil) (q H (fun p hp => hT _ (List.mem_map.mpr ⟨p, hp, rfl⟩)) hs)) ?_
    intro r s' h
    match r, h with
    | .ok .next, h => exact h.elim
    | .ok .brk, h => exact h.elim
    | .ok .cont, h => exact h.elim
    | .error e, h => exact h.elim
    | .ok (.ret u), h =>
      obtain ⟨v, H', h1, h2, un, hok', rr, rfl⟩ := h
      obtain rfl : u = .bool true := rr
      have same : ∀ b o, b ∉ cs.map (·.2) → s₁.heap.get? b = some o → s'.heap.get? b = some o := fun b o nb e => by
        rcases on b nb with hb0 | ⟨o', xs, hb1⟩
        · exact un.keep b o e hb0 (by simp [frs]) (by simp)
        · have e1 := hok b _ hb1
          unfold ObjOk at e1
          rw [e] at e1
          cases e1.1
          have e2 := hok' b _ (un.frzs b _ _ hb1)
          unfold ObjOk at e2
          exact e2.1
      have more : ∀ b ∈ cs.map (·.2), ∃ ps : Array Value, s'.heap.get? b = some (PySem.W.tabObj ps) := fun b hm => by
        obtain ⟨ps, z⟩ := un.tbls b #[] (hT b hm)
        exact ⟨_, hok' b _ z⟩
      refine ⟨rfl, ⟨fun b o e => ?_, fun b o e => ?_⟩, h1, h2⟩
      · by_cases hm : b ∈ cs.map (·.2)
        · obtain ⟨ps, hps⟩ := more b hm
          have z := atT b hm
          rw [e] at z; cases z
          obtain ⟨p, hp, rfl⟩ := List.mem_map.mp hm
          exact .inr (.inl ⟨((hcs p hp).1.tab (hcs p hp).2).isCodeTable, rfl, #[], ps, rfl, by rw [Array.empty_append]; exact hps⟩)
        · exact .inl (same b o hm e)
      · by_cases hm : b ∈ cs.map (·.2)
        · obtain ⟨ps, hps⟩ := more b hm
          exact ⟨_, hps⟩
        · exact ⟨o, same b o hm e⟩
  have aT : a ∉ cs.map (·.2) := fun hm => by
    have z := atT a hm
    rw [ha] at z; cases z
  by_cases hk : K.lookup a = none
  · refine key (fun b => if b ∈ cs.map (·.2) then some (.tbl #[]) else if b = a then some (.frz { cls := .type "list", data := .seq vs.toArray } (.lst (ns.map V.int))) else none) (fun b hm => by simp only [hm, if_true]) (fun b hm => ?_) (fun b o e => ?_) (.inl (.inr ⟨_, by simp only [aT, if_false, if_true]; rfl⟩)) (fun b hb => ?_) fun b o h1 h2 h3 => ?_
    · by_cases e : b = a
      · exact .inr ⟨{ cls := .type "list", data := .seq vs.toArray }, ns.map V.int, by rw [e] at hm ⊢; simp only [hm, if_false, if_true]⟩
      · exact .inl (by simp only [hm, if_false, e])
    · by_cases hm : b ∈ cs.map (·.2)
      · simp only [hm, if_true, Option.some.injEq] at e
        subst e
        exact atT b hm
      · simp only [hm, if_false] at e
        by_cases z : b = a
        · subst z
          simp only [if_true, Option.some.injEq] at e
          subst e
          unfold ObjOk
          exact ⟨ha, by
            unfold ObjOk
            exact ⟨by simpa using hn, vs, 0, rv, ha⟩⟩
        · simp only [z, if_false] at e
          cases e
    · have nm : b ∉ cs.map (·.2) := fun hm => by
        obtain ⟨p, hp, rfl⟩ := List.mem_map.mp hm
        exact hb (hkt p hp)
      have na : b ≠ a := fun z => hb (by rw [z]; exact hk)
      simp only [nm, na, if_false]
    · have nm : b ∉ cs.map (·.2) := fun hm => by
        have z := atT b hm
        rw [h1] at z; cases z; exact h2 rfl
      have na : b ≠ a := fun z => by
        subst z
        rw [ha] at h1; cases h1; exact h3 _ _ rfl
      simp only [nm, na, if_false]
  · obtain ⟨o, ho⟩ := Option.ne_none_iff_exists'.mp hk
    have e := hK a o ho
    rw [ha] at e; cases e
    refine key (fun b => if b ∈ cs.map (·.2) then some (.tbl #[]) else none) (fun b hm => by simp only [hm, if_true]) (fun b hm => .inl (by simp only [hm, if_false])) (fun b o e => ?_) (.inr ⟨_, vs.toArray, 0, ho, rfl, rfl, rfl, ?_, by simpa using rv⟩) (fun b hb => ?_) fun b o h1 h2 h3 => ?_
    · by_cases hm : b ∈ cs.map (·.2)
      · simp only [hm, if_true, Option.some.injEq] at e
        subst e
        exact atT b hm
      · simp only [hm, if_false] at e
        cases e
    · have := rv.length
      simp at this ⊢
      omega
    · have nm : b ∉ cs.map (·.2) := fun hm => by
        obtain ⟨p, hp, rfl⟩ := List.mem_map.mp hm
        exact hb (hkt p hp)
      simp only [nm, if_false]
    · have nm : b ∉ cs.map (·.2) := fun hm => by
        have z := atT b hm
        rw [h1] at z; cases z; exact h2 rfl
      simp only [nm, if_false]
/-- the end: the law's def is F on a list of ints, which tells True -/
theorem walk_ofG {l : PySem.W.OpenLaw} {n k : Nat} {q : Program} {loose : List Str} {XP : (Str → Option Value) → Heap → Prop} {YP : World → Heap → Prop} {d : DefRec} {x : Str} {F : World → PySem.W.Frag → (Str → Option Value) → DF} (hn : l.most = some n) (hn2 : n ≤ sizeLine) (hdf : d.params.defaults = []) (hr : Room k callerA)
    (hY : ∀ (w : World) (mg : Str → Option Value) (fa : Addr) (h : Heap), YP w h → h.Ns mainGlobals mg → mg d.name = some (.ref fa) → ∃ (K : PySem.W.Frag) (fd : FuncData) (xs : List Str) (cs : List (Addr × Addr)), K.In h ∧ (∀ (s : Shared) (u : Value), BindsTo s fd ⟨[u], []⟩ [(x, u)]) ∧
      (∀ p ∈ cs, ∃ y ∈ xs, PySem.W.tabIn K y = some p) ∧ (∀ y ∈ xs, ∃ e : DefRec, (recsOf q).find? (fun e => e.name == y) = some e) ∧ (∀ p ∈ cs, K.lookup p.2 = none) ∧ (∀ p ∈ tabsOf K, p.1 ∈ cs.map (·.2)) ∧
      (∀ base : Heap, K.In base → base.Ns mainGlobals mg → (∀ p ∈ cs, LamX.TabB base mg p.1 p.2) → FG l.prog w K mg base CX0 k fa fd [x] (spF K 1 (F w K mg))) ∧ ∀ ns : List Int, ns.length ≤ n → ∃ st', F w K mg [.lsr (ns.map D.int)] [] = .ok (.bl true) st') :
    PySem.W.WalkO q loose XP YP l.row.toRowW d [] fun f vs => call f vs :=
  Att.attach_call hn hdf fun w s₀ s₁ mg mb fa o pm cd doc a vs ns G Y ho hd hcd hmg hobj hints hlen hg => by
    obtain ⟨K, fd, xs, cs, KX, hb, hcs, hrec, hkt, htab, hF, hD⟩ := hY w mg fa s₁.heap Y G.T.g hmg
    obtain ⟨st', e⟩ := hD ns hlen
    have tabs : PySem.W.TabsAt cs s₁.heap := fun p hp => by
      obtain ⟨y, hy, ey⟩ := hcs p hp
      obtain ⟨r, er⟩ := hrec y hy
      exact PySem.W.tab_of G.T KX er ey
    refine law_callT KX G.T.g G.T.b G.T.builtins G.T.nolimit hg tabs hkt G.T.bmain hobj hints (Nat.le_trans hlen hn2) hr hF hb fun H hT hS => ?_
    have hTt : ∀ p ∈ tabsOf K, H p.1 = some (.tbl #[]) := fun p hp => by
      obtain ⟨c, hc, ec⟩ := List.mem_map.mp (htab p hp)
      rw [← ec]; exact hT c hc
    have sq : SqL K (fun b => match H b with | some (.tbl _) => none | o => o) a (ns.map V.int) := by
      rcases hS with (h | ⟨o, h⟩) | h
      · exact .inl (.inl (by simp only [h]))
      · exact .inl (.inr ⟨o, by simp only [h]⟩)
      · exact .inr h
    have ok : Cf.ok K ⟨fun b => match H b with | some (.tbl _) => none | o => o, H, [], []⟩ := ⟨fun b o z => by
        dsimp only at z
        split at z
        · cases z
        · exact z, rfl, fun k c h => by simp at h, fun j k a c c' h => by simp at h,
      fun p hp => ⟨#[], hTt p hp, True.intro, fun pos cv hc => by
        have z : codeAmong pos [] = some cv := hc
        simp [codeAmong] at z⟩, fun b ps z => by
        dsimp only at z
        split at z
        · cases z
        · next hh => exact hh ps z⟩
    refine ⟨⟨fun b => match H b with | some (.tbl _) => none | o => o, H, [], []⟩, [.lsr (ns.map D.int)], rfl, ok, .cons (.lsr sq (ints_dr ns)) .nil, rfl, ?_⟩
    show Post K _ _ _ _ (F w K mg [.lsr (ns.map D.int)] [])
    rw [e]
    intro v c1 s1 o1 e1 r1
    cases r1
    rfl
end Rq
namespace Rq
open PySem PySem.Spec PyProof.Rows L2
/-- the address of the class Web -/
def cwOf (K : PySem.W.Frag) : Addr := match PySem.W.nsIn K mainGlobals "Web" with
  | some (some (.ref C)) => C
  | _ => 0
end Rq
set_option Elab.async false
set_option linter.all false
set_option maxRecDepth 100000
set_option maxHeartbeats 4000000
/-! Rq, part 20: what is told of loops and comprehensions, for a law's own mathematics; arithmetic that is told. -/
namespace Rq
open PySem PySem.Spec PyProof.Rows L2
/-! loops -/
theorem loop_nx {tf : TF} {B : SF} {P : Nat → SL → ST → Prop} : ∀ (xs : List D) (sl : SL) (st : ST), P 0 sl st →
    (∀ i d sl st, xs[i]? = some d → P i sl st → ∃ sl1 sl2 st', tf d sl = some sl1 ∧ B sl1 st = .ok (.nx sl2) st' ∧ P (i + 1) sl2 st') → ∃ sl' st', loopF tf B xs sl st = .ok (.nx sl') st' ∧ P xs.length sl' st' := by
  intro xs
  induction xs generalizing P with
  | nil => intro sl st h0 _; exact ⟨sl, st, rfl, h0⟩
  | cons d r ih =>
    intro sl st h0 step
    obtain ⟨sl1, sl2, st1, e1, e2, h1⟩ := step 0 d sl st rfl h0
    obtain ⟨sl', st', e3, h3⟩ := ih (P := fun i => P (i + 1)) sl2 st1 h1 fun i d sl st h p => step (i + 1) d sl st (by simpa using h) p
    refine ⟨sl', st', ?_, h3⟩
    unfold loopF
    rw [e1]
    dsimp only
    rw [e2]
    exact e3
/-- a loop that may be left by break -/
theorem loop_bk {tf : TF} {B : SF} {P : Nat → SL → ST → Prop} {R : SL → ST → Prop} : ∀ (xs : List D) (sl : SL) (st : ST), P 0 sl st →
    (∀ i d sl st, xs[i]? = some d → P i sl st → ∃ sl1, tf d sl = some sl1 ∧ ((∃ sl2 st', B sl1 st = .ok (.nx sl2) st' ∧ P (i + 1) sl2 st') ∨ ∃ sl2 st', B sl1 st = .ok (.bk sl2) st' ∧ R sl2 st')) →
    (∀ sl st, P xs.length sl st → R sl st) → ∃ sl' st', loopF tf B xs sl st = .ok (.nx sl') st' ∧ R sl' st' := by
  intro xs
  induction xs generalizing P with
  | nil => intro sl st h0 _ fin; exact ⟨sl, st, rfl, fin _ _ h0⟩
  | cons d r ih =>
    intro sl st h0 step fin
    obtain ⟨sl1, e1, h⟩ := step 0 d sl st rfl h0
    rcases h with ⟨sl2, st1, e2, h1⟩ | ⟨sl2, st1, e2, h1⟩
    · obtain ⟨sl', st', e3, h3⟩ := ih (P := fun i => P (i + 1)) sl2 st1 h1 (fun i d sl st h p => step (i + 1) d sl st (by simpa using h) p) fin
      refine ⟨sl', st', ?_, h3⟩
      unfold loopF
      rw [e1]
      dsimp only
      rw [e2]
      exact e3
    · refine ⟨sl2, st1, ?_, h1⟩
      unfold loopF
      rw [e1]
      dsimp only
      rw [e2]
      rfl
/-! comprehensions -/
theorem comp_yes {tf : TF} {el : EF} {slw : SL} {E : Nat → D → Prop} {P : Nat → ST → Prop} : ∀ (xs : List D) (st : ST), P 0 st →
    (∀ i d st, xs[i]? = some d → P i st → ∃ sl1 y st', tf d slw = some sl1 ∧ el sl1 st = .ok y st' ∧ E i y ∧ P (i + 1) st') →
    ∃ ys st', compF tf cYes el slw xs st = .ok ys st' ∧ ys.length = xs.length ∧ (∀ i y, ys[i]? = some y → E i y) ∧ P xs.length st' := by
  intro xs
  induction xs generalizing P E with
  | nil => intro st h0 _; exact ⟨[], st, rfl, rfl, by simp, h0⟩
  | cons d r ih =>
    intro st h0 step
    obtain ⟨sl1, y, st1, e1, e2, hy, h1⟩ := step 0 d st rfl h0
    obtain ⟨ys, st', e3, l3, h3, h4⟩ := ih (P := fun i => P (i + 1)) (E := fun i => E (i + 1)) st1 h1 fun i d st h p => step (i + 1) d st (by simpa using h) p
    refine ⟨y :: ys, st', ?_, by simp [l3], fun i z hz => ?_, h4⟩
    · unfold compF
      rw [e1]
      dsimp only
      show Res.bind (Res.ne (.ok true st)) _ = _
      dsimp only [Res.ne, Res.bind, if_true]
      rw [e2]
      dsimp only [Res.ne, Res.bind, if_true]
      rw [e3]
      rfl
    · cases i with
      | zero => simp at hz; subst hz; exact hy
      | succ i => exact h3 i z (by simpa using hz)
theorem comp_map {tf : TF} {el : EF} {slw : SL} {st : ST} (e : D → D) : ∀ (xs : List D), (∀ d ∈ xs, ∃ sl1, tf d slw = some sl1 ∧ el sl1 st = .ok (e d) st) → compF tf cYes el slw xs st = .ok (xs.map e) st
  | [], _ => rfl
  | d :: r, h => by
    obtain ⟨sl1, e1, e2⟩ := h d (by simp)
    have ih := comp_map e r fun d hd => h d (by simp [hd])
    unfold compF
    rw [e1]
    dsimp only
    show Res.bind (Res.ne (.ok true st)) _ = _
    dsimp only [Res.ne, Res.bind, if_true]
    rw [e2]
    dsimp only [Res.ne, Res.bind, if_true]
    rw [ih]
    rfl
theorem comp_if {tf : TF} {t el : EF} {slw : SL} {st : ST} (p : D → Bool) (e : D → D) : ∀ (xs : List D), (∀ d ∈ xs, ∃ sl1, tf d slw = some sl1 ∧ t sl1 st = .ok (.bl (p d)) st ∧ (p d = true → el sl1 st = .ok (e d) st)) → compF tf (cOne t) el slw xs st = .ok ((xs.filter p).map e) st
  | [], _ => rfl
  | d :: r, h => by
    obtain ⟨sl1, e1, e2, e3⟩ := h d (by simp)
    have ih := comp_if p e r fun d hd => h d (by simp [hd])
    unfold compF
    rw [e1]
    dsimp only
    have e4 : cOne t sl1 st = .ok (p d) st := by
      unfold cOne fTest
      rw [e2]
      rfl
    rw [e4]
    dsimp only [Res.ne, Res.bind]
    cases hp : p d with
    | false =>
      simp only [Bool.false_eq_true, if_false, List.filter_cons, hp]
      exact ih
    | true =>
      simp only [if_true, List.filter_cons, hp, List.map_cons]
      rw [e3 hp]
      dsimp only [Res.ne, Res.bind]
      rw [ih]
/-! cells -/
/-- but for the cell k nothing that stood is otherwise -/
def Adv (k : Nat) (st st' : ST) : Prop := st.length ≤ st'.length ∧ ∀ j, j < st.length → j ≠ k → st'[j]? = st[j]?
theorem Adv.refl (k : Nat) (st : ST) : Adv k st st := ⟨Nat.le_refl _, fun _ _ _ => rfl⟩
theorem Adv.trans {k : Nat} {a b c : ST} (h : Adv k a b) (g : Adv k b c) : Adv k a c := ⟨Nat.le_trans h.1 g.1, fun j h1 h2 => (g.2 j (Nat.lt_of_lt_of_le h1 h.1) h2).trans (h.2 j h1 h2)⟩
theorem Adv.app (k : Nat) (st : ST) (c : Option Cell) : Adv k st (st ++ [c]) := ⟨by simp, fun j h _ => List.getElem?_append_left h⟩
theorem Adv.set {k : Nat} {st : ST} {c : Option Cell} {j : Nat} (h : st.length ≤ j) (st' : ST) (a : Adv k st st') : Adv k st (st'.set j c) := ⟨by simpa using a.1, fun i h1 h2 => by rw [List.getElem?_set_ne (by omega)]; exact a.2 i h1 h2⟩
/-- the cell k is a pot of which at most n draws were taken -/
def Pot (st : ST) (k n : Nat) : Prop := ∃ a b c : Int, st[k]? = some (some (.lst [.int a, .int b, .int c])) ∧ 0 ≤ a ∧ 0 ≤ b ∧ b < 2305843009213693952 ∧ 0 ≤ c ∧ c ≤ n ∧ n ≤ 1000000
theorem Pot.mono {st : ST} {k n m : Nat} (h : Pot st k n) (hm : n ≤ m) (hm2 : m ≤ 1000000) : Pot st k m := by
  obtain ⟨a, b, c, h1, h2, h3, h4, h5, h6, h7⟩ := h
  exact ⟨a, b, c, h1, h2, h3, h4, h5, by omega, hm2⟩
theorem Pot.lt {st : ST} {k n : Nat} (h : Pot st k n) : k < st.length := by
  obtain ⟨a, b, c, h1, _⟩ := h
  exact (List.getElem?_eq_some_iff.mp h1).1
theorem Pot.app {st : ST} {k n : Nat} (h : Pot st k n) (c : Option Cell) : Pot (st ++ [c]) k n := by
  have hl := h.lt
  obtain ⟨a, b, c', h1, h2⟩ := h
  exact ⟨a, b, c', by rw [List.getElem?_append_left hl]; exact h1, h2⟩
theorem Pot.set {st : ST} {k n j : Nat} (h : Pot st k n) (hj : j ≠ k) (c : Option Cell) : Pot (st.set j c) k n := by
  obtain ⟨a, b, c', h1, h2⟩ := h
  exact ⟨a, b, c', by rw [List.getElem?_set_ne hj]; exact h1, h2⟩
theorem sub_cel {st : ST} {k : Nat} {xs : List D} {i : Int} {d : D} (h : st[k]? = some (some (.lst xs))) (hd : atI xs i = some d) : zSub2 (.cel k) (.int i) st = .ok d st := by
  unfold zSub2 asDct zIx
  simp only [h]
  simp [asSeq, asL, h, hd]
theorem sub_lst {st : ST} {xs : List D} {i : Int} {d : D} (hd : atI xs i = some d) : zSub2 (.lst xs) (.int i) st = .ok d st := by
  unfold zSub2 asDct zIx
  simp [asSeq, asL, hd]
theorem sub_tup {st : ST} {xs : List D} {i : Int} {d : D} (hd : atI xs i = some d) : zSub2 (.tup xs) (.int i) st = .ok d st := by
  unfold zSub2 asDct zIx
  simp [asSeq, asL, hd]
theorem sub_str {st : ST} {z : Str} {i : Int} {n : Nat} (hz : z.length ≤ 1000000) (hd : atI z.cps.toList i = some n) : zSub2 (.str z) (.int i) st = .ok (.str ⟨#[n]⟩) st := by
  unfold zSub2 asDct zIx
  simp [hd, hz]
/-! numbers -/
theorem big_of {i : Int} (h : i.natAbs < 2 ^ 256) : i.natAbs < 2 ^ 6000 := Nat.lt_of_lt_of_le h (Nat.pow_le_pow_right (by decide) (by decide))
theorem big_of' {i : Int} (h0 : 0 ≤ i) (h : i < 2 ^ 256) : i.natAbs < 2 ^ 6000 := big_of (by omega)
theorem mul_ok {i j : Int} (st : ST) (h1 : -(2 ^ 256) < i ∧ i < 2 ^ 256) (h2 : -(2 ^ 256) < j ∧ j < 2 ^ 256) : zMul (.int i) (.int j) st = .ok (.int (i * j)) st := by
  unfold zMul
  have e1 : i.natAbs < 2 ^ 6000 := big_of (by omega)
  have e2 : j.natAbs < 2 ^ 6000 := big_of (by omega)
  simp [e1, e2]
theorem pow3_ok {i : Int} (st : ST) (h1 : -(2 ^ 256) < i ∧ i < 2 ^ 256) : zPow (.int i) (.int 3) st = .ok (.int (i ^ 3)) st := by
  unfold zPow zI
  have e1 : i.natAbs < 2 ^ 6000 := big_of (by omega)
  simp [e1]
@[simp] theorem add_ok {i j : Int} (st : ST) : zAdd (.int i) (.int j) st = .ok (.int (i + j)) st := rfl
@[simp] theorem sub_ok {i j : Int} (st : ST) : zSub (.int i) (.int j) st = .ok (.int (i - j)) st := rfl
theorem mod_ok {i j : Int} (st : ST) (h : 0 < j) : zMod (.int i) (.int j) st = .ok (.int (i % j)) st := by
  unfold zMod zI; simp [h]
theorem div_ok {i j : Int} (st : ST) (h : 0 < j) (h2 : j < 2 ^ 256) : zDiv (.int i) (.int j) st = .ok (.int (i / j)) st := by
  unfold zDiv zI
  have e1 : j.natAbs < 2 ^ 6000 := big_of (by omega)
  simp [h, e1]
@[simp] theorem bind_ok {α β : Type} (a : α) (st : ST) (k : α → ST → Res β) : (Res.ok a st).bind k = k a st := rfl
@[simp] theorem ne_ok {α : Type} (a : α) (st : ST) : (Res.ok a st).ne = .ok a st := rfl
theorem atI_in {α : Type} {xs : List α} {i : Int} (h0 : 0 ≤ i) (h1 : i < xs.length) : ∃ x, atI xs i = some x ∧ x ∈ xs := by
  refine ⟨xs[i.toNat]'(by omega), ?_, List.getElem_mem _⟩
  have hlt : i.toNat < xs.length := by omega
  simp [atI, ixN, h0, h1, List.getElem?_eq_getElem hlt]
end Rq
set_option Elab.async false
set_option linter.all false
set_option maxRecDepth 100000
set_option maxHeartbeats 4000000
/-! Rq, part 21: steps, told one by one. -/
namespace Rq
open PySem PySem.Spec PyProof.Rows L2
theorem walk_of {f : EF} {sl : SL} {st st1 : ST} {xs : List D} (h : f sl st = .ok (.lst xs) st1) : fWalk f sl st = .ok xs st1 := by unfold fWalk; rw [h]; rfl
theorem walk_tup {f : EF} {sl : SL} {st st1 : ST} {xs : List D} (h : f sl st = .ok (.tup xs) st1) : fWalk f sl st = .ok xs st1 := by unfold fWalk; rw [h]; rfl
theorem walk_lsr {f : EF} {sl : SL} {st st1 : ST} {xs : List D} (h : f sl st = .ok (.lsr xs) st1) : fWalk f sl st = .ok xs st1 := by unfold fWalk; rw [h]; rfl
theorem lc_of {fi : AF} {tf : TF} {cf : CF} {el : EF} {vs : List Nat} {sl : SL} {st st1 st2 : ST} {ds ys : List D} (h : fi sl st = .ok ds st1) (hl : ds.length ≤ 1000000) (h2 : compF tf cf el (wipeD sl vs) ds st1 = .ok ys st2) :
    fLcK kTree fi tf cf el vs sl st = .ok (.lst ys) st2 := by
  unfold fLcK
  rw [h]
  show (if szOk ds.length then _ else _) = _
  rw [if_pos (decide_eq_true hl), h2]
  rfl
theorem lcC_of {fi : AF} {tf : TF} {cf : CF} {el : EF} {vs : List Nat} {sl : SL} {st st1 st2 : ST} {ds ys : List D} (h : fi sl st = .ok ds st1) (hl : ds.length ≤ 1000000) (h2 : compF tf cf el (wipeD sl vs) ds st1 = .ok ys st2) :
    fLcK kCell fi tf cf el vs sl st = .ok (.cel st2.length) (st2 ++ [some (.lst ys)]) := by
  unfold fLcK
  rw [h]
  show (if szOk ds.length then _ else _) = _
  rw [if_pos (decide_eq_true hl), h2]
  rfl
theorem f2_of {z : D → D → ST → Res D} {f g : EF} {sl : SL} {st st1 st2 : ST} {x y : D} (h : f sl st = .ok x st1) (h2 : g sl st1 = .ok y st2) : f2 z f g sl st = z x y st2 := by unfold f2; rw [h, bind_ok, h2, bind_ok]
theorem seq_of {F F2 : SF} {sl sl1 : SL} {st st1 : ST} (h : F sl st = .ok (.nx sl1) st1) : fSeq F F2 sl st = F2 sl1 st1 := by unfold fSeq; rw [h]; rfl
theorem seq_rt {F F2 : SF} {sl : SL} {st st1 : ST} {d : D} (h : F sl st = .ok (.rt d) st1) : fSeq F F2 sl st = .ok (.rt d) st1 := by unfold fSeq; rw [h]; rfl
theorem set_of {i : Nat} {f : EF} {sl : SL} {st st1 : ST} {d : D} (h : f sl st = .ok d st1) : fSet i f sl st = .ok (.nx (sl.set i (some d))) st1 := by unfold fSet; rw [h]; rfl
theorem if_of {c : EF} {F F2 : SF} {sl : SL} {st st1 : ST} {b : Bool} (h : c sl st = .ok (.bl b) st1) : fIf c F F2 sl st = (if b then F else F2) sl st1 := by unfold fIf fTest; rw [h]; rfl
theorem ife_of {c f g : EF} {sl : SL} {st st1 : ST} {b : Bool} (h : c sl st = .ok (.bl b) st1) : fIfE c f g sl st = (if b then f else g) sl st1 := by unfold fIfE fTest; rw [h]; rfl
theorem ret_of {f : EF} {sl : SL} {st st1 : ST} {d : D} (h : f sl st = .ok d st1) : fRet f sl st = .ok (.rt d) st1 := by unfold fRet; rw [h]; rfl
theorem expr_of {f : EF} {sl : SL} {st st1 : ST} {d : D} (h : f sl st = .ok d st1) : fExpr f sl st = .ok (.nx sl) st1 := by unfold fExpr; rw [h]; rfl
theorem for_of {fi : AF} {tf : TF} {B : SF} {sl : SL} {st st1 : ST} {ds : List D} (h : fi sl st = .ok ds st1) : fFor fi tf B sl st = loopF tf B ds sl st1 := by unfold fFor; rw [h]; rfl
theorem cons_of {f : EF} {g : AF} {sl : SL} {st st1 st2 : ST} {d : D} {ds : List D} (h : f sl st = .ok d st1) (h2 : g sl st1 = .ok ds st2) : fCons f g sl st = .ok (d :: ds) st2 := by unfold fCons; rw [h, bind_ok, h2, bind_ok]
theorem one_arg {f : EF} {sl : SL} {st st1 : ST} {d : D} (h : f sl st = .ok d st1) : fCons f fNil sl st = .ok [d] st1 := cons_of h rfl
theorem two_args {f g : EF} {sl : SL} {st st1 st2 : ST} {d e : D} (h : f sl st = .ok d st1) (h2 : g sl st1 = .ok e st2) : fCons f (fCons g fNil) sl st = .ok [d, e] st2 := cons_of h (cons_of h2 rfl)
theorem call0_of {n : Nat} {F : DF} {g : AF} {sl : SL} {st st1 st2 : ST} {ds : List D} {d : D} (h : g sl st = .ok ds st1) (hn : ds.length = n) (h2 : F ds st1 = .ok d st2) : fCall0 n F g sl st = .ok d st2 := by
  unfold fCall0
  rw [h, bind_ok, hn, h2]
  simp
theorem range1_of {g : AF} {sl : SL} {st st1 : ST} {n : Int} (h : g sl st = .ok [.int n] st1) (hn : -1000000000 ≤ n ∧ n ≤ 1000000000) : fRange1 g sl st = .ok (rangeD 0 n.toNat) st1 := by
  unfold fRange1
  rw [h]
  show (if _ then _ else _) = _
  rw [if_pos hn]
theorem body_rt {N : Nat} {F : SF} {ds : List D} {st st1 : ST} {d : D} (h : F (ds.map some ++ List.replicate (N - ds.length) none) st = .ok (.rt d) st1) : (bodyF N F ds st).ne = .ok d st1 := by
  unfold bodyF; rw [h]; rfl
theorem body_nx {N : Nat} {F : SF} {ds : List D} {st st1 : ST} {sl : SL} (h : F (ds.map some ++ List.replicate (N - ds.length) none) st = .ok (.nx sl) st1) : (bodyF N F ds st).ne = .ok .non st1 := by
  unfold bodyF; rw [h]; rfl
end Rq
set_option Elab.async false
set_option linter.all false
set_option maxRecDepth 100000
set_option maxHeartbeats 4000000
/-! Rq, part 22: while. -/
namespace Rq
open PySem PySem.Spec PyProof.Rows L2
section
variable {W : WX} {X : Cx} {cc : PySem.Expr} {f : EF} {pos : Pos}
def whileF (c : EF) (B : SF) : Nat → SF
  | 0, _, _ => .stuck
  | n + 1, sl, st => fTest c (fun b sl st1 => if b then (B sl st1).bind fun fl st2 => match fl with
      | .nx sl2 => whileF c B n sl2 st2
      | .ct sl2 => whileF c B n sl2 st2
      | .bk sl2 => .ok (.nx sl2) st2
      | .rt d => .ok (.rt d) st2
    else .ok (.nx sl) st1) sl st
def manyLaps : Nat := 1000000
def fWhile (c : EF) (B : SF) : SF := whileF c B manyLaps
theorem y_while {body : List Stmt} {B : SF} (hp : PassesOwn (model X.prog X.w) X.A X.env X.xe) (hc : XT X W cc f) (hb : PYs X W body B) : PY X W (.While cc body [] pos) (fWhile f B) := ps_imp (ps_while hp hc hb) fun E σ H w => by
  obtain ⟨c, sl, rfl, S, L, P⟩ := w
  refine ⟨fun m σ' H' => ∃ c' sl', c'.H = H' ∧ c'.ok X.K ∧ c'.SlR X.K σ' sl' ∧ PostS X.K W c' E (whileF f B m sl' c'.st), ⟨manyLaps, c, sl, rfl, S, L, P⟩, ?_⟩
  rintro m σ' H' ⟨c', sl', rfl, o', L', P'⟩
  cases m with
  | zero => exact P'.elim
  | succ m =>
    unfold whileF at P'
    rw [cOne_bind] at P'
    refine ⟨c', sl', rfl, o', L', PostS.bind P' fun v d c1 s1 o1 r1 P1 => ?_⟩
    subst r1
    cases v with
    | false => rw [if_neg Bool.false_ne_true]; exact P1 c1 (Step.refl _) o1 rfl σ' (s1.sl L')
    | true =>
      rw [if_pos rfl]
      rw [if_pos rfl] at P1
      refine ⟨fun σ3 H3 => ∃ c3 sl3, c3.H = H3 ∧ c3.ok X.K ∧ c3.SlR X.K σ3 sl3 ∧ PostS X.K W c3 E (whileF f B m sl3 c3.st), fun σ3 H3 q => ⟨m, Nat.lt_succ_self _, q⟩, c1, sl', rfl, o1, s1.sl L', ?_⟩
      cases qb : B sl' c1.st with
      | stuck => rw [qb] at P1; exact P1
      | err C d sl st => rw [qb] at P1; exact P1
      | ok fl st1 =>
        rw [qb] at P1
        intro c3 s3 o3 e3
        subst e3
        cases fl with
        | nx sl2 => exact fun σ3 L3 => ⟨c3, sl2, rfl, o3, L3, PostS.mono s3 P1⟩
        | ct sl2 => exact fun σ3 L3 => ⟨c3, sl2, rfl, o3, L3, PostS.mono s3 P1⟩
        | bk sl2 => exact fun σ3 L3 => P1 c3 s3 o3 rfl σ3 L3
        | rt d => exact fun v r => P1 c3 s3 o3 rfl v r
end
theorem while_of {c : EF} {B : SF} {P : Nat → SL → ST → Prop} {R : SL → ST → Prop} (turn : ∀ m sl st, P m sl st →
    (∃ st1, c sl st = .ok (.bl false) st1 ∧ R sl st1) ∨ ∃ st1, c sl st = .ok (.bl true) st1 ∧ ((∃ sl2 st2 m', B sl st1 = .ok (.nx sl2) st2 ∧ m' < m ∧ P m' sl2 st2) ∨ ∃ sl2 st2, B sl st1 = .ok (.bk sl2) st2 ∧ R sl2 st2)) :
    ∀ (n m : Nat) (sl : SL) (st : ST), m < n → P m sl st → ∃ sl' st', whileF c B n sl st = .ok (.nx sl') st' ∧ R sl' st' := by
  intro n
  induction n with
  | zero => intro m sl st h; omega
  | succ n ih =>
    intro m sl st hm hP
    unfold whileF
    rcases turn m sl st hP with ⟨st1, e, hR⟩ | ⟨st1, e, ⟨sl2, st2, m', e2, hm', hP'⟩ | ⟨sl2, st2, e2, hR⟩⟩
    · refine ⟨sl, st1, ?_, hR⟩
      unfold fTest
      rw [e]
      rfl
    · obtain ⟨sl', st', e3, hR⟩ := ih m' sl2 st2 (by omega) hP'
      refine ⟨sl', st', ?_, hR⟩
      unfold fTest
      rw [e]
      show Res.bind (B sl st1) _ = _
      rw [e2]
      exact e3
    · refine ⟨sl2, st2, ?_, hR⟩
      unfold fTest
      rw [e]
      show Res.bind (B sl st1) _ = _
      rw [e2]
      rfl
theorem fwhile_of {c : EF} {B : SF} {P : Nat → SL → ST → Prop} {R : SL → ST → Prop} {sl : SL} {st : ST} {m : Nat} (hm : m < 1000000) (h : P m sl st) (turn : ∀ m sl st, P m sl st →
    (∃ st1, c sl st = .ok (.bl false) st1 ∧ R sl st1) ∨ ∃ st1, c sl st = .ok (.bl true) st1 ∧ ((∃ sl2 st2 m', B sl st1 = .ok (.nx sl2) st2 ∧ m' < m ∧ P m' sl2 st2) ∨ ∃ sl2 st2, B sl st1 = .ok (.bk sl2) st2 ∧ R sl2 st2)) :
    ∃ sl' st', fWhile c B sl st = .ok (.nx sl') st' ∧ R sl' st' := while_of turn manyLaps m sl st hm h
end Rq
set_option Elab.async false
set_option linter.all false
set_option maxRecDepth 100000
set_option maxHeartbeats 4000000
/-! Rq, part 23: a < b < c <= d. -/
namespace Rq
open PySem PySem.Spec PyProof.Rows L2
section
variable {W : WX} {X : Cx} {a b c d : PySem.Expr} {pos : Pos}
def tChain3 (r r' r2 : R2) (ta tb tc td : TE) : TE := fun σ H Q => ta σ H fun x H1 => tb σ H1 fun y H2 => r x y H2 fun z H3 => ∃ k, z = .bl k ∧
  (if k = true then tc σ H3 fun w' H4 => r' y w' H4 fun z H5 => ∃ k, z = .bl k ∧ (if k = true then td σ H5 fun w2 H6 => r2 w' w2 H6 Q else Q (.bl false) H5) else Q (.bl false) H3)
theorem pe_chain3 {op op' op2 : CmpOp} {r r' r2 : R2} {ta tb tc td : TE} (ho : OpR X (compareOp op) r) (ho' : OpR X (compareOp op') r') (ho2 : OpR X (compareOp op2) r2) (ha : PE X a ta) (hb : PE X b tb) (hc : PE X c tc) (hd : PE X d td)
    (hm : lastMarks [op, op', op2] [b, c, d] = false := by with_unfolding_all rfl) : PE X (.Compare a [op, op', op2] [b, c, d] pos) (tChain3 r r' r2 ta tb tc td) := by
  refine ⟨fun pins s σ H Q I h => ?_⟩
  refine Compare_chain (thn (ha.run pins s σ H _ I h) fun v s1 ⟨x, H1, I1, r1, q1⟩ => chain_link (thn (hb.run pins s1 σ H1 _ I1 q1) fun u s2 ⟨y, H2, I2, rr2, q2⟩ =>
    thn (ho pins s2 σ H2 x y v u _ I2 r1 rr2 q2) fun d' s3 ⟨z, H3, I3, r3, k, e, q3⟩ => ?_)) hm
  subst e
  cases r3
  refine wpAny_truthy_bool ?_
  cases k with
  | false => exact ite_ff ⟨.bl false, H3, I3, rfl, q3⟩
  | true =>
    refine ite_tt (chain_link (thn (hc.run pins s3 σ H3 _ I3 q3) fun u4 s4 ⟨w4, H4, I4, r4, q4⟩ => thn (ho' pins s4 σ H4 y w4 u u4 _ I4 rr2 r4 q4) fun d5 s5 ⟨z5, H5, I5, r5, k5, e5, q5⟩ => ?_))
    subst e5
    cases r5
    refine wpAny_truthy_bool ?_
    cases k5 with
    | false => exact ite_ff ⟨.bl false, H5, I5, rfl, q5⟩
    | true => exact ite_tt (chain_last (thn (hd.run pins s5 σ H5 _ I5 q5) fun w' s6 ⟨z', H6, I6, r6, q6⟩ => ho2 pins s6 σ H6 w4 z' u4 w' Q I6 r4 r6 q6))
def fChain3 (z z' z2 : D → D → ST → Res D) (f g h i : EF) : EF := fun sl st => (f sl st).bind fun x st1 => (g sl st1).bind fun y st2 => (z x y st2).bind fun b st3 => match b with
  | .bl true => fChain z' z2 (fun _ st => .ok y st) h i sl st3
  | .bl false => .ok (.bl false) st3
  | _ => .stuck
theorem x_chain3 {op op' op2 : CmpOp} {r r' r2 : R2} {z z' z2 : D → D → ST → Res D} {f g h i : EF} (ho : OpR X (compareOp op) r) (ho' : OpR X (compareOp op') r') (ho2 : OpR X (compareOp op2) r2) (o : Op2 X.K W r z) (o' : Op2 X.K W r' z') (o2 : Op2 X.K W r2 z2) (ha : PX X W a f) (hb : PX X W b g) (hc : PX X W c h) (hd : PX X W d i)
    (hm : lastMarks [op, op', op2] [b, c, d] = false := by with_unfolding_all rfl) : PX X W (.Compare a [op, op', op2] [b, c, d] pos) (fChain3 z z' z2 f g h i) := pe_imp (pe_chain3 ho ho' ho2 ha hb hc hd hm) fun σ H Q w => by
  obtain ⟨c, sl, rfl, S, L, P⟩ := w
  refine ⟨c, sl, rfl, S, L, Post.bind P fun v d c1 s1 o1 r1 P1 => ?_⟩
  refine ⟨c1, sl, rfl, o1, s1.sl L, Post.bind P1 fun w' d' c2 s2 oo2 rr2 P2 => ?_⟩
  refine o c2 v w' d d' _ oo2 (s2.dr r1) rr2 (Post.bind P2 fun u e c3 s3 o3 r3 P3 => ?_)
  cases e with
  | bl k =>
    cases r3
    refine ⟨k, rfl, ?_⟩
    cases k with
    | false =>
      rw [if_neg Bool.false_ne_true]
      exact Post.ok o3 (.bl _) P3
    | true =>
      rw [if_pos rfl]
      refine ⟨c3, sl, rfl, o3, s3.sl (s2.sl (s1.sl L)), Post.bind (k := fun y' st2 => (z' d' y' st2).bind fun b st3 => match b with
        | .bl true => (i sl st3).bind fun w st4 => z2 y' w st4
        | .bl false => .ok (.bl false) st3
        | _ => .stuck) P3 fun u4 d4 c4 s4 o4 r4 P4 => ?_⟩
      refine o' c4 w' u4 d' d4 _ o4 (s4.dr (s3.dr rr2)) r4 (Post.bind P4 fun u5 e5 c5 s5 o5 r5 P5 => ?_)
      cases e5 with
      | bl k5 =>
        cases r5
        refine ⟨k5, rfl, ?_⟩
        cases k5 with
        | false =>
          rw [if_neg Bool.false_ne_true]
          exact Post.ok o5 (.bl _) P5
        | true =>
          rw [if_pos rfl]
          exact ⟨c5, sl, rfl, o5, s5.sl (s4.sl (s3.sl (s2.sl (s1.sl L)))), Post.bind P5 fun u e c6 s6 o6 r6 P6 => o2 c6 _ _ _ _ Q o6 (s6.dr (s5.dr r4)) r6 P6⟩
      | _ => exact P5.elim
  | _ => exact P3.elim
end
end Rq
set_option Elab.async false
set_option linter.all false
set_option maxRecDepth 100000
set_option maxHeartbeats 4000000
/-! Rq, part 24: repr of an int, too. -/
namespace Rq
open PySem PySem.Spec PyProof.Rows L2
section
variable {K : PySem.W.Frag} {W : WX} {X : Cx} {e : PySem.Expr} {es : List PySem.Expr} {pos p : Pos}
def zRepr2 : List D → ST → Res D
  | [.int i], st => if i.natAbs.log2 < 1920 then .ok (.str (toString i)) st else .stuck
  | ds, st => zRepr ds st
abbrev rRepr2 (K : PySem.W.Frag) : List V → Hp → VK → Prop := fun xs H Q => (∃ i, xs = [.int i] ∧ i.natAbs.log2 < 1920 ∧ Q (.str (toString i)) H) ∨ rRepr K xs H Q
theorem zRepr2_ok : OpA K W (rRepr2 K) zRepr2 := fun c vs ds Q S r P => by
  unfold zRepr2 at P
  split at P
  · next i =>
    split at P
    · next h =>
      cases r with
      | cons r1 t => cases t; cases r1; exact .inl ⟨i, rfl, h, Post.ok S (.str _) P⟩
    · exact P.elim
  · exact .inr (zRepr_ok c vs _ Q S r P)
theorem x_repr2 {g : AF} (gd : X.A.guards = some []) (hu : X.A.units + 200 < cLine) (hm : X.mg "repr" = none) (ha : PXs X W (e :: es) g) (hg : Gl X "repr" := by rfl)
    (hs : starEach (e :: es) X.env = (false, eval e X.env) :: starEach es X.env := by rfl) (hpl : (backTo pos (starEach es X.env)).any (·.1) = false := by rfl) : PX X W (.Call (.Name "repr" p) (e :: es) [] pos) (fA zRepr2 g) :=
  x_bltn (Rq.CallR.or SkE.call_repr_int (call_repr gd hu)) zRepr2_ok hm PyProof.Rows.boot_repr ha hg (by decide) (by decide) hs hpl
end
theorem repr2_of {x : D} {st : ST} (h : ∀ i, x ≠ .int i) : zRepr2 [x] st = zRepr [x] st := by
  cases x <;> first | rfl | exact absurd rfl (h _)
end Rq
set_option Elab.async false
set_option linter.all false
set_option maxRecDepth 100000
set_option maxHeartbeats 400000
/-! Rq, part 25: what every law's own mathematics uses. -/
namespace Rq
open PySem PySem.Spec PyProof.Rows L2
theorem or_f {f g : EF} {sl : SL} {st st1 : ST} (h : f sl st = .ok (.bl false) st1) : fOr f g sl st = g sl st1 := by unfold fOr fTest; rw [h]; rfl
theorem or_t {f g : EF} {sl : SL} {st st1 : ST} (h : f sl st = .ok (.bl true) st1) : fOr f g sl st = .ok (.bl true) st1 := by unfold fOr fTest; rw [h]; rfl
theorem and_t {f g : EF} {sl : SL} {st st1 : ST} (h : f sl st = .ok (.bl true) st1) : fAnd f g sl st = g sl st1 := by unfold fAnd fTest; rw [h]; rfl
theorem and_f {f g : EF} {sl : SL} {st st1 : ST} (h : f sl st = .ok (.bl false) st1) : fAnd f g sl st = .ok (.bl false) st1 := by unfold fAnd fTest; rw [h]; rfl
theorem f1_of {z : D → ST → Res D} {f : EF} {sl : SL} {st st1 : ST} {x : D} (h : f sl st = .ok x st1) : f1 z f sl st = z x st1 := by unfold f1; rw [h]; rfl
theorem fA_of {z : List D → ST → Res D} {g : AF} {sl : SL} {st st1 : ST} {ds : List D} (h : g sl st = .ok ds st1) : fA z g sl st = z ds st1 := by unfold fA; rw [h]; rfl
theorem chain_tt {z z' : D → D → ST → Res D} {f g h : EF} {sl : SL} {st : ST} {x y w : D} {b : Bool} (h1 : f sl st = .ok x st) (h2 : g sl st = .ok y st) (h3 : h sl st = .ok w st) (q1 : z x y st = .ok (.bl true) st) (q2 : z' y w st = .ok (.bl b) st) : fChain z z' f g h sl st = .ok (.bl b) st := by
  unfold fChain
  rw [h1, bind_ok, h2, bind_ok, q1, bind_ok]
  show Res.bind (h sl st) _ = _
  rw [h3, bind_ok, q2]
theorem le_ok {i j : Int} (h : i ≤ j) (st : ST) : zLe (.int i) (.int j) st = .ok (.bl true) st := by
  show (Res.ok (D.bl (decide (i ≤ j))) st : Res D) = _
  rw [decide_eq_true h]
theorem lt_ok {i j : Int} (h : i < j) (st : ST) : zLt (.int i) (.int j) st = .ok (.bl true) st := by
  show (Res.ok (D.bl (decide (i < j))) st : Res D) = _
  rw [decide_eq_true h]
theorem pick {α : Type} {f : α → D} : ∀ {Q : Nat → α → Prop} (ys : List D), (∀ i y, ys[i]? = some y → ∃ a, y = f a ∧ Q i a) → ∃ as : List α, ys = as.map f ∧ ∀ i a, as[i]? = some a → Q i a
  | Q, [], _ => ⟨[], rfl, by simp⟩
  | Q, y :: r, h => by
    obtain ⟨a, e, ha⟩ := h 0 y rfl
    obtain ⟨as, e2, hs⟩ := pick (Q := fun i => Q (i + 1)) r fun i z hz => h (i + 1) z (by simpa using hz)
    refine ⟨a :: as, by rw [e, e2]; rfl, fun i b hb => ?_⟩
    cases i with
    | zero => simp at hb; subst hb; exact ha
    | succ i => exact hs i b (by simpa using hb)
theorem range_len (m : Nat) : (rangeD 0 (m : Int).toNat).length = m := by simp [rangeD]
theorem range_lt {m i : Nat} {d : D} (h : (rangeD 0 (m : Int).toNat)[i]? = some d) : i < m := by
  have := (List.getElem?_eq_some_iff.mp h).1
  rwa [range_len] at this
theorem range_get {m i : Nat} {d : D} (h : (rangeD 0 (m : Int).toNat)[i]? = some d) : d = .int i := by
  unfold rangeD at h
  rw [List.getElem?_map] at h
  obtain ⟨x, hx, rfl⟩ := Option.map_eq_some_iff.mp h
  obtain ⟨hx1, hx2⟩ := List.getElem?_eq_some_iff.mp hx
  simp at hx2
  subst hx2
  simp
theorem comp_img {α : Type} {tf : TF} {el : EF} {slw : SL} {st : ST} (f g : α → D) : ∀ (xs : List α), (∀ a ∈ xs, ∃ sl1, tf (f a) slw = some sl1 ∧ el sl1 st = .ok (g a) st) → compF tf cYes el slw (xs.map f) st = .ok (xs.map g) st
  | [], _ => rfl
  | d :: r, h => by
    obtain ⟨sl1, e1, e2⟩ := h d (by simp)
    have ih := comp_img f g r fun d hd => h d (by simp [hd])
    rw [List.map_cons]
    unfold compF
    rw [e1]
    dsimp only
    show Res.bind (Res.ne (.ok true st)) _ = _
    dsimp only [Res.ne, Res.bind, if_true]
    rw [e2]
    dsimp only [Res.ne, Res.bind, if_true]
    rw [ih]
    rfl
theorem bools_all : ∀ (ys : List D), (∀ y ∈ ys, y = .bl true) → bools ys = some (ys.map fun _ => true)
  | [], _ => rfl
  | y :: ys, h => by
    rw [h y (by simp), List.map_cons]
    unfold bools
    rw [bools_all ys fun z hz => h z (by simp [hz])]
    rfl
theorem all_of {ys : List D} (h : ∀ (i : Nat) (y : D), ys[i]? = some y → y = D.bl true) (st : ST) : zAll [.lst ys] st = .ok (.bl true) st := by
  have hb := bools_all ys fun y hy => by
    obtain ⟨i, hi⟩ := List.mem_iff_getElem?.mp hy
    exact h i y hi
  unfold zAll zOfL
  simp only [asL, hb]
  congr 2
  rw [List.all_eq_true]
  intro x hx
  obtain ⟨_, _, rfl⟩ := List.mem_map.mp hx
  rfl
theorem pot_adv {k j n : Nat} {st st' : ST} (h : Pot st j n) (a : Adv k st st') (hj : j ≠ k) : Pot st' j n := by
  have hl := h.lt
  obtain ⟨x, y, z, h1, h2⟩ := h
  exact ⟨x, y, z, by rw [a.2 j hl hj]; exact h1, h2⟩
theorem set_app {α : Type} (l : List α) (x y : α) : (l ++ [x]).set l.length y = l ++ [y] := by
  rw [List.set_append_right _ _ (Nat.le_refl _)]
  simp
theorem get_app {α : Type} (l : List α) (x : α) : (l ++ [x])[l.length]? = some x := by simp
theorem atI_nat {α : Type} {xs : List α} {i : Nat} {x : α} (h : xs[i]? = some x) : atI xs (i : Int) = some x := by
  have hi := (List.getElem?_eq_some_iff.mp h).1
  have h0 : (0 : Int) ≤ (i : Int) := by omega
  have h1 : (i : Int) < (xs.length : Int) := by omega
  simp [atI, ixN, h0, h1, h]
theorem ints_log {i : Int} {n : Nat} (h : i.natAbs < 2 ^ n) (hn : n ≤ 1920) (h0 : 0 < n) : i.natAbs.log2 < 1920 := by
  by_cases z : i.natAbs = 0
  · rw [z]; decide
  · exact Nat.lt_of_lt_of_le ((Nat.log2_lt z).mpr h) hn
end Rq
set_option Elab.async false
set_option linter.all false
set_option maxRecDepth 100000
set_option maxHeartbeats 4000000
/-! Rq, part 26: xs[::-1], [x] * n, x is None, x += e, dict comprehensions. -/
namespace Rq
open PySem PySem.Spec PyProof.Rows L2
section
variable {K : PySem.W.Frag} {W : WX} {X : Cx} {a b e : PySem.Expr} {es : List PySem.Expr} {f g : EF} {pos : Pos}
/-! xs[::-1] -/
def zRev : D → ST → Res D := fun d st => match asL d st with
  | some xs => .ok (.lst xs.reverse) st
  | none => .stuck
theorem DRs.rev {c : Cf} : ∀ {vs : List V} {ds : List D}, c.DRs K vs ds → c.DRs K vs.reverse ds.reverse
  | _, _, .nil => .nil
  | _, _, .cons r t => by
    rw [List.reverse_cons, List.reverse_cons]
    exact DRs.app (DRs.rev t) (.cons r .nil)
theorem x_rev {k : Nat} {p1 p2 p3 : Pos} (ha : PX X W e f) : PX X W (.Subscript e (.Slice none none (some (.UnaryOp .USub (.Constant (.int 1) k p1) p2)) p3) pos) (f1 zRev f) := pe_imp (pe_revL ha) fun σ H Q w => by
  obtain ⟨c, sl, rfl, S, L, P⟩ := w
  refine ⟨c, sl, rfl, S, L, Post.bind P fun v d c1 s1 o1 r1 P1 => ?_⟩
  unfold zRev at P1
  split at P1
  · next xs hx =>
    obtain ⟨a, vs, rfl, h1, h2⟩ := asL_ok o1 r1 hx
    exact ⟨a, vs, rfl, h1, fun p hp => newTree o1 hp (DRs.rev h2) P1⟩
  · exact P1.elim
/-! is None -/
def isNonD : D → Option Bool
  | .non => some true
  | .raw _ => none
  | _ => some false
theorem isNonD_ok {c : Cf} {v : V} {d : D} {k : Bool} (r : c.DR K v d) (h : isNonD d = some k) : decide (v = .non) = k := by
  cases r <;> (unfold isNonD at h; first | (cases h; rfl) | (cases h; exact decide_eq_false (by intro q; cases q)) | cases h)
def zIsN (neg : Bool) (x y : D) (st : ST) : Res D := match y with
  | .non => match isNonD x with
    | some k => .ok (.bl (if neg then !k else k)) st
    | none => .stuck
  | _ => .stuck
theorem zIsN_ok {neg : Bool} : Op2 K W (fun x y H Q => y = .non ∧ Q (.bl (if neg then !decide (x = .non) else decide (x = .non))) H) (zIsN neg) := by
  intro c v w x y Q S r1 r2 P
  unfold zIsN at P
  split at P
  · split at P
    · next k hk =>
      cases r2
      refine ⟨rfl, ?_⟩
      rw [isNonD_ok r1 hk]
      exact Post.ok S (.bl _) P
    · exact P.elim
  · exact P.elim
theorem x_isN (ha : PX X W a f) (hb : PX X W b g) : PX X W (.Compare a [.Is] [b] pos) (f2 (zIsN false) f g) := x_cmp op_isN zIsN_ok ha hb (nomark _)
theorem x_notN (ha : PX X W a f) (hb : PX X W b g) : PX X W (.Compare a [.IsNot] [b] pos) (f2 (zIsN true) f g) := x_cmp op_notN zIsN_ok ha hb (nomark _)
theorem xt_isN (ha : PX X W a f) (hb : PX X W b g) : XT X W (.Compare a [.Is] [b] pos) (f2 (zIsN false) f g) := xt_cmp op_isN zIsN_ok ha hb (nomark _)
theorem xt_notN (ha : PX X W a f) (hb : PX X W b g) : XT X W (.Compare a [.IsNot] [b] pos) (f2 (zIsN true) f g) := xt_cmp op_notN zIsN_ok ha hb (nomark _)
/-! x += e, x -= e -/
def augI (h : Int → Int → Int) : D → D → ST → Res D
  | .int i, .int j, st => .ok (.int (h i j)) st
  | _, _, _ => .stuck
def fAug (i : Nat) (h : Int → Int → Int) (f : EF) : SF := fun sl st => match sl[i]? with
  | some (some x) => (f sl st).bind fun y st1 => (augI h x y st1).bind fun d st2 => .ok (.nx (sl.set i (some d))) st2
  | _ => .stuck
theorem y_aug {op : Operator} {h : Int → Int → Int} (i : Nat) {x : Str} {pos' : Pos} (ho : PIp X op (ipI h)) (hN : X.N.Nodup) (he : PX X W e f) (hi : X.N[i]? = some x := by rfl) (hx : Loc X.env.scope x := by first | exact .inl rfl | exact .inr rfl) (hf : X.fn x = true ∨ X.env.scope.names.lookup x = some .local := by first | exact .inl rfl | exact .inr rfl | assumption) :
    PY X W (.AugAssign (.Name x pos') op e pos) (fAug i h f) := ps_imp (ps_aug hN hi hx he ho hf) fun E σ H w => by
  obtain ⟨c, sl, rfl, S, L, P⟩ := w
  unfold fAug at P
  split at P
  · next d hd =>
    obtain ⟨v, hv, rv⟩ := L.get i d hd
    refine ⟨v, hv, c, sl, rfl, S, L, PostS.bind P fun u y c1 s1 o1 r1 P1 => ?_⟩
    unfold augI at P1
    split at P1
    · cases rv
      cases r1
      exact ⟨_, _, rfl, rfl, P1 c1 (Step.refl _) o1 rfl _ ((s1.sl L).set (.int _) i)⟩
    · exact P1.elim
  · exact P.elim
end
/-! {k: v for x in xs} -/
section
variable {J : It} {n : Nat} {G : Hp → Prop} {Y : Nat → Hp → V → Hp → Prop}
theorem dc_it (walk : Walk J n G Y) {g : TG} {tt : TT} {tk tv : TE} {vs : List Nat} {σ : L2.St} {H1 : Hp} {D : Addr} {Fin : Hp → Prop} (At : Nat → Hp → Prop) (begins : At 0 (upd H1 D (.dK []))) (good : ∀ i H, i ≤ n → At i H → G H)
    (lap : ∀ i x H H', i < n → At i H → Y i H x H' → g x (wipe σ vs) H' fun σ2 H2 => wipe σ2 vs = wipe σ vs ∧ tt σ2 H2 fun b H3 => if b = true then tk σ2 H3 fun y H4 => tv σ2 H4 fun z H5 => ∃ kvs k, y = kV k ∧ H5 D = some (.dK kvs) ∧ kvs.length < sizeLine ∧ At (i + 1) (upd H5 D (.dK (putK kvs k z))) else At (i + 1) H3)
    (ends : ∀ H, At n H → Fin H) : ∃ W : Nat → Nat → Hp → Prop, (∃ m, W 0 m (upd H1 D (.dK []))) ∧ ∀ i m H, W i m H →
      (J.stop i H ∧ Fin H) ∨ (J.go i H ∧ ∃ Nx : Hp → Prop, (∀ H', Nx H' → ∃ m', m' < m ∧ W (i + 1) m' H') ∧ ∀ x H', J.yld i H x H' → g x (wipe σ vs) H' fun σ2 H2 => wipe σ2 vs = wipe σ vs ∧ tt σ2 H2 fun b H3 => if b = true then tk σ2 H3 fun y H4 => tv σ2 H4 fun z H5 => ∃ kvs k, y = kV k ∧ H5 D = some (.dK kvs) ∧ kvs.length < sizeLine ∧ Nx (upd H5 D (.dK (putK kvs k z))) else Nx H3) := by
  refine ⟨fun i m H => m + i = n ∧ At i H, ⟨n, rfl, begins⟩, fun i m H ⟨hm, at0⟩ => ?_⟩
  have here := good i H (by omega) at0
  cases m with
  | zero =>
    have e : i = n := by omega
    subst e
    exact .inl ⟨walk.stops H here, ends H at0⟩
  | succ m => exact .inr ⟨walk.goes i H (by omega) here, At (i + 1), fun H' at1 => ⟨m, Nat.lt_succ_self m, by omega, at1⟩, fun x H' y => lap i x H H' (by omega) at0 (walk.yields i H x H' (by omega) here y)⟩
end
section
variable {X : Cx} {W : WX} {tg iter kx vx : PySem.Expr} {scope : Scope} {pos : Pos} {fi : AF} {tf : TF} {ek ev : EF} {ts : List Nat}
def dcompF (tf : TF) (ek ev : EF) (slw : SL) : List D → List (Key × D) → ST → Res (List (Key × D))
  | [], acc, st => .ok acc st
  | d :: r, acc, st => match tf d slw with
    | none => .stuck
    | some sl1 => (ek sl1 st).ne.bind fun y st1 => (ev sl1 st1).ne.bind fun z st2 => match keyD y with
      | some k => dcompF tf ek ev slw r (putD acc k z) st2
      | none => .stuck
def fDc (fi : AF) (tf : TF) (ek ev : EF) (vs : List Nat) : EF := fun sl st => (fi sl st).bind fun ds st1 => if szOk ds.length then (dcompF tf ek ev (wipeD sl vs) ds [] st1).bind fun kvs st2 => .ok (.cel st2.length) (st2 ++ [some (.dct kvs)]) else .stuck
theorem putK_len (kvs : List (Key × V)) (k : Key) (v : V) : (putK kvs k v).length ≤ kvs.length + 1 := by
  unfold putK
  split
  · simp
  · simp
theorem dc_read {own : List (Str × Nat)} {g : TG} {σ : L2.St} {c : Cf} {sl : SL} {Q : VK} (S : c.ok X.K) (L : c.SlR X.K σ sl) (hw : ∀ i ∈ ts, i ∈ own.map (·.2))
    (hg : ∀ (G H : Hp) as v d σ sl sl' (Q : L2.St → Hp → Prop), Ex G H → DR X.K G as v d → SlR X.K G as σ sl → tf d sl = some sl' → (∀ σ', SlR X.K G as σ' sl' → Only ts σ σ' → Q σ' H) → g v σ H Q)
    (P : Post X.K W c (RlD X.K) Q (fDc fi tf ek ev (own.map (·.2)) sl c.st)) :
    tDc (tI X.K W fi) g tYes (tE X.K W0 ek) (tE X.K W0 ev) (own.map (·.2)) σ c.H Q := by
  refine ⟨c, sl, rfl, S, L, Post.bind P fun J ds c1 s1 o1 ⟨Y, wk, yl⟩ P1 D hD => ?_⟩
  have P1 : Post X.K W c1 (RlD X.K) Q (if szOk ds.length then (dcompF tf ek ev (wipeD sl (own.map (·.2))) ds [] c1.st).bind fun kvs st2 => .ok (.cel st2.length) (st2 ++ [some (.dct kvs)]) else .stuck) := P1
  by_cases hz : szOk ds.length = true
  case neg => rw [if_neg hz] at P1; exact P1.elim
  rw [if_pos hz] at P1
  have hsz : ds.length ≤ 1000000 := of_decide_eq_true hz
  refine dc_it wk (fun i H' => ∃ c' vs ys, c'.H = H' ∧ c'.ok X.K ∧ Step c1 c' ∧ c'.H D = some (.dK vs) ∧ ¬ Live c'.as c'.st D ∧ c'.G D = none ∧ DRk X.K c'.G c'.as vs ys ∧ vs.length ≤ i ∧
      Post X.K W c1 (RlD X.K) Q ((dcompF tf ek ev (wipeD sl (own.map (·.2))) (ds.drop i) ys c'.st).bind fun kvs st2 => .ok (.cel st2.length) (st2 ++ [some (.dct kvs)]))) ?_ ?_ ?_ ?_
  · refine ⟨⟨c1.G, upd c1.H D (.dK []), c1.as, c1.st⟩, [], [], rfl, Cf.out o1 (not_live o1 hD) (o1.ex.free hD), (Step.refl c1).out hD, upd_same, (not_live (c := c1) o1 hD :), o1.ex.free hD, .nil, Nat.le_refl _, ?_⟩
    simpa using P1
  · rintro i H' _ ⟨c', vs, ys, rfl, o', s', _⟩
    exact s'.ex.trans o'.ex
  · rintro i x H' H2 hlt ⟨c', vs, ys, rfl, o', s', hd1, hd2, hd3, r', hl, P'⟩ y
    obtain ⟨d, hd, e⟩ := drop_cons hlt
    obtain ⟨c2, rfl, o2, s2, r2, e2⟩ := Ylds.turn (i := i) o' s' (yl i x _ H2 d hd (s'.ex.trans o'.ex) y)
    obtain ⟨k1, k2, k3⟩ := s2.kq hd1 hd2 hd3
    rw [e] at P'
    unfold dcompF at P'
    cases q : tf d (wipeD sl (own.map (·.2))) with
    | none => rw [q] at P'; exact P'.elim
    | some sl1 =>
      rw [q] at P'
      dsimp only at P'
      refine hg c2.G c2.H c2.as x d (wipe σ (own.map (·.2))) _ sl1 _ o2.ex r2 (s2.sl (s'.sl ((s1.sl L).wipe _))) q ?_
      intro σ2 L2 on
      refine ⟨by rw [on.wipe hw, wipe_wipe], ?_⟩
      rw [← e2] at P'
      unfold tYes
      simp only [if_true]
      refine ⟨c2, sl1, rfl, o2, L2, ?_⟩
      cases qk : ek sl1 c2.st with
      | stuck => rw [qk] at P'; exact P'.elim
      | err C d sl st => rw [qk] at P'; exact P'.elim
      | ok yd st3 =>
        rw [qk] at P'
        intro v c3 s3 o3 e3 r3
        subst e3
        obtain ⟨k4, k5, k6⟩ := s3.kq k1 k2 k3
        refine ⟨c3, sl1, rfl, o3, s3.sl L2, ?_⟩
        have P3 : Post X.K W c1 (RlD X.K) Q (Res.bind (Res.bind (ev sl1 c3.st).ne fun z st2 => match keyD yd with
          | some k => dcompF tf ek ev (wipeD sl (own.map (·.2))) (ds.drop (i + 1)) (putD ys k z) st2
          | none => .stuck) fun kvs st2 => .ok (.cel st2.length) (st2 ++ [some (.dct kvs)])) := P'
        cases qe : ev sl1 c3.st with
        | stuck => rw [qe] at P3; exact P3.elim
        | err C d sl st => rw [qe] at P3; exact P3.elim
        | ok zd st4 =>
          rw [qe] at P3
          intro v4 c4 s4 o4 e4 r4
          subst e4
          obtain ⟨k7, k8, k9⟩ := s4.kq k4 k5 k6
          cases qq : keyD yd with
          | none =>
            have P4 : Post X.K W c1 (RlD X.K) Q (Res.bind (match keyD yd with
              | some k => dcompF tf ek ev (wipeD sl (own.map (·.2))) (ds.drop (i + 1)) (putD ys k zd) c4.st
              | none => .stuck) fun kvs st2 => .ok (.cel st2.length) (st2 ++ [some (.dct kvs)])) := P3
            rw [qq] at P4
            exact P4.elim
          | some k =>
            have P4 : Post X.K W c1 (RlD X.K) Q (Res.bind (match keyD yd with
              | some k => dcompF tf ek ev (wipeD sl (own.map (·.2))) (ds.drop (i + 1)) (putD ys k zd) c4.st
              | none => .stuck) fun kvs st2 => .ok (.cel st2.length) (st2 ++ [some (.dct kvs)])) := P3
            rw [qq] at P4
            have hv : vs.length < ds.length := by omega
            refine ⟨vs, k, keyD_ok r3 qq, k7, Nat.lt_of_lt_of_le (Nat.lt_of_lt_of_le hv hsz) (by decide), ?_⟩
            have rr : DRk X.K c4.G c4.as vs ys := ((r'.mono s2.ex s2.pf).mono s3.ex s3.pf).mono s4.ex s4.pf
            exact ⟨⟨c4.G, upd c4.H D (.dK (putK vs k v4)), c4.as, c4.st⟩, putK vs k v4, putD ys k zd, rfl, Cf.out o4 k8 k9, (((s'.trans s2).trans s3).trans s4).out hD, upd_same, k8, k9, DRk.put rr r4, Nat.le_trans (putK_len vs k v4) (by omega), P4⟩
  · rintro H' ⟨c', vs, ys, rfl, o', s', hd1, hd2, hd3, r', hl, P'⟩
    rw [List.drop_length] at P'
    unfold dcompF at P'
    exact P' (.ref D) ⟨c'.G, c'.H, c'.as ++ [D], c'.st ++ [some (.dct ys)]⟩ (Step.adoptC o' s' hD) (Cf.adoptC (d := .dct ys) o' ⟨vs, hd1, r'.mono (Ex.refl _) (Pf.app _ _)⟩ hd2 hd3) rfl (.cel (by show (c'.as ++ [D])[c'.st.length]? = some D; rw [← o'.len]; simp))
theorem x_dc {own : List (Str × Nat)} {g : TG} (hc : X.calm = true) (hN : X.N.Nodup) (hi : XI X W tg iter fi) (ok : BlkOk X.N X.env.scope scope own)
    (hg : ∀ (s : Shared) (H : Hp) (C : Addr) (cl : List (Str × Addr)) (fp : List Addr), GT (X.blk s H scope (compEnvC scope cl C X.env) fp) tg ts g tf) (hw : ∀ i ∈ ts, i ∈ own.map (·.2))
    (hk : ∀ (s : Shared) (H : Hp) (C : Addr) (cl : List (Str × Addr)) (fp : List Addr), PX (X.blk s H scope (compEnvC scope cl C X.env) fp) W0 kx ek)
    (he : ∀ (s : Shared) (H : Hp) (C : Addr) (cl : List (Str × Addr)) (fp : List Addr), PX (X.blk s H scope (compEnvC scope cl C X.env) fp) W0 vx ev) (hs : ∀ x, foldedSetIterable iter X.env x = pure x := by intro _; rfl) :
    PX X W (.DictComp kx vx [⟨tg, iter, [], 0⟩] scope pos) (fDc fi tf ek ev (own.map (·.2))) :=
  pe_imp (pe_dc (tk := tE X.K W0 ek) (tv := tE X.K W0 ev) hc hN hi ok (fun s H C cl fp => (hg s H C cl fp).pg) (fun s H C cl fp => pts_nil) (fun s H C cl fp => hk s H C cl fp) (fun s H C cl fp => he s H C cl fp) hs) fun σ H Q w => by
    obtain ⟨c, sl, rfl, S, L, P⟩ := w
    exact dc_read S L hw (hg X.s_0 X.H_0 0 [] []).ok P
theorem ps_setDc {i : Nat} {y : Str} {py spos : Pos} {own : List (Str × Nat)} {wi : TI} {g : TG} {tt : TT} {tk tv : TE} {ifs : List PySem.Expr} (calm : X.calm = true) (nd : X.N.Nodup) (at0 : X.N[i]? = some y) (loc0 : X.env.scope.names.lookup y = some .local)
    (sw : swapsWith (.DictComp kx vx [⟨tg, iter, ifs, 0⟩] scope pos) (some (.Name y py)) spos.line X.env = pure true) (hi : PI X tg iter wi) (ok : BlkOk X.N X.env.scope scope own) (gg : ∀ (s : Shared) (H : Hp) (C : Addr) (cl : List (Str × Addr)) (fp : List Addr), PG (X.blk s H scope (compEnvC scope cl C X.env) fp) tg g)
    (gt : ∀ (s : Shared) (H : Hp) (C : Addr) (cl : List (Str × Addr)) (fp : List Addr), PTs (X.blk s H scope (compEnvC scope cl C X.env) fp) ifs tt) (gk : ∀ (s : Shared) (H : Hp) (C : Addr) (cl : List (Str × Addr)) (fp : List Addr), PE (X.blk s H scope (compEnvC scope cl C X.env) fp) kx tk)
    (gv : ∀ (s : Shared) (H : Hp) (C : Addr) (cl : List (Str × Addr)) (fp : List Addr), PE (X.blk s H scope (compEnvC scope cl C X.env) fp) vx tv) (hs : ∀ x, foldedSetIterable iter X.env x = pure x) :
    PS X (.Assign [.Name y py] (.DictComp kx vx [⟨tg, iter, ifs, 0⟩] scope pos) spos) (tAsg (tDc wi g tt tk tv (own.map (·.2))) (gName i)) := ⟨fun pins s σ H E I told => by
  rw [exec_Assign_Name_used _ _ _ _ sw]
  refine wpAny_bind (wpAny_standAt (wpAny_bind (wpAny_bind ?_)))
  have told : tDc wi g tt tk tv (own.map (·.2)) σ H (fun x H1 => gName i x σ H1 E.nx) := told
  refine thn (dc_core (Qf := fun _ s' => SP X pins E .next s') calm nd I hi ok gg gt gk gv hs told fun L C s' m H' I' q hn f => ?_) fun _ s' hq => wpAny_pure (wpAny_pure hq)
  show wpAny _ _ (assign (.Name y py) X.env (.ref L)) _ _ _
  refine wpAny_assign_Name (store_ok2 (v := V.ref L) I' nd at0 (.inl loc0) rfl (fun s2 I2 ⟨a, sb, ha⟩ => ?_) (.inr loc0))
  obtain ⟨u0, u1, u2, u3, u4, u5⟩ := f
  have away : C ≠ a := ha.elim (fun z => by rw [z]; exact u1) (fun z e => u4 y a z e.symm)
  exact ⟨m, hn.sameBut sb away, fun h3 sb3 => ⟨_, H', I2.turned (t' := s2.toks) (fun b o hb e => (sb3.2 b hb).trans e) u0 u1 u3 u4 u5, q⟩⟩⟩
theorem sw_dc {kx vx : PySem.Expr} {gs : List Comprehension} {scope : Scope} {pos py : Pos} {y : Str} {l : Nat} {env : Env} (h1 : env.scope.kind = .function) (h2 : env.scope.names.lookup y = some .local) (h3 : (py.line == pos.line) = true)
    (h4 : (scope.names.any fun (n, k) => n == y && (k == .local || k == .cell)) = false) : swapsWith (.DictComp kx vx gs scope pos) (some (.Name y py)) l env = pure true := by
  have k1 : env.kindOf y = some .local := h2
  have k2 : env.blockKind = .function := by unfold Env.blockKind; rw [h1]; rfl
  unfold swapsWith
  simp only [k2, k1, h4, Expr.pos, h3]
  rfl
/-- x = {k: v for ..} -/
theorem y_setDc {own : List (Str × Nat)} {g : TG} (i : Nat) {y : Str} {py spos : Pos} (hc : X.calm = true) (hN : X.N.Nodup)
    (hsw : swapsWith (.DictComp kx vx [⟨tg, iter, [], 0⟩] scope pos) (some (.Name y py)) spos.line X.env = pure true) (hi : XI X W tg iter fi) (ok : BlkOk X.N X.env.scope scope own)
    (hg : ∀ (s : Shared) (H : Hp) (C : Addr) (cl : List (Str × Addr)) (fp : List Addr), GT (X.blk s H scope (compEnvC scope cl C X.env) fp) tg ts g tf) (hw : ∀ i ∈ ts, i ∈ own.map (·.2))
    (hk : ∀ (s : Shared) (H : Hp) (C : Addr) (cl : List (Str × Addr)) (fp : List Addr), PX (X.blk s H scope (compEnvC scope cl C X.env) fp) W0 kx ek)
    (he : ∀ (s : Shared) (H : Hp) (C : Addr) (cl : List (Str × Addr)) (fp : List Addr), PX (X.blk s H scope (compEnvC scope cl C X.env) fp) W0 vx ev) (hy : X.N[i]? = some y := by rfl) (hyl : X.env.scope.names.lookup y = some .local := by rfl) (hs : ∀ x, foldedSetIterable iter X.env x = pure x := by intro _; rfl) :
    PY X W (.Assign [.Name y py] (.DictComp kx vx [⟨tg, iter, [], 0⟩] scope pos) spos) (fSet i (fDc fi tf ek ev (own.map (·.2)))) :=
  ps_imp (ps_setDc (tk := tE X.K W0 ek) (tv := tE X.K W0 ev) hc hN hy hyl hsw hi ok (fun s H C cl fp => (hg s H C cl fp).pg) (fun s H C cl fp => pts_nil) (fun s H C cl fp => hk s H C cl fp) (fun s H C cl fp => he s H C cl fp) hs) fun E σ H w => by
    obtain ⟨c, sl, rfl, S, L, P⟩ := w
    exact dc_read S L hw (hg X.s_0 X.H_0 0 [] []).ok (PostS.bind P fun v d c1 s1 o1 r1 P1 => P1 c1 (Step.refl _) o1 rfl _ ((s1.sl L).set r1 i))
end
end Rq
set_option Elab.async false
set_option linter.all false
set_option maxRecDepth 100000
set_option maxHeartbeats 4000000
/-! Rq, part 27: enumerate of a dict. -/
namespace Rq
open PySem PySem.Spec PyProof.Rows L2 Builtin
section
variable {prog : Program} {w : World} {A : Around} {E : Value → Shared → Prop} {s : Shared} {κ : Type} [DecidableEq κ] {knd : KeyKind prog w κ} {it d : Addr} {kvs : List (κ × Value)} {ep : Nat}
theorem keys_next {i : Nat} {k : κ} {x : Value} {Q : Value → Shared → Prop} (a : s.heap.IsKeyIter it d i kvs.length ep) (b : s.heap.DictAt knd d kvs ep) (hx : kvs[i]? = some (k, x))
    (q : ∀ key h', knd.is k key = true → h'.IsKeyIter it d (i + 1) kvs.length ep → Heap.SameBut it s.heap h' → Q key { s with heap := h' }) : wpAny (model prog w) A (Builtin.SmallTypes.nextOf (.ref it)) Q E s := by
  unfold Builtin.SmallTypes.nextOf
  exact wpAny_bind (PySem.W.kdk_special a b hx fun key h' k1 k2 k3 => wpAny_pure (q key h' k1 k2 k3))
theorem keys_over {i : Nat} {Q : Value → Shared → Prop} (free : A.handled = none) (a : s.heap.IsKeyIter it d i kvs.length ep) (b : s.heap.DictAt knd d kvs ep) (hi : kvs.length ≤ i)
    (q : ∀ h' e, Heap.ExtBut it s.heap h' → (∃ o, h'.get? e = some o ∧ o.cls = .type "StopIteration") → E (.ref e) { s with heap := h' }) : wpAny (model prog w) A (Builtin.SmallTypes.nextOf (.ref it)) Q E s := by
  obtain ⟨oi, g1, g2, g3⟩ := id a
  obtain ⟨od, es, d1, d2, d3, d4, d5, d6⟩ := id b
  have len : es.size = kvs.length := by rw [← d5.length]; simp
  have out : es[i]? = none := Array.getElem?_eq_none (by rw [len]; exact hi)
  have ne : ¬ ((Value.ref d == Value.none) = true) := Bool.false_ne_true
  unfold Builtin.SmallTypes.nextOf
  refine wpAny_bind (wpAny_callSpecial?_slot (name := Str.ofString "__next__") a.typeIs F.slot_dict_keyiterator_next (wpAny_call_entry F.slot_dict_keyiterator_next a.typeIs F.entry_dict_keyiterator_next ?_ (F.args_dict_keyiterator_next_1 _)))
  refine wpAny_bind (wpAny_pure (wpAny_bind (wpAny_bind ?_)))
  first | refine wpAny_bind (wpAny_typeNameOfWhole_keyiter a.typeIs (wpAny_pure (wpAny_bind (wpAny_fieldsOf g1 g3 ?_)))) | refine wpAny_bind (wpAny_typeNameOf_keyiter a.typeIs (wpAny_pure (wpAny_bind (wpAny_fieldsOf g1 g3 ?_))))
  simp only [show Builtin.Dict_items.ownsTuple "dict_keyiterator" = false by decide, Bool.false_eq_true, if_false]
  show wpAny _ _ (if (Value.ref d == Value.none) = true then _ else _) _ _ s
  rw [if_neg ne]; refine wpAny_bind (wpAny_pure (wpAny_bind (wpAny_dictEntries d1 d3 ?_)))
  rw [if_neg (by rw [len]; simp)]; refine wpAny_bind (wpAny_pure (wpAny_bind (wpAny_dictEpoch d1 d3 ?_)))
  rw [if_neg (by simp)]; refine wpAny_pure ?_
  simp only [show ¬ ((i : Int) < 0) from by omega, if_false, Int.toNat_natCast, out]
  refine wpAny_bind ?_
  first | refine wpAny_bind (wpAny_typeNameOfWhole_keyiter a.typeIs (wpAny_pure ?_)) | refine (wpAny_bind (wpAny_typeNameOf_keyiter a.typeIs (wpAny_pure ?_)))
  show wpAny _ _ (do setField (.ref it) 0 .none; _) _ _ s
  refine wpAny_bind (wpAny_setField g1 g3 (by simp) ?_)
  show wpAny _ _ (do let e ← newExc (.type "StopIteration") []; _) _ _ _
  simp only [newExc, newTuple]
  refine wpAny_bind (wpAny_bind (wpAny_newObj_type (wpAny_bind (m := firstArgMember _ _) (wpAny_of_eq (a := Value.none) (by first | rfl | (simp only [firstArgMember]; rfl)) (wpAny_newObj_type ?_ (by size_fits)))) (by size_fits)))
  simp only [raiseNew]
  refine wpAny_bind (wpAny_handled ?_)
  first | rw [show A.in1.handled = none from free] | rw [free]
  exact wpAny_bind (wpAny_pure (wpAny_throw (q _ _ (((Heap.SameBut.update ..).extBut.push _).push _) ⟨_, Heap.get?_push_size _ rfl, rfl⟩)))
theorem draws_keys (free : A.handled = none) (ne : d ≠ it) : Draws prog w A it [it, d] kvs.length (fun i v => ∃ k x, kvs[i]? = some (k, x) ∧ knd.is k v = true) (fun i h => h.IsKeyIter it d i kvs.length ep ∧ h.DictAt knd d kvs ep) where
  live := fun i h ⟨⟨o, ho, _⟩, _⟩ => ⟨o, ho⟩
  frame := fun i h h' ⟨⟨o, ho, r⟩, ⟨od, es, hd, q⟩⟩ keep => ⟨⟨o, keep it (by simp) o ho, r⟩, ⟨od, es, keep d (by simp) od hd, q⟩⟩
  item := fun i s Q E hi ⟨a, b⟩ q => by
    obtain ⟨⟨k, x⟩, hx⟩ : ∃ p, kvs[i]? = some p := ⟨kvs[i], List.getElem?_eq_getElem hi⟩
    refine keys_next a b hx fun key h' k1 k2 k3 => q key h' s.toks ⟨k, x, hx, k1⟩ ⟨k2, ?_⟩ k3
    obtain ⟨od, es, hd, r⟩ := b
    exact ⟨od, es, (k3.2 d ne).trans hd, r⟩
  done := fun s Q E ⟨a, b⟩ q => keys_over free a b (Nat.le_refl _) q
end
end Rq
set_option Elab.async false
set_option linter.all false
set_option maxRecDepth 100000
set_option maxHeartbeats 4000000
/-! Rq, part 28: for i, k in enumerate(d). -/
namespace Rq
open PySem PySem.Spec PyProof.Rows L2
theorem begins_keys {d : Addr} {o : Obj} {es : Array DictEntry} {ep : Nat} (h1 : (d == sysModules) = false) (h2 : o.ExactDict) (h3 : o.data = .dict es ep) :
    Begins (.ref d) { cls := .type "dict_keyiterator", data := .fields #[.ref d, .int 0 0, .int es.size 0, .int ep 0] } (fun h => h.get? d = some o) where
  iter := fun prog w A E s Q h q => iter_keys h1 h h2 h3 q
  keeps := fun h h' x keep => keep d o x
  free := rfl
theorem meets_enumB {v : Value} {o : Obj} {H : Heap → Prop} (B : Begins v o H) : Meets (Builtin.«enumerate.__new__» ⟨[.type "enumerate", v], []⟩) (fun _ R s => H s.heap ∧
      R (.ok (.ret (.ref (s.heap.push o).objs.size))) { s with heap := (s.heap.push o).push { cls := .type "enumerate", data := .fields #[.none, .bool false, .ref s.heap.objs.size, rawInt 0, .none, .none] } }) :=
  .of_wp fun prog w A R s both => by
    obtain ⟨hp, g, d, tk, os⟩ := s
    obtain ⟨here, told⟩ := both
    have known := sub_enumerate
    have begun : ∀ {A' : Around} {E : Value → Shared → Prop} {Q : Value → Shared → Prop}, Q (.ref hp.objs.size) ⟨hp.push o, g, d, tk, os⟩ → wpAny (model prog w) A' (pyIter v) Q E ⟨hp, g, d, tk, os⟩ := fun q => B.iter prog w _ _ ⟨hp, g, d, tk, os⟩ _ here q
    wp_walk using begun
    refine wpAny_stack_any fun st => wpAny_pure ?_
    split
    · next c _ _ _ _ _ =>
      cases (c == Value.type "enumerate") <;> (wp_walk using begun) <;> exact ⟨_, rfl, told⟩
    · wp_walk using begun
      exact ⟨_, rfl, told⟩
theorem enum_beginsB {prog : Program} {w : World} {A : Around} {E : Value → Shared → Prop} {s : Shared} {v : Value} {o : Obj} {H : Heap → Prop} {Q : Value → Shared → Prop} (B : Begins v o H) (here : H s.heap)
    (told : ∀ h', IsEnum h' (s.heap.objs.size + 1) s.heap.objs.size 0 .none → h'.get? s.heap.objs.size = some o → h'.objs.size = s.heap.objs.size + 2 → (∀ b o, s.heap.get? b = some o → h'.get? b = some o) → Q (.ref (s.heap.objs.size + 1)) { s with heap := h' }) :
    wpAny (model prog w) A (call (.type "enumerate") [v]) Q E s := by
  refine callType_new F.called_enumerate (by decide) (F.typeCall_enumerate_1 _) (F.newCall_enumerate_1 _) (fun obj => F.args_object_init_2 obj _) F.entry_enumerate_new (meets_enumB B) ⟨here, ?_⟩
  have one : (s.heap.push o).objs.size = s.heap.objs.size + 1 := Heap.size_push ..
  have he : IsEnum ((s.heap.push o).push { cls := .type "enumerate", data := .fields #[.none, .bool false, .ref s.heap.objs.size, rawInt 0, .none, .none] }) (s.heap.objs.size + 1) s.heap.objs.size 0 .none := by
    have got := Heap.get?_push_size (s.heap.push o) (o := { cls := .type "enumerate", data := .fields #[.none, .bool false, .ref s.heap.objs.size, rawInt 0, .none, .none] }) rfl
    rwa [one] at got
  show _ ∧ _
  rw [one]
  exact ⟨⟨_, he, rfl⟩, told _ he (Heap.get?_push_of_some _ (Heap.get?_push_size _ B.free)) (by rw [Heap.size_push, one]) fun b u x => Heap.get?_push_of_some _ (Heap.get?_push_of_some _ x)⟩
/-- the keys of the locked dict at d, each with its number in a new pair -/
def IteK (d : Addr) (o : Obj) (kvs : List (Key × V)) : It :=
  { go := fun i H => H d = some (.frz o (.dK kvs)) ∧ i < kvs.length,
    yld := fun i H v H' => ∃ T k x, v = .ref T ∧ H T = none ∧ H' = upd H T (.tup [.int (i : Nat), kV k]) ∧ kvs[i]? = some (k, x),
    stop := fun i H => H d = some (.frz o (.dK kvs)) ∧ i = kvs.length }
theorem turn_enumK {P : Program} {w : World} {K : PySem.W.Frag} {elts : List Expr} {kk : Nat} {tpos : Pos} {o : Obj} {kvs : List (Key × V)} {es : Array DictEntry} {ep : Nat} (d e it : Addr) (hod : o.data = .dict es ep) :
    Turn P w K (.Tuple elts kk tpos) (IteK d o kvs) [e, it] e fun i h => (∃ old, IsEnum h e it (0 + (i : Nat)) old) ∧ h.IsKeyIter it d i kvs.length ep ∧ e ≠ it ∧ e ≠ d ∧ d ≠ it where
  mem := by simp
  obj := by
    rintro i h ⟨⟨old, he⟩, ⟨u, h1, h2, h3⟩, _⟩ b hb
    rcases List.mem_cons.mp hb with rfl | hb
    · exact ⟨_, he, fun v z => by cases z⟩
    · rcases List.mem_cons.mp hb with rfl | hb
      · exact ⟨u, h1, fun v z => by rw [h3] at z; cases z⟩
      · cases hb
  keep := by
    rintro i h h' ⟨⟨old, he⟩, ⟨u, h1, h2, h3⟩, ne⟩ k
    exact ⟨⟨old, k e (by simp) _ he⟩, ⟨u, k it (by simp) _ h1, h2, h3⟩, ne⟩
  item := by
    rintro X rfl rfl rfl calm i pins s σ H E I fp ⟨⟨old, he⟩, hi, ne, ne2, ne3⟩ ⟨hd, hn⟩
    obtain ⟨hs, hget, hx, es', ep', vs, hdt, hsz, kv, hm⟩ := I.frzK hd
    obtain ⟨rfl, rfl⟩ := dict_ep hod hdt
    have lv : kvs.length = vs.length := Paired.length kv
    obtain ⟨⟨k0, v0⟩, hkv⟩ : ∃ p, kvs[i]? = some p := ⟨kvs[i], List.getElem?_eq_getElem hn⟩
    obtain ⟨u0, hu0, ru0⟩ := kv_get kv hkv
    have free : X.A.handled = none := I.ok.hd calm
    rw [lv] at hi
    have G := GoesN.enumFrom (prog := X.prog) (w := X.w) (A := X.A) (elts := elts) (x1 := kk) (pos := tpos) 0 (draws_keys (A := X.A.in1) (knd := mixKind X.prog X.w) (kvs := vs) (ep := ep') free ne3) e ne (by simp [ne, ne2]) (by simp)
    refine thn (G.goes i s (fun u s2 => ∃ x H', L2.Inv X pins σ H' s2 ∧ L2.RelV x u ∧ (IteK d o kvs).yld i H x H' ∧ ((∃ old, IsEnum s2.heap e it (0 + ((i + 1 : Nat) : Int)) old) ∧ s2.heap.IsKeyIter it d (i + 1) kvs.length ep' ∧ e ≠ it ∧ e ≠ d ∧ d ≠ it) ∧ ∀ b ∈ [e, it], H' b = none) E (by rw [← lv]; exact hn) ⟨⟨old, he⟩, hi, hm⟩ ?_) ?_
    · rintro v h' tk ⟨T, t, u, rfl, hT, ⟨k, x, hk, isk⟩, isT⟩ ⟨⟨old', he'⟩, hi', _⟩ fr _
      rw [hu0] at hk
      cases hk
      have hT0 : H T = none := I.hok.fresh hT
      have J : L2.Inv X pins σ (upd H T (.tup [.int (i : Nat), kV k0])) { heap := h', gens := s.gens, drawn := s.drawn, toks := tk, os := s.os } := by
        refine I.turnedNew (ch := [e, it]) fr fp hT ?_
        refine ⟨by show 2 ≤ sizeLine; decide, [.int (0 + (i : Nat)) t, u], .cons ⟨t, by rw [Int.zero_add]⟩ (.cons (relV_key isk) .nil), isT⟩
      refine ⟨.ref T, _, J, rfl, ⟨T, k0, v0, rfl, hT0, rfl, hkv⟩, ⟨⟨old', he'⟩, by rw [lv]; exact hi', ne, ne2, ne3⟩, fun b hb => ?_⟩
      rw [upd_ne (fun z => ?_)]
      · exact (fp b hb).1
      · subst z
        rcases List.mem_cons.mp hb with rfl | hb
        · exact absurd (Heap.lt_size he) (Nat.not_lt.mpr hT)
        · rcases List.mem_cons.mp hb with rfl | hb
          · obtain ⟨u, h1, _⟩ := hi
            exact absurd (Heap.lt_size h1) (Nat.not_lt.mpr hT)
          · cases hb
    · rintro r s1 ⟨v, rfl, q⟩
      exact ⟨v, rfl, q⟩
  done := by
    rintro X rfl rfl rfl calm i pins s σ H E I fp ⟨⟨old, he⟩, hi, ne, ne2, ne3⟩ ⟨hd, hn⟩
    obtain ⟨hs, hget, hx, es', ep', vs, hdt, hsz, kv, hm⟩ := I.frzK hd
    obtain ⟨rfl, rfl⟩ := dict_ep hod hdt
    have lv : kvs.length = vs.length := Paired.length kv
    have free : X.A.handled = none := I.ok.hd calm
    rw [lv] at hi
    rw [hn, lv] at hi he
    have G := GoesN.enumFrom (prog := X.prog) (w := X.w) (A := X.A) (elts := elts) (x1 := kk) (pos := tpos) 0 (draws_keys (A := X.A.in1) (knd := mixKind X.prog X.w) (kvs := vs) (ep := ep') free ne3) e ne (by simp [ne, ne2]) (by simp)
    refine thn (G.stops s (fun s2 => L2.Inv X pins σ H s2) E ⟨⟨old, he⟩, hi, hm⟩ ?_) fun r s1 q => q
    intro h' tk fr _
    exact I.turnedL (ch := [e, it]) fr fp
  self := by
    rintro A i s Q E ⟨⟨old, he⟩, _⟩ q
    exact wpAny_pyIter_enum he q
section
variable {X : Cx} {W : WX} {e : Expr} {pos p tpos : Pos}
theorem pi_enumK {elts : List Expr} {kk : Nat} {ta : TA} (hg : Gl X "enumerate") (hm : X.mg "enumerate" = none) (ha : PA X [e] ta) (hs : starEach [e] X.env = [(false, eval e X.env)] := by rfl) :
    PI X (.Tuple elts kk tpos) (.Call (.Name "enumerate" p) [e] [] pos) (fun σ H R => ta σ H fun vs H1 => ∃ d o kvs, vs = [.ref d] ∧ H1 d = some (.frz o (.dK kvs)) ∧ R (IteK d o kvs) H1) := ⟨fun pins s σ H R I w => by
  refine Call_ (ld_blt I hg hm boot_enumerate (PyProof.Rows.callWith_type1 (thn (ha.run pos pins s σ H _ I w) fun us s1 ⟨vs, H1, I1, r1, d, o, kvs, e1, hd, q⟩ => ?_) hs rfl))
  subst e1
  obtain rfl := vals_ref1 r1
  obtain ⟨g1, g2, g3, es, ep, vs, hdt, hsz, kv, hm⟩ := I1.frzK hd
  refine enum_beginsB (begins_keys g1 g3 hdt) g2 fun h' hE hL hz keep => wpAny_pyIter_enum hE ?_
  have J := I1.kept (t' := s1.toks) keep
  have lt : d < s1.heap.objs.size := Heap.lt_size g2
  refine ⟨s1.heap.objs.size + 1, [s1.heap.objs.size + 1, s1.heap.objs.size], _, _, H1, rfl, J, turn_enumK d (s1.heap.objs.size + 1) s1.heap.objs.size hdt, ⟨⟨_, by simpa using hE⟩, ⟨_, hL, rfl, by rw [hsz]; rfl⟩, Nat.succ_ne_self _, Nat.ne_of_gt (Nat.lt_succ_of_lt lt), Nat.ne_of_lt lt⟩, fun b hb => ?_, q⟩
  have le : s1.heap.objs.size ≤ b := by
    rcases List.mem_cons.mp hb with rfl | hb
    · omega
    · rcases List.mem_cons.mp hb with rfl | hb
      · omega
      · cases hb
  exact I1.fpOk le (I1.hok.fresh le)⟩
theorem ylds_enumK {K : PySem.W.Frag} {c : Cf} {a : Addr} {o : Obj} {kvs : List (Key × V)} {ds : List (Key × D)} (h1 : c.G a = some (.frz o (.dK kvs))) (h2 : DRk K c.G c.as kvs ds) : Ylds K c (IteK a o kvs) (enumC 0 (ds.map fun p => kD p.1)) := by
  have l : ds.length = kvs.length := by
    clear h1
    induction kvs generalizing ds with
    | nil => cases h2; rfl
    | cons p kvs ih => cases h2 with | cons r t => simp [ih t]
  have e : (enumC 0 (ds.map fun p => kD p.1)).length = kvs.length := by rw [enumC_length, List.length_map, l]
  refine ⟨fun i H x H' => ∃ T k v, x = .ref T ∧ H T = none ∧ H' = upd H T (.tup [.int (i : Nat), kV k]) ∧ kvs[i]? = some (k, v), ?_, fun i x H H' d hd ex y => ?_⟩
  · rw [e]
    exact ⟨fun i H hi G => ⟨G _ _ h1, hi⟩, fun H G => ⟨G _ _ h1, rfl⟩, fun i H x H' hi G y => y⟩
  · obtain ⟨T, k, v, rfl, h3, h4, h5⟩ := y
    obtain ⟨u, h6, rfl⟩ := enumC_get _ 0 i d hd
    rw [List.getElem?_map] at h6
    obtain ⟨p, hp, rfl⟩ := Option.map_eq_some_iff.mp h6
    have key : p.1 = k := by
      clear h1 e l hd h3 h4 h6
      induction kvs generalizing ds i with
      | nil => simp at h5
      | cons q kvs ih =>
        cases h2 with
        | cons r t =>
          cases i with
          | zero => simp at h5 hp; rw [← hp]; exact h5.1
          | succ i => exact ih t i (by simpa using h5) (by simpa using hp)
    subst key
    refine .inr ⟨T, _, _, rfl, h3, h4, rfl, .cons (by rw [Int.zero_add]; exact .int _) (.cons ?_ .nil)⟩
    cases p.1 with
    | inl i => exact .int i
    | inr x => exact .str x
/-- enumerate of a list, a tuple or a dict -/
def fEnumA2 (g : AF) : AF := fun sl st => (g sl st).bind fun ds st1 => match ds with
  | [.dct kvs] => .ok (enumC 0 (kvs.map fun p => kD p.1)) st1
  | [.tup xs] => .ok (enumC 0 xs) st1
  | [.lst xs] => .ok (enumD 0 xs) st1
  | [.lsr xs] => .ok (enumD 0 xs) st1
  | _ => .stuck
def fEnumK (g : AF) : AF := fun sl st => (g sl st).bind fun ds st1 => match ds with
  | [.dct kvs] => .ok (enumC 0 (kvs.map fun p => kD p.1)) st1
  | _ => .stuck
theorem xi_enumK {elts : List Expr} {kk : Nat} {g : AF} (hm : X.mg "enumerate" = none) (ha : PXs X W [e] g) (hg : Gl X "enumerate" := by rfl) (hs : starEach [e] X.env = [(false, eval e X.env)] := by rfl) :
    XI X W (.Tuple elts kk tpos) (.Call (.Name "enumerate" p) [e] [] pos) (fEnumK g) := pi_imp (pi_enumK hg hm ha hs) fun σ H R w => by
  obtain ⟨c, sl, rfl, S, L, P⟩ := w
  refine ⟨c, sl, rfl, S, L, Post.bind P fun vs ds c1 s1 o1 r1 P1 => ?_⟩
  split at P1
  · next kvs =>
    cases r1 with
    | cons r t =>
      cases t
      cases r with
      | dct h1 h2 => exact ⟨_, _, _, rfl, o1.ex _ _ h1, P1 _ c1 (Step.refl _) o1 rfl (ylds_enumK h1 h2)⟩
  · exact P1.elim
theorem xi_enumA2 {elts : List Expr} {kk : Nat} {g : AF} (hm : X.mg "enumerate" = none) (ha : PXs X W [e] g) (hg : Gl X "enumerate" := by rfl) (hs : starEach [e] X.env = [(false, eval e X.env)] := by rfl) (hpl : (backTo pos (starEach [] X.env)).any (·.1) = false := by rfl) :
    XI X W (.Tuple elts kk tpos) (.Call (.Name "enumerate" p) [e] [] pos) (fEnumA2 g) := xi_case fun sl st => by
  have h1 := xi_enumK (tpos := tpos) (elts := elts) (kk := kk) (pos := pos) (p := p) hm ha hg hs
  have h2 := xi_enumA (tpos := tpos) (elts := elts) (kk := kk) (pos := pos) (p := p) hm ha hg hs hpl
  cases q : g sl st with
  | stuck => exact ⟨_, h1, by unfold fEnumK fEnumA2; rw [q]; rfl⟩
  | err C d sl st => exact ⟨_, h1, by unfold fEnumK fEnumA2; rw [q]; rfl⟩
  | ok ds st1 =>
    rcases ds with _ | ⟨x, _ | ⟨y, r⟩⟩
    · exact ⟨_, h1, by unfold fEnumK fEnumA2; rw [q]; rfl⟩
    · cases x with
      | dct kvs => exact ⟨_, h1, by unfold fEnumK fEnumA2; rw [q]; rfl⟩
      | _ => exact ⟨_, h2, by unfold fEnumA fEnumA2; rw [q]; rfl⟩
    · exact ⟨_, h1, by unfold fEnumK fEnumA2; rw [q]; cases x <;> rfl⟩
end
end Rq
set_option Elab.async false
set_option linter.all false
set_option maxRecDepth 100000
set_option maxHeartbeats 4000000
/-! Rq, part 29: comprehensions over a list that is a cell; a dict of cells that becomes a tree. -/
namespace Rq
open PySem PySem.Spec PyProof.Rows L2
section
variable {K : PySem.W.Frag} {c c' : Cf} {k : Nat} {a : Addr}
theorem Step.hide : Step c ⟨c.G, c.H, c.as, c.st.set k none⟩ := ⟨Ex.refl _, Pf.refl _, fun b u q1 _ q2 q3 => ⟨q1, fun ⟨j, e, z1, z2⟩ => q2 ⟨j, e, (set_none_get z1).1, z2⟩, q3⟩⟩
theorem Cf.hidden {d : Cell} (S : c.ok K) (hk : c.st[k]? = some (some d)) (ha : c.as[k]? = some a) : ¬ Live c.as (c.st.set k none) a := fun ⟨j, e, z1, z2⟩ => (set_none_get z1).2 (S.inj k j a d e hk (set_none_get z1).1 ha z2)
theorem Cf.back {vs : List V} {ds : List D} (S : c'.ok K) (ha : c'.as[k]? = some a) (hl : ¬ Live c'.as c'.st a) (hG : c'.G a = none) (hH : c'.H a = some (.lst vs)) (r : c'.DRs K vs ds) : Cf.ok K ⟨c'.G, c'.H, c'.as, c'.st.set k (some (.lst ds))⟩ where
  ex := S.ex
  len := by rw [List.length_set]; exact S.len
  cell := fun j d h => by
    by_cases e : k = j
    · subst e
      have lt : k < c'.st.length := by rw [← S.len]; exact (List.getElem?_eq_some_iff.mp ha).1
      have h : (c'.st.set k (some (.lst ds)))[k]? = some (some d) := h
      rw [List.getElem?_set_self lt] at h
      cases h
      exact ⟨a, ha, hG, vs, hH, r⟩
    · have h : (c'.st.set k (some (.lst ds)))[j]? = some (some d) := h
      rw [List.getElem?_set_ne e] at h
      exact S.cell j d h
  inj := fun i j b d1 d2 q1 q2 q3 q4 => by
    have q1 : (c'.st.set k (some (.lst ds)))[i]? = some (some d1) := q1
    have q2 : (c'.st.set k (some (.lst ds)))[j]? = some (some d2) := q2
    have q3 : c'.as[i]? = some b := q3
    have q4 : c'.as[j]? = some b := q4
    by_cases e1 : k = i
    · by_cases e2 : k = j
      · omega
      · subst e1
        rw [ha] at q3; cases q3
        rw [List.getElem?_set_ne e2] at q2
        exact absurd ⟨j, d2, q2, q4⟩ hl
    · rw [List.getElem?_set_ne e1] at q1
      by_cases e2 : k = j
      · subst e2
        rw [ha] at q4; cases q4
        exact absurd ⟨i, d1, q1, q3⟩ hl
      · rw [List.getElem?_set_ne e2] at q2
        exact S.inj i j b d1 d2 q1 q2 q3 q4
  tab := S.tab
  gt := S.gt
theorem Step.back {d : Cell} {ds : List D} (s : Step ⟨c.G, c.H, c.as, c.st.set k none⟩ c') (hk : c.st[k]? = some (some d)) (ha : c.as[k]? = some a) : Step c ⟨c'.G, c'.H, c'.as, c'.st.set k (some (.lst ds))⟩ := ⟨s.ex, s.pf, fun b u q1 qn q2 q3 => by
  obtain ⟨k1, k2, k3⟩ := s.kp b u q1 qn (fun ⟨j, e, z1, z2⟩ => q2 ⟨j, e, (set_none_get z1).1, z2⟩) q3
  refine ⟨k1, fun ⟨j, e, z1, z2⟩ => ?_, k3⟩
  by_cases h : k = j
  · subst h
    have z2 : c'.as[k]? = some b := z2
    have z3 : c'.as[k]? = some a := s.pf k a ha
    rw [z3] at z2; cases z2
    exact q2 ⟨k, d, hk, ha⟩
  · have z1 : (c'.st.set k (some (.lst ds)))[j]? = some (some e) := z1
    rw [List.getElem?_set_ne h] at z1
    exact k2 ⟨j, e, z1, z2⟩⟩
end
section
variable {X : Cx} {W : WX} {tg e elt : Expr} {ifs : List Expr} {scope : Scope} {pos : Pos} {f : EF} {tf : TF} {cf : CF} {el : EF} {ts : List Nat}
def fLcC (kk : List D → ST → Res D) (f : EF) (tf : TF) (cf : CF) (el : EF) (vs : List Nat) : EF := fun sl st => (f sl st).bind fun d st1 => match d with
  | .cel k => match st1[k]? with
    | some (some (.lst ds)) => if szOk ds.length then (compF tf cf el (wipeD sl vs) ds (st1.set k none)).bind fun ys st2 => kk ys (st2.set k (some (.lst ds))) else .stuck
    | _ => .stuck
  | _ => .stuck
theorem lc_readC {own : List (Str × Nat)} {g : TG} {tt : TT} {kk : List D → ST → Res D} {σ : L2.St} {c : Cf} {sl : SL} {Q : VK} (S : c.ok X.K) (L : c.SlR X.K σ sl) (hw : ∀ i ∈ ts, i ∈ own.map (·.2))
    (hg : ∀ (G H : Hp) as v d σ sl sl' (Q : L2.St → Hp → Prop), Ex G H → DR X.K G as v d → SlR X.K G as σ sl → tf d sl = some sl' → (∀ σ', SlR X.K G as σ' sl' → Only ts σ σ' → Q σ' H) → g v σ H Q)
    (ht : ∀ c σ sl (Q : Bool → Hp → Prop), c.ok X.K → c.SlR X.K σ sl → Post X.K W0 c (fun _ (b : Bool) (b' : Bool) => b = b') Q (cf sl c.st) → tt σ c.H Q) (T : Told X.K W Q kk)
    (P : Post X.K W c (RlD X.K) Q (fLcC kk f tf cf el (own.map (·.2)) sl c.st)) :
    tLc (iList X.K (tE X.K W f)) g tt (tE X.K W0 el) (own.map (·.2)) σ c.H Q := by
  refine ⟨c, sl, rfl, S, L, Post.bind P fun v d c1 s1 o1 r1 P1 => ?_⟩
  split at P1
  case h_2 => exact P1.elim
  case h_1 k =>
  split at P1
  case h_2 => exact P1.elim
  case h_1 ds hk =>
  by_cases hz : szOk ds.length = true
  case neg => rw [if_neg hz] at P1; exact P1.elim
  rw [if_pos hz] at P1
  have hsz : ds.length ≤ 1000000 := of_decide_eq_true hz
  obtain ⟨a, ha, hGa, vs0, hHa, hr0⟩ := o1.cell k _ hk
  cases r1 with
  | cel h5 =>
  rw [ha] at h5; cases h5
  refine ⟨a, rfl, ⟨vs0, sqOf hHa⟩, fun D hD => ?_⟩
  have o0 : Cf.ok X.K ⟨c1.G, c1.H, c1.as, c1.st.set k none⟩ := SRel.forget o1
  have l0 : ¬ Live c1.as (c1.st.set k none) a := Cf.hidden o1 hk ha
  have neD : D ≠ a := fun z => by rw [z, hHa] at hD; cases hD
  have wk : Walk (Itl X.K a) ds.length (fun H => H a = some (.lst vs0)) (YAt vs0) := by
    rw [← DRs.length hr0]
    exact (walk_list (K := X.K) (a := a) (xs := vs0)).mono (fun H h => sqOf h) (fun _ _ _ _ _ _ y => y)
  refine lc_it wk (fun i H' => ∃ c' vs ys, c'.H = H' ∧ c'.ok X.K ∧ Step ⟨c1.G, c1.H, c1.as, c1.st.set k none⟩ c' ∧ c'.H D = some (.lst vs) ∧ ¬ Live c'.as c'.st D ∧ c'.G D = none ∧ c'.DRs X.K vs ys ∧ vs.length ≤ i ∧
      Post X.K W c1 (RlD X.K) Q ((compF tf cf el (wipeD sl (own.map (·.2))) (ds.drop i) c'.st).bind fun zs st2 => kk (ys ++ zs) (st2.set k (some (.lst ds))))) ?_ ?_ ?_ ?_
  · refine ⟨⟨c1.G, upd c1.H D (.lst []), c1.as, c1.st.set k none⟩, [], [], rfl, Cf.out o0 (not_live (c := ⟨c1.G, c1.H, c1.as, c1.st.set k none⟩) o0 hD) (o1.ex.free hD), (Step.refl _).out hD, upd_same, (not_live (c := ⟨c1.G, c1.H, c1.as, c1.st.set k none⟩) o0 hD :), o1.ex.free hD, .nil, Nat.le_refl _, ?_⟩
    simpa using P1
  · rintro i H' _ ⟨c', vs, ys, rfl, o', s', _⟩
    exact (s'.kq (a := a) hHa l0 hGa).1
  · rintro i x H' H2 hlt ⟨c', vs, ys, rfl, o', s', hd1, hd2, hd3, r', hl, P'⟩ y
    obtain ⟨d, hd, e⟩ := drop_cons hlt
    obtain ⟨rfl, hx⟩ := y
    obtain ⟨v0, hv0, rv0⟩ := DRs.get hr0 i d hd
    rw [hv0] at hx; cases hx
    rw [e] at P'
    unfold compF at P'
    cases q : tf d (wipeD sl (own.map (·.2))) with
    | none => rw [q] at P'; exact P'.elim
    | some sl1 =>
      rw [q] at P'
      dsimp only at P'
      refine hg c'.G c'.H c'.as x d (wipe σ (own.map (·.2))) _ sl1 _ o'.ex (s'.dr (c := ⟨c1.G, c1.H, c1.as, c1.st.set k none⟩) rv0) (s'.sl (c := ⟨c1.G, c1.H, c1.as, c1.st.set k none⟩) ((s1.sl L).wipe _)) q ?_
      intro σ2 L2 on
      refine ⟨by rw [on.wipe hw, wipe_wipe], ?_⟩
      refine ht c' σ2 sl1 _ o' L2 ?_
      cases qc : cf sl1 c'.st with
      | stuck => rw [qc] at P'; exact P'.elim
      | err C d sl st => rw [qc] at P'; exact P'.elim
      | ok b st1 =>
        rw [qc] at P'
        intro b' c3 s3 o3 e3 hb
        subst hb
        subst e3
        obtain ⟨k4, k5, k6⟩ := s3.kq hd1 hd2 hd3
        cases b' with
        | false =>
          simp only [Bool.false_eq_true, if_false]
          exact ⟨c3, vs, ys, rfl, o3, s'.trans s3, k4, k5, k6, s3.drs r', by omega, P'⟩
        | true =>
          simp only [if_true]
          refine ⟨c3, sl1, rfl, o3, s3.sl L2, ?_⟩
          have P3 : Post X.K W c1 (RlD X.K) Q (Res.bind (Res.bind (el sl1 c3.st).ne fun y st2 => (compF tf cf el (wipeD sl (own.map (·.2))) (ds.drop (i + 1)) st2).bind fun ys st3 => .ok (y :: ys) st3) fun zs st2 => kk (ys ++ zs) (st2.set k (some (.lst ds)))) := P'
          cases qe : el sl1 c3.st with
          | stuck => rw [qe] at P3; exact P3.elim
          | err C d sl st => rw [qe] at P3; exact P3.elim
          | ok yd st4 =>
            rw [qe] at P3
            intro v4 c4 s4 o4 e4 r4
            subst e4
            obtain ⟨k7, k8, k9⟩ := s4.kq k4 k5 k6
            have P4 : Post X.K W c1 (RlD X.K) Q ((compF tf cf el (wipeD sl (own.map (·.2))) (ds.drop (i + 1)) c4.st).bind fun zs st2 => kk ((ys ++ [yd]) ++ zs) (st2.set k (some (.lst ds)))) := by
              have P3 : Post X.K W c1 (RlD X.K) Q (Res.bind ((compF tf cf el (wipeD sl (own.map (·.2))) (ds.drop (i + 1)) c4.st).bind fun ys st3 => .ok (yd :: ys) st3) fun zs st2 => kk (ys ++ zs) (st2.set k (some (.lst ds)))) := P3
              rw [Res.bind_assoc] at P3
              simpa [Res.bind] using P3
            have hv : vs.length < ds.length := by omega
            refine ⟨vs, k7, Nat.lt_of_lt_of_le (Nat.lt_of_lt_of_le hv hsz) (by decide), ?_⟩
            exact ⟨⟨c4.G, upd c4.H D (.lst (vs ++ [v4])), c4.as, c4.st⟩, vs ++ [v4], ys ++ [yd], rfl, Cf.out o4 k8 k9, ((s'.trans s3).trans s4).out hD, upd_same, k8, k9, DRs.app (s4.drs (s3.drs r')) (.cons r4 .nil), by simp; omega, P4⟩
  · rintro H' ⟨c', vs, ys, rfl, o', s', hd1, hd2, hd3, r', hl, P'⟩
    rw [List.drop_length] at P'
    unfold compF at P'
    have P' : Post X.K W c1 (RlD X.K) Q (kk (ys ++ []) (c'.st.set k (some (.lst ds)))) := P'
    rw [List.append_nil] at P'
    obtain ⟨j1, j2, j3⟩ := s'.kq (a := a) hHa l0 hGa
    have ha' : c'.as[k]? = some a := s'.pf k a ha
    have ob := Cf.back (k := k) o' ha' j2 j3 j1 (s'.drs (c := ⟨c1.G, c1.H, c1.as, c1.st.set k none⟩) hr0)
    have sb : Step c1 ⟨c'.G, c'.H, c'.as, c'.st.set k (some (.lst ds))⟩ := Step.back s' hk ha
    refine T c1 ⟨c'.G, c'.H, c'.as, c'.st.set k (some (.lst ds))⟩ D vs ys hD sb ob hd1 (fun ⟨j, e, z1, z2⟩ => ?_) hd3 r' P'
    by_cases h : k = j
    · subst h
      have z2 : c'.as[k]? = some D := z2
      rw [ha'] at z2; cases z2
      exact neD rfl
    · have z1 : (c'.st.set k (some (.lst ds)))[j]? = some (some e) := z1
      rw [List.getElem?_set_ne h] at z1
      exact hd2 ⟨j, e, z1, z2⟩
/-- [elt for tg in e if ..], e a cell -/
theorem x_lcC {own : List (Str × Nat)} {g : TG} {tt : TT} {kk : List D → ST → Res D} (T : ∀ Q, Told X.K W Q kk) (hc : X.calm = true) (hN : X.N.Nodup) (hi : PX X W e f) (ok : BlkOk X.N X.env.scope scope own)
    (hg : ∀ (s : Shared) (H : Hp) (C : Addr) (cl : List (Str × Addr)) (fp : List Addr), GT (X.blk s H scope (compEnvC scope cl C X.env) fp) tg ts g tf) (hw : ∀ i ∈ ts, i ∈ own.map (·.2))
    (ht : ∀ (s : Shared) (H : Hp) (C : Addr) (cl : List (Str × Addr)) (fp : List Addr), XTs (X.blk s H scope (compEnvC scope cl C X.env) fp) ifs tt cf)
    (he : ∀ (s : Shared) (H : Hp) (C : Addr) (cl : List (Str × Addr)) (fp : List Addr), PX (X.blk s H scope (compEnvC scope cl C X.env) fp) W0 elt el) (hs : ∀ x, foldedSetIterable e X.env x = pure x := by intro _; rfl) :
    PX X W (.ListComp elt [⟨tg, e, ifs, 0⟩] scope pos) (fLcC kk f tf cf el (own.map (·.2))) :=
  pe_imp (pe_lc (te := tE X.K W0 el) hc hN (pi_list hi) ok (fun s H C cl fp => (hg s H C cl fp).pg) (fun s H C cl fp => (ht s H C cl fp).pt) (fun s H C cl fp => he s H C cl fp) hs) fun σ H Q w => by
    obtain ⟨c, sl, rfl, S, L, P⟩ := w
    exact lc_readC S L hw (hg X.s_0 X.H_0 0 [] []).ok (ht X.s_0 X.H_0 0 [] []).ok (T Q) P
/-- .. a cell or anything else -/
def fLc2 (kk : List D → ST → Res D) (f : EF) (tf : TF) (cf : CF) (el : EF) (vs : List Nat) : EF := fun sl st => match f sl st with
  | .ok (.cel _) _ => fLcC kk f tf cf el vs sl st
  | _ => fLcK kk (fWalk f) tf cf el vs sl st
theorem x_lc2 {own : List (Str × Nat)} {g : TG} {tt : TT} {kk : List D → ST → Res D} (T : ∀ Q, Told X.K W Q kk) (hc : X.calm = true) (hN : X.N.Nodup) (hi : PX X W e f) (ok : BlkOk X.N X.env.scope scope own)
    (hg : ∀ (s : Shared) (H : Hp) (C : Addr) (cl : List (Str × Addr)) (fp : List Addr), GT (X.blk s H scope (compEnvC scope cl C X.env) fp) tg ts g tf) (hw : ∀ i ∈ ts, i ∈ own.map (·.2))
    (ht : ∀ (s : Shared) (H : Hp) (C : Addr) (cl : List (Str × Addr)) (fp : List Addr), XTs (X.blk s H scope (compEnvC scope cl C X.env) fp) ifs tt cf)
    (he : ∀ (s : Shared) (H : Hp) (C : Addr) (cl : List (Str × Addr)) (fp : List Addr), PX (X.blk s H scope (compEnvC scope cl C X.env) fp) W0 elt el) (hs : ∀ x, foldedSetIterable e X.env x = pure x := by intro _; rfl) :
    PX X W (.ListComp elt [⟨tg, e, ifs, 0⟩] scope pos) (fLc2 kk f tf cf el (own.map (·.2))) := px_case fun sl st => by
  have h1 := x_lcC (pos := pos) T hc hN hi ok hg hw ht he hs
  have h2 := x_lcK (pos := pos) T hc hN (xi_walk hi) ok hg hw ht he hs
  unfold fLc2
  split
  · exact ⟨_, h1, rfl⟩
  · exact ⟨_, h2, rfl⟩
end
end Rq
set_option Elab.async false
set_option linter.all false
set_option maxRecDepth 100000
set_option maxHeartbeats 4000000
/-! Rq, part 30: a dict of lists that becomes a tree, its lists too. -/
namespace Rq
open PySem PySem.Spec PyProof.Rows L2
section
variable {K : PySem.W.Frag} {W : WX} {X : Cx} {e : Expr} {f : EF}
def fzVals : List (Key × D) → ST → Option (List (Key × D) × ST)
  | [], st => some ([], st)
  | (k, .cel j) :: r, st => match st[j]? with
    | some (some (.lst xs)) => (fzVals r (st.set j none)).map fun p => ((k, .lst xs) :: p.1, p.2)
    | _ => none
  | (k, d) :: r, st => (fzVals r st).map fun p => ((k, d) :: p.1, p.2)
theorem fzVals_ok : ∀ {ds : List (Key × D)} {c : Cf} {vs : List (Key × V)} {ds' : List (Key × D)} {st' : ST}, c.ok K → DRk K c.G c.as vs ds → fzVals ds c.st = some (ds', st') →
    ∃ c', c'.ok K ∧ Step c c' ∧ c'.H = c.H ∧ c'.as = c.as ∧ c'.st = st' ∧ DRk K c'.G c'.as vs ds'
  | [], c, vs, ds', st', S, r, h => by
    cases r
    cases h
    exact ⟨c, S, Step.refl c, rfl, rfl, rfl, .nil⟩
  | (k, d) :: ds, c, vs, ds', st', S, r, h => by
    have other : ∀ {w : V} {vs1 : List (Key × V)} {q : List (Key × D) × ST}, DR K c.G c.as w d → DRk K c.G c.as vs1 ds → fzVals ds c.st = some q → ∃ c', c'.ok K ∧ Step c c' ∧ c'.H = c.H ∧ c'.as = c.as ∧ c'.st = q.2 ∧ DRk K c'.G c'.as ((k, w) :: vs1) ((k, d) :: q.1) := fun {w vs1 q} rw t e => by
      obtain ⟨c', o, s, h1, h2, h3, h4⟩ := fzVals_ok (st' := q.2) (ds' := q.1) S t e
      exact ⟨c', o, s, h1, h2, h3, .cons (rw.mono s.ex s.pf) h4⟩
    cases r with
    | @cons _ w _ vs1 _ rw t =>
      cases d with
      | cel j =>
        unfold fzVals at h
        split at h
        · next xs hj =>
          obtain ⟨q, h1, h2⟩ := Option.map_eq_some_iff.mp h
          cases h2
          obtain ⟨a, ha, hG, us, hH, hr⟩ := S.cell j _ hj
          cases rw with
          | cel h5 =>
            rw [ha] at h5; cases h5
            obtain ⟨z1, z2, _⟩ := Cf.frzO (o := .lst us) S hj ha
            rw [upd_self hH] at z1 z2
            obtain ⟨c', o, s, e1, e2, e3, e4⟩ := fzVals_ok (c := ⟨upd c.G a (.lst us), c.H, c.as, c.st.set j none⟩) (st' := q.2) (ds' := q.1) z1 (t.mono z2.ex (Pf.refl _)) h1
            exact ⟨c', o, z2.trans s, e1, e2, e3, .cons (DR.mono s.ex s.pf (.lst upd_same (hr.mono z2.ex (Pf.refl _)))) e4⟩
        · cases h
      | _ =>
        unfold fzVals at h
        obtain ⟨q, h1, h2⟩ := Option.map_eq_some_iff.mp h
        cases h2
        exact other rw t h1
def zFzD : D → ST → Res D := fun d st => match d with
  | .cel k => match st[k]? with
    | some (some (.dct kvs)) => match fzVals kvs st with
      | some p => match p.2[k]? with
        | some (some (.dct _)) => .ok (.dct p.1) (p.2.set k none)
        | _ => .stuck
      | none => .stuck
    | _ => .stuck
  | _ => .stuck
theorem x_fzD (h : PX X W e f) : PX X W e (f1 zFzD f) := pe_imp (pe_fz h) fun σ H Q w => by
  obtain ⟨c, sl, rfl, S, L, P⟩ := w
  refine ⟨c, sl, rfl, S, L, Post.bind P fun v d c1 s1 o1 r1 P1 => ?_⟩
  unfold zFzD at P1
  split at P1
  · next k =>
    split at P1
    · next kvs hk =>
      split at P1
      · next p hp =>
        split at P1
        · next kv2 hk2 =>
          obtain ⟨a, ha, hG, vs, hH, hr⟩ := o1.cell k _ hk
          cases r1 with
          | cel h5 =>
            rw [ha] at h5; cases h5
            obtain ⟨c2, o2, s2, e1, e2, e3, e4⟩ := fzVals_ok (st' := p.2) (ds' := p.1) o1 hr hp
            have ha2 : c2.as[k]? = some a := by rw [e2]; exact ha
            have hk3 : c2.st[k]? = some (some (.dct kv2)) := by rw [e3]; exact hk2
            refine .inr ⟨a, _, rfl, hH, trivial, fun od => ?_⟩
            obtain ⟨z1, z2, _⟩ := Cf.frzO (o := .frz od (.dK vs)) o2 hk3 ha2
            rw [e1] at z1 z2
            exact P1 (.ref a) ⟨upd c2.G a (.frz od (.dK vs)), upd c1.H a (.frz od (.dK vs)), c2.as, c2.st.set k none⟩ (s2.trans z2) z1 (by show c2.st.set k none = _; rw [e3]) (.dct upd_same (e4.mono z2.ex (Pf.refl _)))
        · exact P1.elim
      · exact P1.elim
    · exact P1.elim
  · exact P1.elim
end
end Rq
set_option Elab.async false
set_option linter.all false
set_option maxRecDepth 100000
set_option maxHeartbeats 400000
/-! Rq, part 31: a dict of names whose lists are cells behind one another. -/
namespace Rq
open PySem PySem.Spec PyProof.Rows L2
def kcs (n : Nat) : List Str → List (Key × D)
  | [] => []
  | x :: l => (.inr x, .cel n) :: kcs (n + 1) l
def cls (f : Str → List D) (l : List Str) : ST := l.map fun x => some (.lst (f x))
theorem cls_len (f : Str → List D) (l : List Str) : (cls f l).length = l.length := by unfold cls; rw [List.length_map]
theorem kcs_len : ∀ (l : List Str) (n : Nat), (kcs n l).length = l.length
  | [], _ => rfl
  | x :: l, n => by show (kcs (n + 1) l).length + 1 = l.length + 1; rw [kcs_len l]
theorem kcs_app (x : Str) : ∀ (l : List Str) (n : Nat), kcs n (l ++ [x]) = kcs n l ++ [(.inr x, .cel (n + l.length))]
  | [], n => rfl
  | y :: l, n => by
    show (Sum.inr y, D.cel n) :: kcs (n + 1) (l ++ [x]) = (Sum.inr y, D.cel n) :: (kcs (n + 1) l ++ _)
    rw [kcs_app x l, List.length_cons]
    congr 4
    simp only [Prod.mk.injEq, D.cel.injEq, true_and]
    omega
theorem kcs_any {x : Str} : ∀ (l : List Str) (n : Nat), x ∉ l → ((kcs n l).any fun kv => decide (kv.1 = .inr x)) = false
  | [], _, _ => rfl
  | y :: l, n, h => by
    show ((decide ((Sum.inr y : Key) = .inr x)) || (kcs (n + 1) l).any fun kv => decide (kv.1 = .inr x)) = false
    rw [kcs_any l (n + 1) fun q => h (by simp [q]), decide_eq_false (by
      intro q
      cases q
      exact h (by simp))]
    rfl
theorem put_kcs {x : Str} {l : List Str} {n : Nat} (h : x ∉ l) : putD (kcs n l) (.inr x) (.cel (n + l.length)) = kcs n (l ++ [x]) := by
  unfold putD
  rw [kcs_any l n h, kcs_app]
  rfl
theorem kcs_get {x : Str} : ∀ (l : List Str) (n i : Nat), l.Nodup → l[i]? = some x → getK (kcs n l) (.inr x) = some (.cel (n + i))
  | [], _, _, _, h => by simp at h
  | y :: l, n, 0, nd, h => by
    cases h
    unfold getK
    show (((Sum.inr x, D.cel n) :: kcs (n + 1) l).find? _).map _ = _
    rw [List.find?_cons_of_pos (by exact decide_eq_true rfl)]
    rfl
  | y :: l, n, i + 1, nd, h => by
    rw [List.nodup_cons] at nd
    have hx : l[i]? = some x := by simpa using h
    have ih := kcs_get l (n + 1) i nd.2 hx
    unfold getK at ih ⊢
    show (((Sum.inr y, D.cel n) :: kcs (n + 1) l).find? _).map _ = _
    rw [List.find?_cons_of_neg (by
      intro q
      have := of_decide_eq_true q
      cases this
      exact nd.1 (List.mem_of_getElem? hx)), ih]
    congr 2
    omega
theorem cls_get {f : Str → List D} {l : List Str} {i : Nat} {x : Str} (h : l[i]? = some x) (st tail : ST) : (st ++ (cls f l ++ tail))[st.length + i]? = some (some (.lst (f x))) := by
  have hi := (List.getElem?_eq_some_iff.mp h).1
  rw [List.getElem?_append_right (by omega), Nat.add_sub_cancel_left, List.getElem?_append_left (by rw [cls_len]; exact hi)]
  unfold cls
  rw [List.getElem?_map, h]
  rfl
theorem cls_put (f : Str → List D) (v : List D) {x : Str} : ∀ (l : List Str) (i : Nat), l.Nodup → l[i]? = some x → (cls f l).set i (some (.lst v)) = cls (fun y => if y = x then v else f y) l
  | [], _, _, h => by simp at h
  | y :: l, 0, nd, h => by
    cases h
    rw [List.nodup_cons] at nd
    show some (Cell.lst v) :: cls f l = some (Cell.lst (if x = x then v else f x)) :: cls (fun z => if z = x then v else f z) l
    rw [if_pos rfl]
    congr 1
    unfold cls
    refine List.map_congr_left fun z hz => ?_
    dsimp only
    rw [if_neg (by rintro rfl; exact nd.1 hz)]
  | y :: l, i + 1, nd, h => by
    rw [List.nodup_cons] at nd
    have hx : l[i]? = some x := by simpa using h
    show some (Cell.lst (f y)) :: (cls f l).set i (some (.lst v)) = some (Cell.lst (if y = x then v else f y)) :: cls (fun z => if z = x then v else f z) l
    rw [cls_put f v l i nd.2 hx, if_neg (by rintro rfl; exact nd.1 (List.mem_of_getElem? hx))]
theorem cls_set {f : Str → List D} {l : List Str} {i : Nat} {x : Str} (nd : l.Nodup) (h : l[i]? = some x) (v : List D) (st tail : ST) : (st ++ (cls f l ++ tail)).set (st.length + i) (some (.lst v)) = st ++ (cls (fun y => if y = x then v else f y) l ++ tail) := by
  have hi := (List.getElem?_eq_some_iff.mp h).1
  rw [List.set_append_right _ _ (by omega), Nat.add_sub_cancel_left, List.set_append_left _ _ (by rw [cls_len]; exact hi), cls_put f v l i nd h]
theorem fz_cells {f : Str → List D} {tail : ST} : ∀ (l : List Str) (st : ST), fzVals (kcs st.length l) (st ++ (cls f l ++ tail)) = some (l.map fun x => (.inr x, .lst (f x)), st ++ (l.map (fun _ => none) ++ tail))
  | [], st => rfl
  | x :: l, st => by
    show fzVals ((.inr x, .cel st.length) :: kcs (st.length + 1) l) (st ++ (some (Cell.lst (f x)) :: (cls f l ++ tail))) = _
    unfold fzVals
    have e1 : (st ++ (some (Cell.lst (f x)) :: (cls f l ++ tail)))[st.length]? = some (some (.lst (f x))) := by simp
    have e2 : (st ++ (some (Cell.lst (f x)) :: (cls f l ++ tail))).set st.length none = (st ++ [none]) ++ (cls f l ++ tail) := by simp
    simp only [e1]
    have ih := fz_cells (f := f) (tail := tail) l (st ++ [none])
    have e3 : (st ++ [(none : Option Cell)]).length = st.length + 1 := by simp
    rw [e3] at ih
    rw [e2, ih]
    simp
theorem fzD_cells {f : Str → List D} {l : List Str} {st : ST} : zFzD (.cel (st.length + l.length)) (st ++ (cls f l ++ [some (.dct (kcs st.length l))])) = .ok (.dct (l.map fun x => (.inr x, .lst (f x)))) (st ++ (l.map (fun _ => none) ++ [none])) := by
  have e1 : ∀ (m : ST) (c : Option Cell), m.length = l.length → (st ++ (m ++ [c]))[st.length + l.length]? = some c := by
    intro m c hm
    rw [List.getElem?_append_right (by omega), Nat.add_sub_cancel_left, ← hm]
    simp
  unfold zFzD
  simp only [e1 (cls f l) _ (cls_len f l), fz_cells, e1 (l.map fun _ => none) _ (by rw [List.length_map])]
  congr 1
  rw [List.set_append_right _ _ (by omega), Nat.add_sub_cancel_left, List.set_append_right _ _ (by rw [List.length_map]; omega), List.length_map, Nat.sub_self]
  rfl
theorem dc_cells {tf : TF} {ek ev : EF} {slw : SL} : ∀ (l acc : List Str) (n : Nat) (st : ST), st.length = n + acc.length → (acc ++ l).Nodup →
    (∀ x ∈ l, ∀ s : ST, ∃ sl1, tf (.str x) slw = some sl1 ∧ ek sl1 s = .ok (.str x) s ∧ ev sl1 s = .ok (.cel s.length) (s ++ [some (.lst [])])) →
    dcompF tf ek ev slw (l.map D.str) (kcs n acc) st = .ok (kcs n (acc ++ l)) (st ++ cls (fun _ => []) l)
  | [], acc, n, st, _, _, _ => by
    rw [List.append_nil]
    show Res.ok _ st = Res.ok _ (st ++ [])
    rw [List.append_nil]
  | x :: l, acc, n, st, hn, nd, h => by
    obtain ⟨sl1, h1, h2, h3⟩ := h x (by simp) st
    have hx : x ∉ acc := by
      rw [List.nodup_append] at nd
      intro q
      exact nd.2.2 x q x (by simp) rfl
    rw [List.map_cons]
    unfold dcompF
    rw [h1]
    simp only [h2, ne_ok, bind_ok, h3, keyD]
    rw [hn, put_kcs hx, dc_cells l (acc ++ [x]) n (st ++ [some (Cell.lst [])]) (by simp; omega) (by simpa using nd) fun y hy => h y (by simp [hy])]
    congr 1
    · simp
    · show (st ++ [some (Cell.lst [])]) ++ cls (fun _ => []) l = st ++ (some (Cell.lst []) :: cls (fun _ => []) l)
      simp
theorem Pot.apps {st : ST} {k n : Nat} (h : Pot st k n) (m : ST) : Pot (st ++ m) k n := by
  obtain ⟨a, b, c, h0, h⟩ := h
  refine ⟨a, b, c, ?_, h⟩
  rw [List.getElem?_append_left (List.getElem?_eq_some_iff.mp h0).1]
  exact h0
theorem Adv.apps (k : Nat) (st m : ST) : Adv k st (st ++ m) := ⟨by simp, fun j h _ => List.getElem?_append_left h⟩
end Rq
set_option Elab.async false
set_option linter.all false
set_option maxRecDepth 100000
set_option maxHeartbeats 400000
/-! Rq, part 32: loops that may return; comprehensions with a test over images; all of the same; dicts of pairs with cells. -/
namespace Rq
open PySem PySem.Spec PyProof.Rows L2
theorem loop_rt {tf : TF} {B : SF} {P : Nat → SL → ST → Prop} {R : D → ST → Prop} : ∀ (xs : List D) (sl : SL) (st : ST), P 0 sl st →
    (∀ i d sl st, xs[i]? = some d → P i sl st → ∃ sl1, tf d sl = some sl1 ∧ ((∃ sl2 st', B sl1 st = .ok (.nx sl2) st' ∧ P (i + 1) sl2 st') ∨ ∃ e st', B sl1 st = .ok (.rt e) st' ∧ R e st')) →
    (∃ sl' st', loopF tf B xs sl st = .ok (.nx sl') st' ∧ P xs.length sl' st') ∨ ∃ e st', loopF tf B xs sl st = .ok (.rt e) st' ∧ R e st' := by
  intro xs
  induction xs generalizing P with
  | nil => intro sl st h0 _; exact .inl ⟨sl, st, rfl, h0⟩
  | cons d r ih =>
    intro sl st h0 step
    obtain ⟨sl1, e1, h⟩ := step 0 d sl st rfl h0
    rcases h with ⟨sl2, st1, e2, h1⟩ | ⟨e, st1, e2, h1⟩
    · have h3 := ih (P := fun i => P (i + 1)) sl2 st1 h1 (fun i d sl st h p => step (i + 1) d sl st (by simpa using h) p)
      have e4 : loopF tf B (d :: r) sl st = loopF tf B r sl2 st1 := by
        conv => lhs; unfold loopF
        rw [e1]
        dsimp only
        rw [e2]
        rfl
      rw [e4]
      exact h3
    · refine .inr ⟨e, st1, ?_, h1⟩
      unfold loopF
      rw [e1]
      dsimp only
      rw [e2]
      rfl
theorem comp_imgIf {α : Type} {tf : TF} {t el : EF} {slw : SL} {st : ST} (f : α → D) (p : α → Bool) (g : α → D) : ∀ (xs : List α), (∀ a ∈ xs, ∃ sl1, tf (f a) slw = some sl1 ∧ t sl1 st = .ok (.bl (p a)) st ∧ el sl1 st = .ok (g a) st) → compF tf (cOne t) el slw (xs.map f) st = .ok ((xs.filter p).map g) st
  | [], _ => rfl
  | a :: r, h => by
    obtain ⟨sl1, e1, e2, e3⟩ := h a (by simp)
    have ih := comp_imgIf f p g r fun d hd => h d (by simp [hd])
    rw [List.map_cons]
    unfold compF
    rw [e1]
    dsimp only
    have e4 : cOne t sl1 st = .ok (p a) st := by
      unfold cOne fTest
      rw [e2]
      rfl
    rw [e4]
    dsimp only [Res.ne, Res.bind]
    cases hp : p a with
    | false =>
      simp only [Bool.false_eq_true, if_false, List.filter_cons, hp]
      exact ih
    | true =>
      simp only [if_true, List.filter_cons, hp, List.map_cons]
      rw [e3]
      dsimp only [Res.ne, Res.bind]
      rw [ih]
theorem bools_same {α : Type} (b : Bool) : ∀ l : List α, bools (l.map fun _ => D.bl b) = some (l.map fun _ => b)
  | [] => rfl
  | x :: l => by
    rw [List.map_cons, List.map_cons]
    unfold bools
    rw [bools_same b l]
    rfl
theorem all_same {α : Type} (b : Bool) {l : List α} (h : 1 ≤ l.length) (st : ST) : zAll [.lst (l.map fun _ => D.bl b)] st = .ok (.bl b) st := by
  unfold zAll zOfL
  simp only [asL, bools_same]
  congr 2
  cases l with
  | nil => simp at h
  | cons x l =>
    cases b with
    | false => simp
    | true => simp
def pcs (n : Nat) (l : List Str) : List D := (kcs n l).map fun kv => .tup [kD kv.1, kv.2]
theorem pairs_pcs : ∀ (l : List Str) (n : Nat), pairsD (pcs n l) = some (kcs n l)
  | [], _ => rfl
  | x :: l, n => by
    show pairsD (D.tup [.str x, .cel n] :: pcs (n + 1) l) = _
    unfold pairsD
    rw [pairs_pcs l]
    rfl
theorem merge_kcs : ∀ (l acc : List Str) (n : Nat), (acc ++ l).Nodup → (kcs (n + acc.length) l).foldl (fun a kv => putD a kv.1 kv.2) (kcs n acc) = kcs n (acc ++ l)
  | [], acc, n, _ => by rw [List.append_nil]; rfl
  | x :: l, acc, n, nd => by
    have hx : x ∉ acc := by
      rw [List.nodup_append] at nd
      intro q
      exact nd.2.2 x q x (by simp) rfl
    show (kcs (n + acc.length + 1) l).foldl _ (putD (kcs n acc) (.inr x) (.cel (n + acc.length))) = _
    rw [put_kcs hx]
    have := merge_kcs l (acc ++ [x]) n (by simpa using nd)
    rw [List.length_append] at this
    have e : acc ++ [x] ++ l = acc ++ x :: l := by simp
    rw [e] at this
    exact this
theorem dict_pcs {l : List Str} {n : Nat} (nd : l.Nodup) (st : ST) : zDictP [.lst (pcs n l)] st = .ok (.cel st.length) (st ++ [some (.dct (kcs n l))]) := by
  unfold zDictP
  simp only [asL, pairs_pcs]
  congr 5
  exact merge_kcs l [] n nd
end Rq
set_option Elab.async false
set_option linter.all false
set_option maxRecDepth 100000
set_option maxHeartbeats 400000
/-! Rq, part 33: min of a list of data. -/
namespace Rq
open PySem PySem.Spec PyProof.Rows L2 PySem.W
def better (xs : List PyData) (i j : Nat) : Bool := dataLt (xs.getD i .none) (xs.getD j .none)
section
variable {prog : Program} {w : World} {A : Around} {E : Value → Shared → Prop} {s : Shared}
/-- min of a list of data, by the place of what it tells -/
theorem min_at {l : Addr} {vs : Array Value} {x : PyData} {xs : List PyData} {as : List Addr} {Q : Value → Shared → Prop} (hh : A.handled = none) (hl : s.heap.IsList l vs) (hr : ReadsAll s.heap vs.toList (x :: xs) as) (ha : AlikeAll (x :: xs)) (hu : A.units + 1 + PyData.depthAll (x :: xs) < cLine)
    (h : ∀ v h' tk, vs[argBest (better (x :: xs)) xs.length]? = some v → (∀ b o, s.heap.get? b = some o → h'.get? b = some o) → Q v { s with heap := h', toks := tk }) :
    wpAny (model prog w) A (call (.builtin "min") [.ref l]) Q E s := by
  have hn : vs.size = xs.length + 1 := readsAll_len hr
  have e1 : vs.size - 1 = xs.length := by omega
  refine call_min_walkH (iter_listW (A := A.in1) hh hl fun s2 e W st hfp hw hk => ?_)
  refine ⟨_, _, _, _, _, _, _, s.heap, _, rfl, W, st, hfp, by omega, hw, hk, cmpIn_lt (A := A.in1) hr ha (by show A.units + 1 + _ < _; exact hu), fun v s' hP m => ?_⟩
  obtain ⟨h', tk, rfl, hk'⟩ := moved_old e rfl m
  rw [e1] at hP
  exact h v h' tk hP hk'
end
section
variable {K : PySem.W.Frag} {W : WX} {c : Cf} {X : Cx} {a b e o : PySem.Expr} {es : List PySem.Expr} {f g h : EF} {pos apos cpos p : Pos}
abbrev rMinL (K : PySem.W.Frag) : List V → Hp → VK → Prop := fun xs H Q => ∃ (a : Addr) (us : List V) (d : PyData) (ds : List PyData) (u : V), xs = [.ref a] ∧ SqL K H a us ∧ Dp K H (.ref a) (.list (d :: ds)) ∧ AlikeAll (d :: ds) ∧ PyData.depthAll (d :: ds) ≤ 100 ∧ us[argBest (better (d :: ds)) ds.length]? = some u ∧ Q u H
theorem call_minL (hc : X.calm = true) (hu : X.A.units + 200 < cLine) : CallR X (.builtin "min") (rMinL X.K) := by
  intro pins s σ H xs us Q I rx ⟨a, vs, d, ds, u, e, hs, hd, ha, hdp, hi, q⟩
  subst e
  cases rx with
  | cons r t =>
    cases t
    rename_i z
    obtain ⟨its, rv, hl, _⟩ := I.list hs
    obtain ⟨as, rd⟩ := Dp.reads I _ _ z hd r
    have hz : z = .ref a := by cases r; rfl
    subst hz
    cases rd with
    | list h1 h2 h3 h4 =>
      obtain ⟨o, n, e1, e2, e3, e4⟩ := hl
      rw [e1] at h1
      cases h1
      rw [e4] at h3
      injection h3 with h5 _
      subst h5
      refine min_at (I.ok.hd hc) ⟨_, e1, e2, n, e4⟩ h4 ha (by omega) fun v h' tk hv hk => ?_
      obtain ⟨v2, hv2, rr⟩ := Vals.get rv hi
      have : v = v2 := by
        have e5 : its.toArray[argBest (better (d :: ds)) ds.length]? = its[argBest (better (d :: ds)) ds.length]? := by simp
        rw [e5, hv2] at hv
        cases hv
        rfl
      subst this
      exact ⟨u, H, I.kept hk, rr, q⟩
def alikeB (xs : List PyData) : Bool := xs.all fun x => xs.all fun y => alike x y && !(match x with | .none => true | _ => false)
theorem alikeB_ok {xs : List PyData} (h : alikeB xs = true) : AlikeAll xs := by
  unfold alikeB at h
  rw [List.all_eq_true] at h
  refine ⟨fun x hx y hy => ?_, fun x hx e => ?_⟩
  · have := h x hx
    rw [List.all_eq_true] at this
    have := this y hy
    rw [Bool.and_eq_true] at this
    exact this.1
  · have := h x hx
    rw [List.all_eq_true] at this
    have := this x hx
    subst e
    simp at this
def zMinL : List D → ST → Res D
  | [x], st => match asL x st with
    | some xs => (match toPyS x st with
      | some (.list (d :: ds)) => if alikeB (d :: ds) = true ∧ PyData.depthAll (d :: ds) ≤ 100 then (match xs[argBest (better (d :: ds)) ds.length]? with
        | some y => .ok y st
        | none => .stuck) else .stuck
      | _ => .stuck)
    | none => .stuck
  | _, _ => .stuck
theorem zMinL_ok : OpA K W (rMinL K) zMinL := fun c vs ds Q S r P => by
  unfold zMinL at P
  split at P
  · next x =>
    cases r with
    | cons r1 t =>
      cases t
      split at P
      · next xs hx =>
        obtain ⟨a, us, rfl, h1, h2⟩ := asL_ok S r1 hx
        split at P
        · next d ds hd =>
          split at P
          · next hk =>
            split at P
            · next y hy =>
              obtain ⟨u, h3, h4⟩ := h2.get _ y hy
              exact ⟨a, us, d, ds, u, rfl, h1, toPyS_ok S r1 hd, alikeB_ok hk.1, hk.2, h3, Post.ok S h4 P⟩
            · exact P.elim
          · exact P.elim
        · exact P.elim
      · exact P.elim
  · exact P.elim
theorem x_minL {g : AF} (hc : X.calm = true) (hu : X.A.units + 200 < cLine) (hm : X.mg "min" = none) (ha : PXs X W (e :: es) g) (hg : Gl X "min" := by rfl)
    (hs : starEach (e :: es) X.env = (false, eval e X.env) :: starEach es X.env := by rfl) (hpl : (backTo pos (starEach es X.env)).any (·.1) = false := by rfl) : PX X W (.Call (.Name "min" p) (e :: es) [] pos) (fA zMinL g) :=
  x_bltn (call_minL hc hu) zMinL_ok hm PyProof.Rows.boot_min ha hg (by decide) (by decide) hs hpl
end
end Rq
set_option Elab.async false
set_option linter.all false
set_option maxRecDepth 100000
set_option maxHeartbeats 400000
/-! Rq, part 34: list of a dict. -/
namespace Rq
open PySem PySem.Spec PyProof.Rows L2
section
variable {K : PySem.W.Frag} {W : WX} {c : Cf} {X : Cx}
theorem keys_rel : ∀ {vs : List (Key × V)} {ds : List (Key × D)}, DRk K c.G c.as vs ds → c.DRs K (vs.map fun kv => kV kv.1) (ds.map fun p => kD p.1)
  | [], _, h => by cases h; exact .nil
  | v :: vs, _, h => by
    cases h with
    | cons r t =>
      rename_i k _ _ _
      refine .cons ?_ (keys_rel t)
      dsimp only
      cases k with
      | inl i => exact .int i
      | inr x => exact .str x
def zListD : List D → ST → Res D
  | [.dct kvs], st => .ok (.lst (kvs.map fun p => kD p.1)) st
  | _, _ => .stuck
abbrev rListD (K : PySem.W.Frag) : List V → Hp → VK → Prop := fun xs H Q => ∃ (a : Addr) (kvs : List (Key × V)), xs = [.ref a] ∧ Rd H a (.dK kvs) ∧ ∀ p, H p = none → Q (.ref p) (upd H p (.lst (kvs.map fun kv => kV kv.1)))
theorem zListD_ok : OpA K W (rListD K) zListD := fun c vs ds Q S r P => by
  unfold zListD at P
  split at P
  · cases r with
    | cons r1 t =>
      cases t
      cases r1 with
      | dct h1 h2 => exact ⟨_, _, rfl, .inr ⟨_, S.ex _ _ h1⟩, fun p hp => newTree S hp (keys_rel h2) P⟩
  · exact P.elim
end
end Rq
set_option Elab.async false
set_option linter.all false
set_option maxRecDepth 100000
set_option maxHeartbeats 400000
/-! Rq, part 35: max of a list of ints; with default. -/
namespace Rq
open PySem PySem.Spec PyProof.Rows L2 PySem.W
def maxI : List Int → Int
  | [] => 0
  | [x] => x
  | x :: y :: r => max x (maxI (y :: r))
theorem maxI_mem : ∀ l : List Int, l ≠ [] → maxI l ∈ l
  | [], h => absurd rfl h
  | [x], _ => by simp [maxI]
  | x :: y :: r, _ => by
    have := maxI_mem (y :: r) (by simp)
    show max x (maxI (y :: r)) ∈ _
    by_cases h : x ≤ maxI (y :: r)
    · rw [Int.max_eq_right h]
      exact List.mem_cons_of_mem _ this
    · rw [Int.max_eq_left (by omega)]
      simp
theorem maxI_le : ∀ (l : List Int), ∀ y ∈ l, y ≤ maxI l
  | [], y, h => by simp at h
  | [x], y, h => by simp at h; subst h; exact Int.le_refl _
  | x :: z :: r, y, h => by
    show y ≤ max x (maxI (z :: r))
    rcases List.mem_cons.mp h with rfl | h
    · exact Int.le_max_left _ _
    · exact Int.le_trans (maxI_le (z :: r) y h) (Int.le_max_right _ _)
theorem maxI_unique {l : List Int} {m : Int} (h : m ∈ l) (g : ∀ y ∈ l, y ≤ m) : m = maxI l := by
  have h1 := maxI_le l m h
  have h2 := g _ (maxI_mem l (by rintro rfl; simp at h))
  omega
section
variable {K : PySem.W.Frag} {W : WX} {c : Cf} {X : Cx} {a b e o : PySem.Expr} {es : List PySem.Expr} {f g h : EF} {pos apos cpos p : Pos}
def zMaxL : List D → ST → Res D
  | [x], st => match asL x st with
    | some xs => match intsOf xs with
      | some ns => if ns = [] then .stuck else .ok (.int (maxI ns)) st
      | none => .stuck
    | none => .stuck
  | _, _ => .stuck
theorem zMaxL_ok : OpA K W (L2.rMax K) zMaxL := fun c vs ds Q S r P => by
  unfold zMaxL at P
  split at P
  · next x st =>
    split at P
    · next xs hx =>
      split at P
      · next ns hn =>
        split at P
        · exact P.elim
        · next hne =>
          cases r with
          | cons r1 t =>
            cases t
            obtain ⟨a, us, rfl, h1, h2⟩ := asL_ok S r1 hx
            obtain ⟨rfl, rfl⟩ := intsOf_ok hn h2
            refine ⟨a, ns, rfl, h1, List.length_pos_iff.mpr hne, fun m hm hle => ?_⟩
            have e := maxI_unique hm hle
            subst e
            exact Post.ok S (.int _) P
      · exact P.elim
    · exact P.elim
  · exact P.elim
/-- max(xs, default=d) -/
abbrev rMaxD (K : PySem.W.Frag) : List V → List V → Hp → VK → Prop := fun xs zs H Q => ∃ (a : Addr) (ns : List Int) (d : V), xs = [.ref a] ∧ zs = [d] ∧ SqL K H a (ns.map V.int) ∧ Dp K H (.ref a) (.list (ns.map .int)) ∧ (ns = [] → Q d H) ∧ (ns ≠ [] → Q (.int (maxI ns)) H)
theorem fold_max : ∀ (ns : List Int) (n : Int), ns.foldl max n = maxI (n :: ns)
  | [], n => rfl
  | x :: ns, n => by
    rw [List.foldl_cons, fold_max ns (max n x)]
    show maxI (max n x :: ns) = max n (maxI (x :: ns))
    cases ns with
    | nil => rfl
    | cons y ns =>
      show max (max n x) (maxI (y :: ns)) = max n (max x (maxI (y :: ns)))
      rw [Int.max_assoc]
theorem alike_ints (ns : List Int) : AlikeAll (ns.map PyData.int) := by
  refine ⟨fun x hx y hy => ?_, fun x hx e => ?_⟩
  · obtain ⟨i, _, rfl⟩ := List.mem_map.mp hx
    obtain ⟨j, _, rfl⟩ := List.mem_map.mp hy
    rfl
  · obtain ⟨i, _, rfl⟩ := List.mem_map.mp hx
    cases e
theorem depth_ints : ∀ ns : List Int, PyData.depthAll (ns.map PyData.int) = 0
  | [] => rfl
  | x :: ns => by
    rw [List.map_cons]
    unfold PyData.depthAll
    rw [depth_ints ns]
    rfl
theorem call_maxD (hc : X.calm = true) (hu : X.A.units + 200 < cLine) : CallRK X (.builtin "max") ["default"] (rMaxD X.K) := by
  intro pins s σ H xs zs us ws Q I rx rz ⟨a, ns, d, ex, ez, hs, hd, q0, q1⟩
  subst ex
  subst ez
  cases rx with
  | cons r t =>
    cases t
    rename_i z
    cases rz with
    | cons r2 t2 =>
      cases t2
      rename_i y
      obtain ⟨as, rd⟩ := Dp.reads I _ _ z hd r
      have hz : z = .ref a := by cases r; rfl
      subst hz
      cases rd with
      | list h1 h2 h3 h4 =>
        refine max_list_default (I.ok.hd hc) ⟨_, h1, h2, _, h3⟩ h4 (alike_ints ns) (by rw [depth_ints]; omega) (fun e h' tk hk => ?_) fun y0 ys i v h' tk bs e hv hr hk => ?_
        · exact ⟨d, H, I.kept hk, r2, q0 (by simpa using e)⟩
        · cases ns with
          | nil => cases e
          | cons n ns =>
            rw [List.map_cons] at e
            injection e with e1 e2
            subst e1
            subst e2
            rw [maxD_ints, fold_max] at hr
            cases hr with
            | int j t => exact ⟨.int _, H, I.kept hk, ⟨_, rfl⟩, q1 (by simp)⟩
theorem toPys_ints : ∀ {xs : List D} {ns : List Int}, intsOf xs = some ns → toPys xs = some (ns.map .int)
  | [], ns, h => by cases h; rfl
  | .int i :: xs, ns, h => by
    unfold intsOf at h
    obtain ⟨ms, h1, rfl⟩ := Option.map_eq_some_iff.mp h
    unfold toPys
    rw [toPys_ints h1]
    rfl
  | .non :: _, _, h | .bl _ :: _, _, h | .str _ :: _, _, h | .lst _ :: _, _, h | .lsr _ :: _, _, h | .tup _ :: _, _, h | .dct _ :: _, _, h | .ins _ _ :: _, _, h | .cel _ :: _, _, h | .raw _ :: _, _, h => by cases h
def zMaxD : List D → List D → ST → Res D
  | [.lst xs], [d], st => match intsOf xs with
    | some ns => if ns = [] then .ok d st else .ok (.int (maxI ns)) st
    | none => .stuck
  | _, _, _ => .stuck
def fAK (z : List D → List D → ST → Res D) (g h : AF) : EF := fun sl st => (g sl st).bind fun ds st1 => (h sl st1).bind fun es st2 => z ds es st2
theorem x_maxD {kws : List Keyword} {g h : AF} (hc : X.calm = true) (hu : X.A.units + 200 < cLine) (hm : X.mg "max" = none) (ha : PXs X W (e :: es) g) (hk : PKs X W kws h) (hg : Gl X "max" := by rfl)
    (he : backTo pos (starEach (e :: es) X.env) = (false, eval e X.env) :: backTo pos (starEach es X.env) := by rfl) (hpl : (backTo pos (starEach (e :: es) X.env)).any (·.1) = false := by rfl)
    (hall : (backToKw pos (keywordEach kws X.env)).all (·.1.isSome) = true := by rfl) (hnone : (backToKw pos (keywordEach kws X.env)).any (·.1.isNone) = false := by rfl) (hks : (backToKw pos (keywordEach kws X.env)).filterMap (·.1) = [("default" : Str)] := by rfl) :
    PX X W (.Call (.Name "max" p) (e :: es) kws pos) (fAK zMaxD g h) := pe_imp (pe_callBK (call_maxD hc hu) hg hm PyProof.Rows.boot_max ha hk (by decide) (by decide) he hpl hall hnone hks) fun σ H Q w => by
  obtain ⟨c, sl, rfl, S, L, P⟩ := w
  refine ⟨c, sl, rfl, S, L, Post.bind P fun vs ds c1 s1 o1 r1 P1 => ?_⟩
  refine ⟨c1, sl, rfl, o1, s1.sl L, Post.bind P1 fun ws es c2 s2 o2 r2 P2 => ?_⟩
  unfold zMaxD at P2
  split at P2
  · split at P2
    · next ns hn =>
      have r1' := s2.drs r1
      cases r1' with
      | cons a t =>
        cases t
        cases r2 with
        | cons d t2 =>
          cases t2
          obtain ⟨ad, us, rfl, h1, h2⟩ := asL_ok o2 a rfl
          have hd := toPyS_ok o2 a (p := .list (ns.map .int)) (by
            show (toPys _).map PyData.list = _
            rw [toPys_ints hn]
            rfl)
          obtain ⟨rfl, rfl⟩ := intsOf_ok hn h2
          refine ⟨ad, ns, _, rfl, rfl, h1, hd, fun e0 => ?_, fun e0 => ?_⟩
          · rw [if_pos e0] at P2
            exact Post.ok o2 d P2
          · rw [if_neg e0] at P2
            exact Post.ok o2 (.int _) P2
    · exact P2.elim
  · exact P2.elim
end
end Rq
set_option Elab.async false
set_option linter.all false
set_option maxRecDepth 100000
set_option maxHeartbeats 400000
/-! Rq, part 36: i in range(a, b). -/
namespace Rq
open PySem PySem.Spec PyProof.Rows L2
section
variable {K : PySem.W.Frag} {W : WX} {c : Cf} {X : Cx} {a b e o : PySem.Expr} {es : List PySem.Expr} {f g h : EF} {pos apos cpos p : Pos}
def fInR (f : EF) (g : AF) : EF := fun sl st => (f sl st).bind fun x st1 => (g sl st1).bind fun ds st2 => match x, ds with
  | .int i, [.int lo, .int hi] => .ok (.bl (decide (lo ≤ i ∧ i < hi))) st2
  | _, _ => .stuck
theorem x_inRng {g : AF} (ha : PX X W a f) (hb : PXs X W (e :: es) g) (hm : X.mg "range" = none) (hg : Gl X "range" := by rfl)
    (he : starEach (e :: es) X.env = (false, eval e X.env) :: starEach es X.env := by rfl) (hpl : (backTo cpos (starEach es X.env)).any (·.1) = false := by rfl) (hk : behindInMarks .In (PySem.Expr.Call (.Name "range" p) (e :: es) [] cpos) = false := by rfl) :
    PX X W (.Compare a [.In] [.Call (.Name "range" p) (e :: es) [] cpos] pos) (fInR f g) :=
  pe_imp (pe_cmpR op_in_rng ha (pe_callTy cr_range2 hg hm PyProof.Rows.boot_range hb (by decide) (by decide) he hpl) hk) fun σ H Q w => by
    obtain ⟨c, sl, rfl, S, L, P⟩ := w
    refine ⟨c, sl, rfl, S, L, Post.bind P fun v d c1 s1 o1 r1 P1 => ?_⟩
    refine ⟨c1, sl, rfl, o1, s1.sl L, Post.bind P1 fun vs ds c2 s2 o2 r2 P2 => ?_⟩
    have r1' := s2.dr r1
    unfold fInR at P2
    split at P2
    · cases r1'
      cases r2 with
      | cons x t =>
        cases t with
        | cons y t2 =>
          cases t2
          cases x
          cases y
          refine ⟨_, _, rfl, fun p hp => ⟨_, p, _, _, rfl, rfl, upd_same, ?_⟩⟩
          obtain ⟨h1, h2⟩ := Cf.fix o2 hp (o := .rng _ _)
          exact P2 _ _ h2 h1 rfl (.bl _)
    · exact P2.elim
def resB : D → ST → Res Bool := fun d st1 => match d with
  | .bl b => .ok b st1
  | _ => .stuck
theorem xt_inRng {g : AF} (ha : PX X W a f) (hb : PXs X W (e :: es) g) (hm : X.mg "range" = none) (hg : Gl X "range" := by rfl)
    (he : starEach (e :: es) X.env = (false, eval e X.env) :: starEach es X.env := by rfl) (hpl : (backTo cpos (starEach es X.env)).any (·.1) = false := by rfl) (hk : behindInMarks .In (PySem.Expr.Call (.Name "range" p) (e :: es) [] cpos) = false := by rfl) :
    XT X W (.Compare a [.In] [.Call (.Name "range" p) (e :: es) [] cpos] pos) (fInR f g) :=
  pt_imp (pt_cmpR op_in_rng ha (pe_callTy cr_range2 hg hm PyProof.Rows.boot_range hb (by decide) (by decide) he hpl) hk) fun σ H Q w => by
    obtain ⟨c, sl, rfl, S, L, P⟩ := w
    have P : Post X.K W c (fun _ (b : Bool) (b' : Bool) => b = b') Q ((fInR f g sl c.st).bind resB) := P
    unfold fInR at P
    rw [Res.bind_assoc] at P
    refine ⟨c, sl, rfl, S, L, Post.bind P fun v d c1 s1 o1 r1 P1 => ?_⟩
    rw [Res.bind_assoc] at P1
    refine ⟨c1, sl, rfl, o1, s1.sl L, Post.bind P1 fun vs ds c2 s2 o2 r2 P2 => ?_⟩
    have r1' := s2.dr r1
    clear P1 P
    split at P2
    · cases r1'
      cases r2 with
      | cons x t =>
        cases t with
        | cons y t2 =>
          cases t2
          cases x
          cases y
          refine ⟨_, _, rfl, fun p hp => ⟨_, p, _, _, rfl, rfl, upd_same, ?_⟩⟩
          obtain ⟨h1, h2⟩ := Cf.fix o2 hp (o := .rng _ _)
          exact ⟨_, rfl, P2 _ _ h2 h1 rfl rfl⟩
    · exact P2.elim
end
end Rq
set_option Elab.async false
set_option linter.all false
set_option maxRecDepth 100000
set_option maxHeartbeats 4000000
/-! Rq, part 37: isinstance of an own class, own ==, and != by it. -/
namespace PySem.W
open PySem PySem.Spec PySem.Calls PyProof.Rows
section
variable {prog : Program} {w : World} {A : Around} {E : Value → Shared → Prop} {s : Shared} {K : Frag} {C x f : Addr} {h₀ : Heap} {L : Addr} {m : Str → Option Value} {ox : Obj} {od : Option Obj} {tb b : Value}
open Builtin in
theorem rq_ne_K {Q : Value → Shared → Prop} (hu : A.units + 1 < cLine) (F : Fr h₀ L s.heap m) (X₀ : K.In h₀) (I : InstAt s.heap x ox C od) (hb : Looks (model prog w) s.heap (typeOf b) tb) (hn : notFirst K C tb = true)
    (hne : findIn K (.ref C) "__ne__" = some (some (.builtin "object.__ne__"))) (hs : findIn K (.ref C) "__eq__" = some (some (.ref f))) (hf : isFn K (.ref f) = true) (hm : mroIn K C (.type "object") = some true)
    (h : wpAny (model prog w) A.in1 (call (.ref f) [.ref x, b]) (fun v s' => ∃ r, v = .bool r ∧ Q (.bool (!r)) s') E s) : wpAny (model prog w) A (richCompare .NotEq (.ref x) b) Q E s := by
  have X := X₀.keeps F.keep
  have hu1 : A.in1.units < cLine := hu
  have inner : wpAny (model prog w) A (call (.builtin "object.__ne__") [.ref x, b]) (fun v s' => ∃ r, v = .bool r ∧ Q (.bool r) s') E s := by
    refine wpAny_call (codeAny_call_builtin PySem.F.slot_object_ne.plain PySem.F.cmpEntry_ne (check_slot (i := "object.__ne__") (owner := "object") (n := "__ne__") (by decide +kernel) (by decide +kernel) (I.type.andThen (looks_mroIn X hm)) (PySem.F.cmpArgs_ne _ _) ?_))
    unfold Builtin.«object.__ne__»
    refine wpAny_bind (m := slotArgs "__ne__" 1 _) (wpAny_pure ?_)
    refine wpAny_bind (m := cRoomFor _ _) (wpAny_cRoomFor hu1 ?_)
    refine wpAny_bind (m := callSpecialIfBound? (.ref x) (Str.ofString "__eq__") _) (ifBound_K X I hs hf (wpAny_mono h (fun r s' hq => ?_) fun _ _ y => y))
    obtain ⟨r', rfl, hq⟩ := hq
    refine wpAny_bind (m := truthy (.bool _)) (wpAny_truthy_bool ?_)
    exact wpAny_pure ⟨_, rfl, hq⟩
  have one : wpAny (model prog w) A (tryCompare (.ref x) "__ne__" b) (fun r s' => ∃ v, r = some v ∧ Q v s') E s := by
    unfold tryCompare
    refine wpAny_bind (NtL.csib (I.type.andThen (looks_findIn X hne)) (PySem.F.slot_object_ne.bind _) (wpAny_mono inner (fun v s' hv => ?_) fun _ _ e => e))
    obtain ⟨r, rfl, q⟩ := hv
    exact wpAny_pure ⟨_, rfl, q⟩
  unfold richCompare
  simp only [oneThing_ref]
  refine wpAny_holding (wpAny_bind (wpAny_cRoomFor (Nat.lt_of_succ_lt hu) ?_))
  rw [cmpInfo_NotEq]
  dsimp only
  refine wpAny_bind (I.type.here (wpAny_bind (hb.here ?_)))
  split
  · rename_i q
    have e : subIn K tb (.ref C) = some false := by
      rcases Bool.or_eq_true_iff.mp hn with e | e
      · rw [beq_iff_eq.mp e] at q; simp at q
      · exact beq_iff_eq.mp e
    refine wpAny_bind ((looks_subIn X e).here ?_)
    simp only [Bool.false_eq_true, if_false]
    refine wpAny_bind (wpAny_mono one (fun r s' z => ?_) fun _ _ e => e)
    obtain ⟨v, rfl, hq⟩ := z
    exact wpAny_pure hq
  · refine wpAny_bind (wpAny_pure ?_)
    simp only [Bool.false_eq_true, if_false]
    refine wpAny_bind (wpAny_mono one (fun r s' z => ?_) fun _ _ e => e)
    obtain ⟨v, rfl, hq⟩ := z
    exact wpAny_pure hq
end
end PySem.W
namespace Rq
open PySem PySem.Spec PyProof.Rows L2
/-- what is asked of a class that isinstance is asked of -/
structure ClsQ (K : PySem.W.Frag) (C : Addr) : Prop where
  cl : Cls K C
  ha : PySem.W.findIn K (.ref C) "__class__" = some (some (.builtin "object.__class__"))
  hn : PySem.W.specialIn K (.builtin "object.__class__") "__get__" = some (some (.builtin "getset_descriptor.__get__"))
  htk : PySem.W.takesIn K (.builtin "object.__class__") = some true
  hm : PySem.W.mroIn K C (.type "object") = some true
  ty : PySem.W.typeIn K (.ref C) = some (.type "type")
  s1 : PySem.W.subIn K (.type "NoneType") (.ref C) = some false
  s2 : PySem.W.subIn K (.type "bool") (.ref C) = some false
  s3 : PySem.W.subIn K (.type "int") (.ref C) = some false
  s4 : PySem.W.subIn K (.type "str") (.ref C) = some false
  s5 : PySem.W.subIn K (.type "list") (.ref C) = some false
  s6 : PySem.W.subIn K (.type "tuple") (.ref C) = some false
  s7 : PySem.W.subIn K (.type "dict") (.ref C) = some false
  ne : PySem.W.findIn K (.ref C) "__ne__" = some (some (.builtin "object.__ne__"))
section
variable {K : PySem.W.Frag} {W : WX} {c : Cf} {X : Cx} {a b e o : PySem.Expr} {es : List PySem.Expr} {f g h : EF} {pos apos cpos p : Pos}
theorem cls_some {C : Addr} (h : PySem.W.hasDictIn K C = true) : (PySem.W.clsIn K C).isSome = true := by
  unfold PySem.W.hasDictIn at h
  cases q : PySem.W.clsIn K C with
  | none => rw [q] at h; cases h
  | some d => rfl
theorem ClsQ.sub {C : Addr} (q : ClsQ K C) {d : D} {st : ST} {T : String} (h : tyD d st = some T) : PySem.W.subIn K (.type T) (.ref C) = some false := by
  cases d with
  | non => obtain rfl := Option.some.inj h; exact q.s1
  | bl b => obtain rfl := Option.some.inj h; exact q.s2
  | int i => obtain rfl := Option.some.inj h; exact q.s3
  | str y => obtain rfl := Option.some.inj h; exact q.s4
  | lst xs => obtain rfl := Option.some.inj h; exact q.s5
  | lsr xs => obtain rfl := Option.some.inj h; exact q.s5
  | tup xs => obtain rfl := Option.some.inj h; exact q.s6
  | dct xs => obtain rfl := Option.some.inj h; exact q.s7
  | ins C fs => cases h
  | raw v => cases h
  | exc x d => cases h
  | fn f c q σ sl => cases h
  | cel k =>
    unfold tyD at h
    dsimp only at h
    split at h
    · obtain rfl := Option.some.inj h; exact q.s5
    · obtain rfl := Option.some.inj h; exact q.s7
    · cases h
theorem ClsQ.kit {C : Addr} (q : ClsQ K C) {d : D} {st : ST} {T : String} (h : tyD d st = some T) : PySem.W.kitOne K (.type T) (.ref C) = some false := by
  have e1 : (Value.type T == Value.ref C) = false := rfl
  have e2 : PySem.W.kitCls K (.type T) (.ref C) = if ((PySem.W.clsIn K C).isSome && PySem.W.typeIn K (.ref C) == some (.type "type")) = true then PySem.W.subIn K (.type T) (.ref C) else none := rfl
  have e3 : (some (Value.type "type") == some (Value.type "type")) = true := rfl
  unfold PySem.W.kitOne
  rw [e1, if_neg Bool.false_ne_true, e2, cls_some q.cl.hd, q.ty, e3, Bool.and_true, if_pos rfl]
  exact q.sub h
/-- the type of data, or of an instance of C -/
def tyQ (C : Addr) (d : D) (st : ST) : Option (Option String) := match asIns d st with
  | some (C', _) => if C' = C then some none else none
  | none => (tyD d st).map some
def tyVal (C : Addr) : Option String → Value
  | some T => .type T
  | none => .ref C
theorem tyQ_ok {C : Addr} (q : ClsQ K C) (S : c.ok K) {v : V} {d : D} {t : Option String} (r : c.DR K v d) (h : tyQ C d c.st = some t) : TyX K c.H v (tyVal C t) := by
  unfold tyQ at h
  split at h
  · next C' fs h1 =>
    split at h
    · next hC =>
      cases h
      subst hC
      obtain ⟨a, dx, vs, rfl, h3, h4⟩ := asIns_ok S r h1
      exact .base (.ins h3 q.cl q.ha q.hn q.htk q.hm)
    · cases h
  · obtain ⟨T, hT, rfl⟩ := Option.map_eq_some_iff.mp h
    exact tyD_ok S r hT
theorem tyQ_not {C : Addr} (q : ClsQ K C) {d : D} {st : ST} {t : Option String} (h : tyQ C d st = some t) : PySem.W.notFirst K C (tyVal C t) = true := by
  cases t with
  | none =>
    have e1 : (Value.ref C == Value.ref C) = true := beq_self_eq_true _
    show (Value.ref C == Value.ref C || _) = true
    rw [e1]; rfl
  | some T =>
    unfold tyQ at h
    split at h
    · split at h <;> cases h
    · obtain ⟨T', hT, e⟩ := Option.map_eq_some_iff.mp h
      obtain rfl := Option.some.inj e
      have e2 : PySem.W.notFirst K C (.type T') = (false || PySem.W.subIn K (.type T') (.ref C) == some false) := rfl
      show PySem.W.notFirst K C (.type T') = true
      rw [e2, q.sub hT]; rfl
theorem tyQ_kit {C : Addr} (q : ClsQ K C) {d : D} {st : ST} {t : Option String} (h : tyQ C d st = some t) : PySem.W.kitOne K (tyVal C t) (.ref C) = some t.isNone := by
  cases t with
  | none =>
    have e1 : (Value.ref C == Value.ref C) = true := beq_self_eq_true _
    show (if (Value.ref C == Value.ref C) = true then some true else _) = _
    rw [e1, if_pos rfl]; rfl
  | some T =>
    unfold tyQ at h
    split at h
    · split at h <;> cases h
    · obtain ⟨T', hT, e⟩ := Option.map_eq_some_iff.mp h
      obtain rfl := Option.some.inj e
      exact q.kit hT
/-! isinstance(x, C) -/
def zIsiC (C : Addr) : List D → ST → Res D
  | [x, _], st => match tyQ C x st with
    | some t => .ok (.bl t.isNone) st
    | none => .stuck
  | _, _ => .stuck
def fCls (C : Addr) : EF := fC (.raw (.ref C))
theorem x_cls {x : Str} {C : Addr} (hm : X.mg x = some (.ref C)) (hg : Gl X x := by rfl) (hd : (x == ("__debug__" : Str)) = false := by decide) : PX X W (.Name x pos) (fCls C) :=
  x_glob (v := .ref C) (d := .raw (.ref C)) hg hm (show L2.RelV (.ref C) (.ref C) from rfl) (fun _ => .raw _) hd
theorem x_isiC {x : Str} {p2 : Pos} {C : Addr} (q : ClsQ X.K C) (hx : X.mg x = some (.ref C)) (hm : X.mg "isinstance" = none) (ha : PX X W a f) (hgx : Gl X x := by rfl) (hdx : (x == ("__debug__" : Str)) = false := by decide) (hg : Gl X "isinstance" := by rfl) (hv : bootBuiltins "isinstance" = some (.builtin "isinstance") := by exact PyProof.Rows.boot_isinstance)
    (hs0 : starEach (a :: [.Name x p2]) X.env = (false, eval a X.env) :: starEach [.Name x p2] X.env := by rfl) (hs1 : starEach [.Name x p2] X.env = (false, eval (.Name x p2) X.env) :: starEach [] X.env := by rfl)
    (hpl : (backTo pos (starEach [.Name x p2] X.env)).any (·.1) = false := by rfl) : PX X W (.Call (.Name "isinstance" p) [a, .Name x p2] [] pos) (fA (zIsiC C) (fCons f (fCons (fCls C) fNil))) :=
  pe_imp (pe_callB call_isi hg hm hv (xs_cons ha (xs_cons (x_cls hx hgx hdx) xs_nil hs1) hs0) (by decide) (by decide) hs0 hpl) fun σ H Q w => by
    obtain ⟨c, sl, rfl, S, L, P⟩ := w
    refine ⟨c, sl, rfl, S, L, ?_⟩
    have P : Post X.K W c (RlD X.K) Q ((fCons f (fCons (fCls C) fNil) sl c.st).bind fun ds st1 => zIsiC C ds st1) := P
    have key : ∀ ds st1, (fCons f (fCons (fCls C) fNil) sl c.st) = .ok ds st1 → ∃ x, ds = [x, .raw (.ref C)] := by
      intro ds st1 e
      unfold fCons at e
      cases q1 : f sl c.st with
      | ok d st =>
        rw [q1] at e
        have e : Res.ok [d, .raw (.ref C)] st = .ok ds st1 := e
        cases e
        exact ⟨d, rfl⟩
      | err _ _ _ _ => rw [q1] at e; cases e
      | stuck => rw [q1] at e; cases e
    cases qq : (fCons f (fCons (fCls C) fNil) sl c.st) with
    | stuck => rw [qq] at P; exact P
    | err _ _ _ _ => rw [qq] at P; exact P
    | ok ds st1 =>
      rw [qq] at P
      obtain ⟨x0, rfl⟩ := key ds st1 qq
      intro vs c1 s1 o1 e1 r1
      subst e1
      have P1 := Post.mono s1 P
      have P1 : Post X.K W c1 (RlD X.K) Q (zIsiC C [x0, .raw (.ref C)] c1.st) := P1
      unfold zIsiC at P1
      dsimp only at P1
      split at P1
      · next t ht =>
        cases r1 with
        | cons ra t1 =>
          cases t1 with
          | cons rb t2 =>
            cases t2
            cases rb
            exact ⟨_, _, _, _, _, rfl, .own C, tyQ_ok q o1 ra ht, tyQ_kit q ht, Post.ok o1 (.bl _) P1⟩
      · exact P1.elim
/-! own ==, and != by it -/
def rOwnEq (K : PySem.W.Frag) (C : Addr) (F : DF) (neg : Bool) : R2 := fun x y H Q => ∃ a dx fs t, x = .ref a ∧ H a = some (.ins C dx fs) ∧ TyX K H y t ∧ PySem.W.notFirst K C t = true ∧ spF K 2 F [x, y] H (fun v H' => ∃ b, v = .bl b ∧ Q (.bl (if neg then !b else b)) H') E0
theorem op_ownEq {C : Addr} {k : Nat} {F : DF} (d : Mt X.prog X.w X.K X.mg X.base C "__eq__" k 2 F) (hr : Room k X.A) : OpR X (compareOp .Eq) (rOwnEq X.K C F false) := by
  intro pins s σ H x y v u Q I rx ry ⟨a, dx, fs, t, e, hi, ty, hn, q⟩
  obtain ⟨f, fd, ps, h1, h2, h3⟩ := d.ex
  subst e
  obtain rfl : v = .ref a := rx
  obtain ⟨ox, od, i1⟩ := instAt I hi
  obtain ⟨m, i2⟩ := frAt I
  obtain ⟨P, Z, pz, _⟩ := kit_of I ry ty
  have hl : [Value.ref a, u].length = ps.length := by
    have := h2.len _ _ _ _ q
    simpa using this
  show wpAny (model X.prog X.w) X.A (richCompare .Eq (.ref a) u) (EP X pins σ Q) X.xe s
  refine PySem.W.cmp_K (op := .Eq) hr.units0 i2 I.ok.mod.kin i1 (Z.ty _ _ I.kIn pz) hn h1.at_ h1.fn (thn (runF (args := ⟨[.ref a, u], []⟩) (us := [.ref a, u]) h2 rfl hr ?_ pass0 I (.cons (show L2.RelV (.ref a) (.ref a) from rfl) (.cons ry .nil)) q) ?_)
  · have := h3 s [.ref a, u] I.kIn (by simpa using hl)
    simpa using this
  · rintro r s' ⟨v', H', I', r', b, rfl, q'⟩
    obtain rfl : r = .bool b := r'
    exact ⟨.bl b, H', I', rfl, q'⟩
theorem op_ownNe {C : Addr} {k : Nat} {F : DF} (cq : ClsQ X.K C) (d : Mt X.prog X.w X.K X.mg X.base C "__eq__" k 2 F) (hr : Room (k + 1) X.A) : OpR X (compareOp .NotEq) (rOwnEq X.K C F true) := by
  intro pins s σ H x y v u Q I rx ry ⟨a, dx, fs, t, e, hi, ty, hn, q⟩
  obtain ⟨f, fd, ps, h1, h2, h3⟩ := d.ex
  subst e
  obtain rfl : v = .ref a := rx
  obtain ⟨ox, od, i1⟩ := instAt I hi
  obtain ⟨m, i2⟩ := frAt I
  obtain ⟨P, Z, pz, _⟩ := kit_of I ry ty
  have hl : [Value.ref a, u].length = ps.length := by
    have := h2.len _ _ _ _ q
    simpa using this
  show wpAny (model X.prog X.w) X.A (richCompare .NotEq (.ref a) u) (EP X pins σ Q) X.xe s
  refine PySem.W.rq_ne_K (by have := hr.un; omega) i2 I.ok.mod.kin i1 (Z.ty _ _ I.kIn pz) hn cq.ne h1.at_ h1.fn cq.hm (thn (runF (A := X.A.in1) (args := ⟨[.ref a, u], []⟩) (us := [.ref a, u]) h2 rfl hr.in1 ?_ pass0 I (.cons (show L2.RelV (.ref a) (.ref a) from rfl) (.cons ry .nil)) q) ?_)
  · have := h3 s [.ref a, u] I.kIn (by simpa using hl)
    simpa using this
  · rintro r s' ⟨v', H', I', r', b, rfl, q'⟩
    obtain rfl : r = .bool b := r'
    exact ⟨b, rfl, .bl _, H', I', rfl, q'⟩
def zOwnEq (neg : Bool) (C : Addr) (F : DF) (x y : D) (st : ST) : Res D := match asIns x st, tyQ C y st with
  | some (C', _), some _ => if C' = C then (F [x, y] st).ne.bind (fun r st2 => match r with
    | .bl b => .ok (.bl (if neg then !b else b)) st2
    | _ => .stuck) else .stuck
  | _, _ => .stuck
theorem zOwnEq_ok {C : Addr} {F : DF} {neg : Bool} (cq : ClsQ K C) : Op2 K W (rOwnEq K C F neg) (zOwnEq neg C F) := by
  intro c v w x y Q S r1 r2 P
  unfold zOwnEq at P
  split at P
  · next C' fs t h1 h2 =>
    split at P
    · next hC =>
      subst hC
      obtain ⟨a, dx, vs, rfl, h3, h4⟩ := asIns_ok S r1 h1
      refine ⟨a, dx, vs, _, rfl, h3, tyQ_ok cq S r2 h2, tyQ_not cq h2, c, [x, y], rfl, S, .cons r1 (.cons r2 .nil), rfl, ?_⟩
      refine Post.ne (W := W) ?_
      refine Post.bind P fun v d c4 s4 o4 r4 P4 => ?_
      cases d with
      | bl b => cases r4; exact ⟨b, rfl, P4 _ c4 (Step.refl _) o4 rfl (.bl _)⟩
      | _ => exact P4.elim
    · exact P.elim
  · exact P.elim
/-- x == y, x != y: data, or an instance of the class C ahead -/
def zEq3 (C : Addr) (F : DF) (x y : D) (st : ST) : Res D := match asIns x st with
  | some _ => zOwnEq false C F x y st
  | none => zEq x y st
def zNe3 (C : Addr) (F : DF) (x y : D) (st : ST) : Res D := match asIns x st with
  | some _ => zOwnEq true C F x y st
  | none => zNe x y st
theorem x_eq3 {C : Addr} {j k : Nat} {F : DF} (cq : ClsQ X.K C) (d : Mt X.prog X.w X.K X.mg X.base C "__eq__" j 2 F) (hr : Room k X.A) (hj : j ≤ k) (hu : X.A.units + 64 < cLine) (ha : PX X W a f) (hb : PX X W b g) : PX X W (.Compare a [.Eq] [b] pos) (f2 (zEq3 C F) f g) :=
  px_or2 (fun x y st => by unfold zEq3; split; exact .inl rfl; exact .inr rfl) (x_cmp (op_ownEq d (hr.mono hj)) (zOwnEq_ok cq) ha hb (nomark _)) (x_eq hu ha hb)
theorem x_ne3 {C : Addr} {j k : Nat} {F : DF} (cq : ClsQ X.K C) (d : Mt X.prog X.w X.K X.mg X.base C "__eq__" j 2 F) (hr : Room k X.A) (hj : j + 1 ≤ k) (hu : X.A.units + 64 < cLine) (ha : PX X W a f) (hb : PX X W b g) : PX X W (.Compare a [.NotEq] [b] pos) (f2 (zNe3 C F) f g) :=
  px_or2 (fun x y st => by unfold zNe3; split; exact .inl rfl; exact .inr rfl) (x_cmp (op_ownNe cq d (hr.mono hj)) (zOwnEq_ok cq) ha hb (nomark _)) (x_ne hu ha hb)
end
end Rq
set_option Elab.async false
set_option linter.all false
set_option maxRecDepth 100000
set_option maxHeartbeats 4000000
/-! Rq, part 38: an instance made by keywords alone. -/
namespace Rq
open PySem PySem.Spec PyProof.Rows L2
structure MK0 (P : Program) (w : World) (K : PySem.W.Frag) (mg : Str → Option Value) (base : Heap) (x : Str) (C : Addr) (ks : List Str) (k n : Nat) (F : DF) : Prop where
  ex : ∃ (f : Addr) (fd : FuncData) (ps : List Str), Mk K C f ∧ FnOk P w K mg base CX0 k f fd ps (spF K n F) ∧ mg x = some (.ref C) ∧ KBn K fd ps 1 ks (fun us ws => us ++ ws) (fun us ws => us ++ ws)
section
variable {X : Cx} {W : WX} {e o a b : Expr} {es : List Expr} {pos p apos cpos : Pos} {f g : EF}
theorem x_makeK {x : Str} {C : Addr} {ks : List Str} {k j n : Nat} {Fn : DF} {g : AF} {kws : List Keyword} (d : MK0 X.prog X.w X.K X.mg X.base x C ks j n Fn) (hr : Room k X.A) (hj : j + 1 ≤ k) (hn : ks.length + 1 = n) (ha : PKs X W kws g) (hg : Gl X x := by rfl)
    (hks : (backToKw pos (keywordEach kws X.env)).filterMap (·.1) = ks := by rfl) (hall : ((backToKw pos (keywordEach kws X.env)).all fun x => x.1.isSome) = true := by rfl) (hdb : (x == ("__debug__" : Str)) = false := by decide)
    (hpl : (((backTo pos (starEach [] X.env)).any fun x => x.1) || (backToKw pos (keywordEach kws X.env)).any fun x => x.1.isNone) = false := by rfl) : PX X W (.Call (.Name x p) [] kws pos) (fMake n C Fn g) := by
  obtain ⟨fi, fd, ps, h1, h2, h3, h4⟩ := d.ex
  constructor
  intro pins s σ H Q I w
  have w := tE_make w
  unfold tMake at w
  refine wpAny_Call_Name_kw (ld_glob I hg h3 ?_ hdb)
  refine PySem.W.callWith_KW0 (h₀ := X.base) I.ok.mod.kin h1.kp hall (thn (ha.run pos pins s σ H _ I w) fun ws s1 ⟨vs, H1, I1, r, q⟩ => ⟨I1.kIn, ?_⟩) hpl
  rw [hks]
  have q0 := q (s1.heap.objs.size + 1) s1.heap.objs.size (I1.hok.fresh (Nat.le_succ _)) (I1.hok.fresh (Nat.le_refl _)) (Nat.ne_of_lt (Nat.lt_succ_self _))
  have hl : vs.length = ks.length := by
    obtain ⟨c, ds, _, _, r2, e2, _⟩ := q0
    have e3 := r2.length
    simp only [List.append_nil, List.length_cons] at e3
    omega
  refine run_makeN (us := []) (vs := []) (gV := fun us ws => us ++ ws) h1 h2 (hr.mono hj) h4 pass0 I1 .nil r rfl hl fun x dx g1 g2 g3 => ?_
  have := q x dx g1 g2 g3
  simpa using this
theorem mk0_of {P : Program} {w : World} {K : PySem.W.Frag} {mg : Str → Option Value} {base : Heap} {C : Addr} {qual x : Str} {st : Stmt} {N ps ks : List Str} {k n : Nat} {F : SF} (T : AtM K C "__init__" qual st) (hmk : PySem.W.makesIn K C = true) (hkp : PySem.W.keepIn K (.ref C) = true) (hx : mg x = some (.ref C)) (S : FnScope N ps (defScope st)) (hn : ps.length = n)
    (hb : ∀ (kV doc pm : Value) (an : Option Addr) (cdv ct : Value) (us ws : List Value), us.length = 1 → ws.length = ks.length → bindArgs (PySem.W.fnOf "__init__" qual (defArgs st) (defBody st) (defScope st) .none kV doc pm an cdv ct) ⟨us, ks.zip ws⟩ = pure (ps.zip (us ++ ws)))
    (h : ∀ (fa : Addr) (cdv : Value) (A : Around) (outer : List Env) (s : Shared) (H : Hp) (E : XK), Room k (A.deeper (envOfC qual (defScope st) s.heap.objs.size fa cdv)) →
      PYs (cxOf CX0 P w K mg base N qual (defScope st) fa cdv A outer s H E).nox W0 (defBody st) F) : MK0 P w K mg base x C ks (k + 1) n fun ds st => (bodyF N.length F ds st).ne := by
  obtain ⟨fa, oc, od, an, osl, kV, doc, pm, cdv, ct, h1, h2, h3, h4, h5⟩ := T.ex
  have Fu := fun_mk h3 h4 h5
  exact ⟨fa, _, ps, ⟨hmk, h1, h2, hkp⟩, fnOk_of Fu S hn h, hx, ⟨fun s us ws X l1 l2 => BindsTo.of_eq (hb kV doc pm an cdv ct us ws l1 l2), fun r1 r2 => r1.append r2⟩⟩
theorem xt_eq3 {C : Addr} {j k : Nat} {F : DF} (cq : ClsQ X.K C) (d : Mt X.prog X.w X.K X.mg X.base C "__eq__" j 2 F) (hr : Room k X.A) (hj : j ≤ k) (hu : X.A.units + 64 < cLine) (ha : PX X W a f) (hb : PX X W b g) : XT X W (.Compare a [.Eq] [b] pos) (f2 (zEq3 C F) f g) :=
  xt_or2 (fun x y st => by unfold zEq3; split; exact .inl rfl; exact .inr rfl) (xt_cmp (op_ownEq d (hr.mono hj)) (zOwnEq_ok cq) ha hb (nomark _)) (xt_eq hu ha hb)
theorem xt_ne3 {C : Addr} {j k : Nat} {F : DF} (cq : ClsQ X.K C) (d : Mt X.prog X.w X.K X.mg X.base C "__eq__" j 2 F) (hr : Room k X.A) (hj : j + 1 ≤ k) (hu : X.A.units + 64 < cLine) (ha : PX X W a f) (hb : PX X W b g) : XT X W (.Compare a [.NotEq] [b] pos) (f2 (zNe3 C F) f g) :=
  xt_or2 (fun x y st => by unfold zNe3; split; exact .inl rfl; exact .inr rfl) (xt_cmp (op_ownNe cq d (hr.mono hj)) (zOwnEq_ok cq) ha hb (nomark _)) (xt_ne hu ha hb)
/-! len of an own instance too -/
def zLen3 (C : Addr) (F : DF) : List D → ST → Res D
  | [x], st => match asIns x st with
    | some (C', _) => if C' = C then (F [x] st).ne.bind (fun r st2 => match r with
      | .int i => if 0 ≤ i ∧ i < 2 ^ 63 then .ok (.int i) st2 else .stuck
      | _ => .stuck) else .stuck
    | none => zLen [x] st
  | _, _ => .stuck
theorem x_len3 {C : Addr} {j k : Nat} {F : DF} {g : AF} (d : Mt X.prog X.w X.K X.mg X.base C "__len__" j 1 F) (hr : Room k X.A) (hj : j + 1 ≤ k) (hm : X.mg "len" = none) (ha : PXs X W (e :: es) g) (hg : Gl X "len" := by rfl)
    (he : starEach (e :: es) X.env = (false, eval e X.env) :: starEach es X.env := by rfl) (hpl : (backTo pos (starEach es X.env)).any (·.1) = false := by rfl) : PX X W (.Call (.Name "len" p) (e :: es) [] pos) (fA (zLen3 C F) g) := by
  refine x_bltn (CallR.or (call_ownLen d (hr.mono hj)) call_len) ?_ hm boot_len ha hg (by decide) (by decide) he hpl
  intro c vs ds Q S r P
  unfold zLen3 at P
  split at P
  · next x =>
    split at P
    · next C' fs h1 =>
      split at P
      · next hC =>
        subst hC
        cases r with
        | cons r1 t1 =>
          cases t1
          obtain ⟨a, dx, vs, rfl, h3, h4⟩ := asIns_ok S r1 h1
          refine .inl ⟨a, dx, vs, rfl, h3, c, [x], rfl, S, .cons r1 .nil, rfl, ?_⟩
          refine Post.ne (W := W) ?_
          refine Post.bind P fun v d c4 s4 o4 r4 P4 => ?_
          cases d with
          | int i =>
            cases r4
            dsimp only at P4
            split at P4
            · next hi => exact ⟨i, rfl, hi.1, hi.2, P4 _ c4 (Step.refl _) o4 rfl (.int _)⟩
            · exact P4.elim
          | _ => exact P4.elim
      · exact P.elim
    · exact .inr (zLen_ok c vs [x] Q S r P)
  · exact P.elim
end
end Rq
set_option Elab.async false
set_option linter.all false
set_option maxRecDepth 100000
set_option maxHeartbeats 1000000
/-! Rq, part 39: what may be shown by repr; equal texts. -/
namespace Rq
open PySem PySem.Spec PyProof.Rows L2
structure Fine (d : PyData) (deep w : Nat) : Prop where
  show1 : d.showable = true
  dict : d.hasDict = false
  deep : d.depth ≤ deep
  small : d.weight ≤ w
  short : d.leavesShort 13 = true
structure Fines (ds : List PyData) (deep w : Nat) : Prop where
  show1 : PyData.showableAll ds = true
  dict : PyData.hasDictAll ds = false
  deep : PyData.depthAll ds ≤ deep
  small : PyData.weightAll ds ≤ w
  short : PyData.leavesShortAll 13 ds = true
theorem Fines.nil (deep : Nat) : Fines [] deep 0 := ⟨rfl, rfl, Nat.zero_le _, Nat.le_refl _, rfl⟩
theorem Fines.cons {d : PyData} {ds : List PyData} {deep w v : Nat} (h : Fine d deep w) (t : Fines ds deep v) : Fines (d :: ds) deep (w + 1 + v) := by
  refine ⟨?_, ?_, ?_, ?_, ?_⟩
  · unfold PyData.showableAll; rw [h.show1, t.show1]; rfl
  · unfold PyData.hasDictAll; rw [h.dict, t.dict]; rfl
  · unfold PyData.depthAll; exact Nat.max_le.mpr ⟨h.deep, t.deep⟩
  · unfold PyData.weightAll; have := h.small; have := t.small; omega
  · unfold PyData.leavesShortAll; rw [h.short, t.short]; rfl
theorem Fines.tup {ds : List PyData} {deep w : Nat} (t : Fines ds deep w) : Fine (.tuple ds) (deep + 1) w := by
  refine ⟨?_, ?_, ?_, ?_, ?_⟩
  · unfold PyData.showable; exact t.show1
  · unfold PyData.hasDict; exact t.dict
  · unfold PyData.depth; have := t.deep; omega
  · unfold PyData.weight; exact t.small
  · unfold PyData.leavesShort; exact t.short
theorem Fines.lst {ds : List PyData} {deep w : Nat} (t : Fines ds deep w) : Fine (.list ds) (deep + 1) w := by
  refine ⟨?_, ?_, ?_, ?_, ?_⟩
  · unfold PyData.showable; exact t.show1
  · unfold PyData.hasDict; exact t.dict
  · unfold PyData.depth; have := t.deep; omega
  · unfold PyData.weight; exact t.small
  · unfold PyData.leavesShort; exact t.short
theorem Fines.of {α : Type} {f : α → PyData} {deep w : Nat} : ∀ (l : List α), (∀ a ∈ l, Fine (f a) deep w) → Fines (l.map f) deep ((w + 1) * l.length)
  | [], _ => Fines.nil deep
  | a :: l, h => by
    have := Fines.cons (h a (by simp)) (Fines.of l fun b hb => h b (by simp [hb]))
    rw [List.map_cons, List.length_cons, Nat.mul_succ]
    rw [Nat.add_comm]
    exact this
theorem Fine.le {d : PyData} {deep deep' w w' : Nat} (h : Fine d deep w) (hd : deep ≤ deep') (hw : w ≤ w') : Fine d deep' w' := ⟨h.show1, h.dict, Nat.le_trans h.deep hd, Nat.le_trans h.small hw, h.short⟩
theorem fine_txt {s : Str} {n : Nat} (h : s.length ≤ n) (hc : ∀ c ∈ s.cps.toList, c < 1114112) (deep : Nat) : Fine (.str s) deep n := by
  refine ⟨rfl, rfl, Nat.zero_le _, ?_, ?_⟩
  · unfold PyData.weight; exact h
  · unfold PyData.leavesShort
    rw [List.all_eq_true]
    intro c h1
    have := hc c h1
    exact decide_eq_true (by omega)
theorem fine_non (deep : Nat) : Fine .none deep 13 := ⟨rfl, rfl, Nat.zero_le _, by decide, rfl⟩
theorem fine_bl (b : Bool) (deep : Nat) : Fine (.bool b) deep 13 := by cases b <;> exact ⟨rfl, rfl, Nat.zero_le _, by decide, rfl⟩
theorem fine_nat {n : Nat} (h : n ≤ 1000000) (deep : Nat) : Fine (.int n) deep 21 := by
  have hl : n.log2 < 20 := by
    by_cases h0 : n = 0
    · subst h0; decide
    · exact (Nat.log2_lt h0).mpr (by omega)
  refine ⟨?_, rfl, Nat.zero_le _, ?_, ?_⟩
  · unfold PyData.showable
    exact decide_eq_true (by show n.log2 < 1920; omega)
  · unfold PyData.weight
    split
    · omega
    · show n.log2 + 1 ≤ 21
      omega
  · unfold PyData.leavesShort
    refine decide_eq_true ?_
    show (Str.ofString (toString (n : Int))).cps.size ≤ 13
    rw [← Array.length_toList]
    have e2 : (Str.ofString (toString (n : Int))).cps.toList = TL.numL n := TL.tl_num n
    rw [e2]
    exact Nat.le_trans (TL.numL_len (k := 7) (by decide) (by omega)) (by decide)
theorem reprOk_of {d : PyData} {deep w : Nat} (h : Fine d deep w) (hd : isDisplay d = true) (h1 : deep ≤ 100) (h2 : w ≤ 60000) : reprOk d = true := by
  have h3 := PyData.shown_le 13 (by decide) d h.short
  have h4 := h.small
  have hs : d.shown.length ≤ 1000000 := by omega
  unfold reprOk
  rw [h.show1, h.dict, hd, decide_eq_true hs, decide_eq_true (Nat.le_trans h.deep h1)]
  rfl
theorem repr_of {x : D} {d : PyData} {st : ST} (e : toPyS x st = some d) (h : reprOk d = true) : zRepr2 [x] st = .ok (.str d.shown) st := by
  have hx : ∀ i, x ≠ .int i := by
    intro i hi
    subst hi
    have : toPyS (.int i) st = some (.int i) := rfl
    rw [this] at e
    cases e
    unfold reprOk at h
    simp [isDisplay] at h
  unfold zRepr2
  split
  · next i hh => exact absurd (by cases hh; rfl) (hx i)
  · unfold zRepr
    simp only [e]
    rw [if_pos h]
theorem ne_str_same (s : Str) (st : ST) : zNe (.str s) (.str s) st = .ok (.bl false) st := by
  unfold zNe eqD
  simp
theorem eq_str_same (s : Str) (st : ST) : zEq (.str s) (.str s) st = .ok (.bl true) st := by
  unfold zEq eqD
  simp
theorem eq_str (s t : Str) (st : ST) : zEq (.str s) (.str t) st = .ok (.bl (decide (s = t))) st := rfl
theorem ne_str (s t : Str) (st : ST) : zNe (.str s) (.str t) st = .ok (.bl (!decide (s = t))) st := rfl
end Rq
set_option Elab.async false
set_option linter.all false
set_option maxRecDepth 100000
set_option maxHeartbeats 1000000
/-! Rq, part 40: data: shown, compared. -/
namespace Rq
open PySem PySem.Spec PyProof.Rows L2
def txtOk (s : Str) : Prop := ∀ c ∈ s.cps.toList, c < 1114112
/-- the tree d is the data p, of so many levels, of so great weight -/
structure Dt (d : D) (p : PyData) (deep w : Nat) : Prop where
  py : toPy d = some p
  fine : Fine p deep w
  lay : p.canLay0 = true
structure Dts (ds : List D) (ps : List PyData) (deep w : Nat) : Prop where
  py : toPys ds = some ps
  fine : Fines ps deep w
  lay : PyData.canLayAll0 ps = true
theorem Dt.le {d : D} {p : PyData} {deep deep' w w' : Nat} (h : Dt d p deep w) (hd : deep ≤ deep') (hw : w ≤ w') : Dt d p deep' w' := ⟨h.py, h.fine.le hd hw, h.lay⟩
theorem dt_str {s : Str} {n : Nat} (h : s.length ≤ n) (hc : txtOk s) (deep : Nat) : Dt (.str s) (.str s) deep n := ⟨rfl, fine_txt h hc deep, by
  unfold PyData.canLay0 PyData.strOk
  rw [← Array.all_toList, List.all_eq_true]
  intro c h1
  exact decide_eq_true (by have := hc c h1; omega)⟩
theorem dt_nat {n : Nat} (h : n ≤ 1000000) (deep : Nat) : Dt (.int n) (.int n) deep 21 := ⟨rfl, fine_nat h deep, rfl⟩
theorem dt_non (deep : Nat) : Dt .non .none deep 13 := ⟨rfl, fine_non deep, rfl⟩
theorem dt_bl (b : Bool) (deep : Nat) : Dt (.bl b) (.bool b) deep 13 := ⟨rfl, fine_bl b deep, rfl⟩
theorem dts_nil (deep : Nat) : Dts [] [] deep 0 := ⟨rfl, Fines.nil deep, rfl⟩
theorem Dt.cons {d : D} {p : PyData} {ds : List D} {ps : List PyData} {deep w v : Nat} (h : Dt d p deep w) (t : Dts ds ps deep v) : Dts (d :: ds) (p :: ps) deep (w + 1 + v) := ⟨by unfold toPys; rw [h.py, t.py]; rfl, Fines.cons h.fine t.fine, by unfold PyData.canLayAll0; rw [h.lay, t.lay]; rfl⟩
theorem Dts.tup {ds : List D} {ps : List PyData} {deep w : Nat} (t : Dts ds ps deep w) : Dt (.tup ds) (.tuple ps) (deep + 1) w := ⟨by unfold toPy; rw [t.py]; rfl, t.fine.tup, by unfold PyData.canLay0; exact t.lay⟩
theorem Dts.lst {ds : List D} {ps : List PyData} {deep w : Nat} (t : Dts ds ps deep w) : Dt (.lst ds) (.list ps) (deep + 1) w := ⟨by unfold toPy; rw [t.py]; rfl, t.fine.lst, by unfold PyData.canLay0; exact t.lay⟩
theorem Dts.of {α : Type} {f : α → D} {g : α → PyData} {deep w : Nat} : ∀ (l : List α), (∀ a ∈ l, Dt (f a) (g a) deep w) → Dts (l.map f) (l.map g) deep ((w + 1) * l.length)
  | [], _ => dts_nil deep
  | a :: l, h => by
    have := Dt.cons (h a (by simp)) (Dts.of l fun b hb => h b (by simp [hb]))
    rw [List.map_cons, List.map_cons, List.length_cons, Nat.mul_succ, Nat.add_comm]
    exact this
theorem toPyS_of {d : D} {p : PyData} {st : ST} (h : toPy d = some p) : toPyS d st = some p := by
  cases d with
  | cel k => unfold toPy at h; cases h
  | _ => exact h
theorem shaped_of {p : PyData} {deep w : Nat} (h : p.canLay0 = true) (f : Fine p deep w) (hd : deep ≤ 64) : SeqAt.shaped p = true := by
  unfold SeqAt.shaped
  rw [h, decide_eq_true (Nat.le_trans f.deep hd)]
  rfl
/-- repr of data -/
theorem Dt.repr {d : D} {p : PyData} {deep w : Nat} (h : Dt d p deep w) (hd : isDisplay p = true) (st : ST) (h1 : deep ≤ 100 := by decide) (h2 : w ≤ 60000 := by omega) : zRepr2 [d] st = .ok (.str p.shown) st :=
  repr_of (toPyS_of h.py) (reprOk_of h.fine hd h1 h2)
/-- == of lists or tuples -/
theorem eqD_data {x y : D} {p q : PyData} {deep w deep' w' : Nat} {st : ST} (hx : Dt x p deep w) (hy : Dt y q deep' w') (h1 : isDisplay p = true) (d1 : deep ≤ 64 := by decide) (d2 : deep' ≤ 64 := by decide) : eqD x y st = some (PyData.eqv p q) := by
  have s1 := shaped_of hx.lay hx.fine d1
  have s2 := shaped_of hy.lay hy.fine d2
  have key : (toPyS x st).bind (fun p => (toPyS y st).bind fun q => if SeqAt.shaped p && SeqAt.shaped q then some (PyData.eqv p q) else none) = some (PyData.eqv p q) := by
    rw [toPyS_of hx.py, toPyS_of hy.py]
    show (if SeqAt.shaped p && SeqAt.shaped q then some (PyData.eqv p q) else none) = _
    rw [s1, s2]
    rfl
  cases x with
  | lst xs => exact key
  | lsr xs => exact key
  | tup xs => exact key
  | cel k => have := hx.py; unfold toPy at this; cases this
  | dct k => have := hx.py; unfold toPy at this; cases this
  | ins k f => have := hx.py; unfold toPy at this; cases this
  | raw k => have := hx.py; unfold toPy at this; cases this
  | exc k f => have := hx.py; unfold toPy at this; cases this
  | fn k f g u v => have := hx.py; unfold toPy at this; cases this
  | non => have := hx.py; unfold toPy at this; cases this; cases h1
  | bl b => have := hx.py; unfold toPy at this; cases this; cases h1
  | int b => have := hx.py; unfold toPy at this; cases this; cases h1
  | str b => have := hx.py; unfold toPy at this; cases this; cases h1
theorem eq_data {x y : D} {p q : PyData} {deep w deep' w' : Nat} {st : ST} (hx : Dt x p deep w) (hy : Dt y q deep' w') (h1 : isDisplay p = true) (d1 : deep ≤ 64 := by decide) (d2 : deep' ≤ 64 := by decide) : zEq x y st = .ok (.bl (PyData.eqv p q)) st := by
  unfold zEq
  rw [eqD_data hx hy h1 d1 d2]
theorem ne_data {x y : D} {p q : PyData} {deep w deep' w' : Nat} {st : ST} (hx : Dt x p deep w) (hy : Dt y q deep' w') (h1 : isDisplay p = true) (d1 : deep ≤ 64 := by decide) (d2 : deep' ≤ 64 := by decide) : zNe x y st = .ok (.bl (!PyData.eqv p q)) st := by
  unfold zNe
  rw [eqD_data hx hy h1 d1 d2]
theorem eqv_all {α : Type} [DecidableEq α] {g : α → PyData} : ∀ (as bs : List α), (∀ a ∈ as, ∀ b ∈ bs, PyData.eqv (g a) (g b) = decide (a = b)) → PyData.eqvAll (as.map g) (bs.map g) = decide (as = bs)
  | [], [], _ => rfl
  | [], b :: bs, _ => rfl
  | a :: as, [], _ => rfl
  | a :: as, b :: bs, h => by
    rw [List.map_cons, List.map_cons]
    unfold PyData.eqvAll
    rw [h a (by simp) b (by simp), eqv_all as bs fun x hx y hy => h x (by simp [hx]) y (by simp [hy])]
    by_cases h1 : a = b
    · by_cases h2 : as = bs
      · subst h1; subst h2; simp
      · simp [h2]
    · simp [h1]
theorem eqv_str (a b : Str) : PyData.eqv (.str a) (.str b) = decide (a = b) := by
  unfold PyData.eqv
  by_cases h : a = b
  · subst h; simp
  · rw [decide_eq_false h]; exact beq_false_of_ne h
theorem eqv_int (a b : Int) : PyData.eqv (.int a) (.int b) = decide (a = b) := by
  unfold PyData.eqv
  by_cases h : a = b
  · subst h; simp
  · rw [decide_eq_false h]; exact beq_false_of_ne h
theorem eqv_nat (a b : Nat) : PyData.eqv (.int (a : Nat)) (.int (b : Nat)) = decide (a = b) := by
  rw [eqv_int]
  by_cases h : a = b
  · subst h; simp
  · rw [decide_eq_false h, decide_eq_false (by omega)]
theorem zNe_bl (a b : Bool) (st : ST) : zNe (.bl a) (.bl b) st = .ok (.bl (!decide (a = b))) st := rfl
end Rq
set_option Elab.async false
set_option linter.all false
set_option maxRecDepth 100000
set_option maxHeartbeats 4000000
/-! Rq, part 41: errors raised, defs that may raise. -/
namespace Rq
open PySem PySem.Spec PyProof.Rows L2
/-- what the written part says of the error class x -/
structure ErrC (K : PySem.W.Frag) (x : Str) (C : Addr) : Prop where
  ns : PySem.W.nsIn K mainGlobals x = some (some (.ref C))
  oex : OexC K C
  noV : PySem.W.findIn K (.ref C) "value" = some none
/-- what the errors' own __init__ does -/
def spErr (K : PySem.W.Frag) : Sp := fun vs H Q _ => ∃ (a C : Addr) (y : V), vs = [.ref a, y] ∧ OexC K C ∧ PySem.W.findIn K (.ref C) "value" = some none ∧ H a = some (exo a C none) ∧
  ∀ dx, H dx = none → dx ≠ a → Q .non (upd (upd H dx (exd dx [("value", y)])) a (exo a C (some dx)))
structure InitE (P : Program) (w : World) (K : PySem.W.Frag) (mg : Str → Option Value) (base : Heap) (C : Addr) (k : Nat) : Prop where
  ex : ∃ (f : Addr) (fd : FuncData) (ps : List Str), PySem.W.findIn K (.ref C) "__init__" = some (some (.ref f)) ∧ PySem.W.typeIn K (.ref f) = some (.type "function") ∧ FnOk P w K mg base CX0 k f fd ps (spErr K) ∧ Binds K fd ps []
section
variable {P : Program} {w : World} {K : PySem.W.Frag} {mg : Str → Option Value} {base : Heap} {C : Addr} {qual x : Str} {st : Stmt} {N ps : List Str} {k n : Nat} {F : SF}
/-- def __init__(self, value): self.value = value -/
theorem init_err {fI : Addr} {fd : FuncData} {p1 p2 p3 p4 : Pos} (h1 : PySem.W.findIn K (.ref C) "__init__" = some (some (.ref fI))) (h2 : PySem.W.typeIn K (.ref fI) = some (.type "function")) (Fu : Fun K "__init__" qual st fI fd) (S : FnScope ["self", "value"] ["self", "value"] (defScope st))
    (hb : Binds K fd ["self", "value"] []) (hbody : defBody st = [.Assign [.Attribute (.Name "self" p1) "value" p2] (.Name "value" p3) p4]) (l0 : (defScope st).names.lookup ("self" : Str) = some NameKind.local) (l1 : (defScope st).names.lookup ("value" : Str) = some NameKind.local) : InitE P w K mg base C 1 := by
  refine ⟨fI, fd, _, h1, h2, ?_, hb⟩
  refine Fu.ok S (fun vs H Q E h => ?_) (fun cdv A outer s H vs Q E hr hs => ?_)
  · obtain ⟨a, C', y, rfl, _⟩ := h; rfl
  · obtain ⟨a, C', y, rfl, o, nv, ha, q⟩ := hs
    rw [hbody]
    refine ⟨_, pss_one (ps_ost (pe_var (i := 0) rfl (.inl l0)) (pe_var (i := 1) rfl (.inl l1))), ?_⟩
    refine ⟨y, rfl, .ref a, rfl, a, C', rfl, o, nv, .inl ⟨ha, fun dx hdx ne => q dx hdx ne⟩⟩
end
/-- a def that may raise, its errors' contexts None -/
theorem okN {P : Program} {w : World} {K : PySem.W.Frag} {mg : Str → Option Value} {base : Heap} {x qual : Str} {st : Stmt} {f : Addr} {fd : FuncData} {N ps : List Str} {k : Nat} {sp : Sp} (F : Fun K x qual st f fd) (S : FnScope N ps (defScope st)) (len : ∀ vs H Q E, sp vs H Q E → vs.length = ps.length)
    (hbody : ∀ (cdv : Value) (A : Around) (outer : List Env) (s : Shared) (H : Hp) (vs : List V) (Q : VK) (E : XK), Room k (A.deeper (envOfC qual (defScope st) s.heap.objs.size f cdv)) → sp vs H Q E →
      ∃ t, PSs (cxOf (L2N.CX P w) P w K mg base N qual (defScope st) f cdv A outer s H E) (defBody st) t ∧ t { nx := fun _ H' => Q .non H', rt := Q } (L2.start N vs) H) : FnOk P w K mg base (L2N.CX P w) (k + 1) f fd ps sp := by
  obtain ⟨oc, od, kV, doc, pm, an, cdv, ct, osl, rfl, lk, hcd⟩ := F.ex
  exact fn_of lk hcd S len fun A outer s H vs Q E hr hsp => hbody cdv A outer s H vs Q E hr hsp
/-- x(e): an error of a class of the program, its context None -/
theorem pmk_oexN {X : Cx} {CX : CXT} {x : Str} {e : Expr} {es : List Expr} {ta : TA} {p pos : Pos} {C fI : Addr} {k : Nat} {fd : FuncData} {ps : List Str} {sp : Sp} {ds : List Value} {dvs : List V} (T : OexC X.K C) (iC : PySem.W.findIn X.K (.ref C) "__init__" = some (some (.ref fI))) (tI : PySem.W.typeIn X.K (.ref fI) = some (.type "function"))
    (F1 : FnOk X.prog X.w X.K X.mg X.base CX k fI fd ps sp) (hr : Room (k + 1) X.A) (hb : Binds X.K fd ps ds) (hd : Vals dvs ds) (hx : Passes CX X (fun _ _ _ => False)) (hg : Gl X x) (hm : X.mg x = some (.ref C)) (ha : PA X (e :: es) ta)
    (hdb : (x == ("__debug__" : Str)) = false := by decide) (he : starEach (e :: es) X.env = (false, eval e X.env) :: starEach es X.env := by rfl) (hpl : (backTo pos (starEach es X.env)).any (·.1) = false := by rfl) :
    L2N.PMk X (.Call (.Name x p) (e :: es) [] pos) (tMkO C sp dvs ta) := by
  intro pins s σ H Q I h
  obtain ⟨_, _, _, _, bm, _, _, _, _, _, _, _, _, _, _, hC, hbm⟩ := T.cls
  refine wpAny_Call_Name_kw (ld_glob I hg hm ?_ hdb)
  refine PySem.W.callWith_K (h₀ := X.base) I.ok.mod.kin T.kC (thn (ha.run pos pins s σ H _ I h) fun us s1 ⟨vs, H1, I1, r1, hz, q1⟩ => ⟨I1.kIn, ?_⟩) he hpl
  obtain ⟨hp, g, dr, tk, os⟩ := s1
  have up1 : hp.objs.size ≤ hp.objs.size + 1 := Nat.le_succ _
  have fr1 : H1 (hp.objs.size + 1) = none := I1.hok.fresh up1
  have q2 := q1 (hp.objs.size + 1) fr1
  have kept : ∀ b o, hp.get? b = some o → ((hp.push (PySem.W.kdv_tup us)).push (PySem.HandSPX.excO C hp.objs.size)).get? b = some o := fun b o e => Heap.get?_push_of_some _ (Heap.get?_push_of_some _ e)
  have self_ : ((hp.push (PySem.W.kdv_tup us)).push (PySem.HandSPX.excO C hp.objs.size)).get? (hp.objs.size + 1) = some (PySem.HandSPX.excO C hp.objs.size) := by heap_get
  have I2 := I1.laid (t' := tk) (a := hp.objs.size + 1) (o := exo (hp.objs.size + 1) C none) (h' := (hp.push (PySem.W.kdv_tup us)).push (PySem.HandSPX.excO C hp.objs.size)) kept up1 (exo_ok self_)
  have rr : Vals (V.ref (hp.objs.size + 1) :: (vs ++ dvs)) (Value.ref (hp.objs.size + 1) :: (us ++ ds)) := .cons rfl (r1.append hd)
  have len : (Value.ref (hp.objs.size + 1) :: us ++ ds).length = ps.length := by
    have e1 := rr.length
    rw [F1.len _ _ _ _ q2] at e1
    exact e1.symm
  have small : us.length ≤ sizeLine := by
    rw [← Paired.length r1, sizeLine_eq]
    omega
  show wpAny _ _ (call (.ref C) us) _ _ _
  refine wpAny_call (PySem.HandSPX.call_own F.excBase_ValueError (fun Y => PySem.HandSPX.refsVE_contains Y bm hbm) (I1.kIn _ _ hC) (PySem.W.looks_findIn I1.kIn iC) (fun self => PySem.W.bind_fn I1.kIn self tI) small
    (codeAny_mono (F1.run _ X.stack _ _ ⟨Value.ref (hp.objs.size + 1) :: us, []⟩ (Value.ref (hp.objs.size + 1) :: (us ++ ds)) _ _ (fun _ _ _ => False) (hr.make C us []) (I2.env0.make C us []) (hb _ (Value.ref (hp.objs.size + 1) :: us) I2.kIn len) rr q2) fun r s' hq' => ?_))
  cases r with
  | error er => exact hx pins σ _ _ er s' I2 hq'
  | ok fl =>
    cases fl with
    | ret u =>
      obtain ⟨v, H2, os2, bare2, un2, hok2, rv, ev, d, fs, ea, ed, hd1, q3⟩ := hq'
      subst ev
      obtain ⟨h2, g2, d2, t2, os'⟩ := s'
      obtain ⟨t0, G, J, kG, ge, hoe, na⟩ := mk_end0 (d2 := d2) (t2 := t2) I1 up1 kept un2 hok2 os2 bare2 ea ed hd1
      exact ⟨rv, hp.objs.size + 1, _, _, ⟨G, g2, d2, t2, os'⟩, _, .ref C, some d, rfl, J, kG, ge, hoe, ⟨rfl, rfl, fun vs e => by cases e; rfl⟩, rfl, rfl, na, rfl, bare2, raises_own T.exC T.tyC, q3⟩
    | next => exact False.elim hq'
    | brk => exact False.elim hq'
    | cont => exact False.elim hq'
/-! ### raise -/
def fRaise (x : Str) (f : EF) : SF := fun sl st => (f sl st).bind fun d st1 => .err x d sl st1
section
variable {X : Cx} {W : WX} {e o a b : Expr} {es : List Expr} {pos p p2 apos cpos : Pos} {f g : EF}
theorem y_raise {x : Str} {C : Addr} {j k : Nat} (hc : X.calm = true) (tk : L2N.Takes X W) (q : ErrC X.K x C) (i : InitE X.prog X.w X.K X.mg X.base C j) (hr : Room k X.A) (hj : j + 1 ≤ k) (hm : X.mg x = some (.ref C)) (ha : PX X W e f) (hg : Gl X x := by rfl)
    (hdb : (x == ("__debug__" : Str)) = false := by decide) (he : starEach [e] X.env = [(false, eval e X.env)] := by rfl) (hpl : (backTo pos (starEach [] X.env)).any (·.1) = false := by rfl) :
    PY X W (.Raise (some (.Call (.Name x p) [e] [] pos)) none p2) (fRaise x f) := by
  obtain ⟨fI, fd, ps, i1, i2, i3, i4⟩ := i.ex
  refine ps_imp (L2N.ps_raise hc tk (pmk_oexN (ds := []) (dvs := []) q.oex i1 i2 i3 (hr.mono hj) i4 .nil pass0 hg hm (xs_cons ha xs_nil he) hdb he hpl)) fun E σ H w => ?_
  obtain ⟨c, sl, rfl, S, L, P⟩ := w
  unfold tMkO
  refine ⟨c, sl, rfl, S, L, ?_⟩
  unfold fRaise at P
  unfold fCons fNil
  cases hq : f sl c.st with
  | stuck => rw [hq] at P; exact P.elim
  | err x' d sl' st' => rw [hq] at P; exact P
  | ok d st1 =>
    rw [hq] at P
    intro vs c1 s1 o1 e1 r1
    cases r1 with
    | cons r1 t =>
      cases t
      rename_i v
      refine ⟨by simp, fun a ha => ⟨a, C, v, rfl, q.oex, q.noV, upd_same, fun dx hdx ne => ?_⟩⟩
      have hdx1 : c1.H dx = none := by rw [upd_ne ne] at hdx; exact hdx
      refine ⟨rfl, dx, [("value", v)], upd_same, by rw [upd_ne ne, upd_same], hdx1, ?_⟩
      obtain ⟨o2, s2⟩ := Cf.fix (p := dx) (o := .xd [("value", v)]) o1 hdx1
      have eH : upd (del (upd (upd (upd c1.H a (exo a C none)) dx (exd dx [("value", v)])) a (exo a C (some dx))) a) dx (.xd [("value", v)]) = upd c1.H dx (.xd [("value", v)]) := by
        funext b
        by_cases hb : b = dx
        · rw [hb, upd_same, upd_same]
        · rw [upd_ne hb, upd_ne hb]
          by_cases hb2 : b = a
          · rw [hb2, del_same, ha]
          · rw [del_ne hb2, upd_ne hb2, upd_ne hb, upd_ne hb2]
      show W (.ref C) (some dx) σ (upd (del _ a) dx (.xd [("value", v)]))
      rw [eH]
      exact P C _ dx v σ q.ns (s1.trans s2) o2 e1 ((s1.trans s2).sl L) upd_same (s2.dr r1)
end
/-! ### defs that may raise -/
structure DX (P : Program) (w : World) (K : PySem.W.Frag) (mg : Str → Option Value) (base : Heap) (x : Str) (st : Stmt) (ps : List Str) (k n : Nat) (F : DF) : Prop where
  ex : ∃ (fa : Addr) (kV doc pm : Value) (an : Option Addr) (cdv ct : Value), FnOk P w K mg base (L2N.CX P w) k fa (PySem.W.fnOf x x (defArgs st) (defBody st) (defScope st) .none kV doc pm an cdv ct) ps (spF K n F) ∧ mg x = some (.ref fa) ∧ PySem.W.keepIn K (.ref fa) = true ∧
    Binds K (PySem.W.fnOf x x (defArgs st) (defBody st) (defScope st) .none kV doc pm an cdv ct) ps []
section
variable {P : Program} {w : World} {K : PySem.W.Frag} {mg : Str → Option Value} {base : Heap} {x : Str} {st : Stmt} {N ps : List Str} {k n : Nat} {F : SF}
theorem dx_of (T : At K mg x st) (S : FnScope N ps (defScope st)) (hn : ps.length = n)
    (hb : ∀ (kV doc pm : Value) (an : Option Addr) (cdv ct : Value) (us : List Value), us.length = ps.length → bindArgs (PySem.W.fnOf x x (defArgs st) (defBody st) (defScope st) .none kV doc pm an cdv ct) ⟨us, []⟩ = pure (ps.zip us))
    (h : ∀ (fa : Addr) (cdv : Value) (A : Around) (outer : List Env) (s : Shared) (H : Hp) (E : XK), Room k (A.deeper (envOfC x (defScope st) s.heap.objs.size fa cdv)) →
      PYs (cxOf (L2N.CX P w) P w K mg base N x (defScope st) fa cdv A outer s H E) (fun cls d _ H => E cls d H) (defBody st) F) : DX P w K mg base x st ps (k + 1) n (bodyF N.length F) := by
  obtain ⟨fa, oc, od, an, osl, kV, doc, pm, cdv, ct, h1, h2, h3, h4⟩ := T.ex
  have Fu := fun_mk h2 h3 h4
  refine ⟨fa, kV, doc, pm, an, cdv, ct, ?_, h1, h4, Fu.binds hb⟩
  refine okN Fu S (fun vs H Q E h => ?_) (fun cdv A outer s H vs Q E hr hs => ?_)
  · obtain ⟨c, ds, _, _, r, e, _⟩ := h
    rw [r.length, e, hn]
  · obtain ⟨c, ds, rfl, o, r, e, P⟩ := hs
    refine ⟨_, h fa cdv A outer s c.H E hr, c, _, rfl, o, SlR.start r, ?_⟩
    show PostS K _ c _ (F _ c.st)
    unfold bodyF at P
    cases q : F (ds.map some ++ List.replicate (N.length - ds.length) none) c.st with
    | stuck => rw [q] at P; exact P
    | err C d sl st => rw [q] at P; exact fun C0 c' dx v σ' hx s0 o0 e0 l0 g0 r0 => P C0 c' dx v σ' hx s0 o0 e0 l0 g0 r0
    | ok fl st1 =>
      rw [q] at P
      intro c1 s1 o1 e1
      subst e1
      cases fl with
      | nx sl => exact fun σ' L' => P .non c1 s1 o1 rfl .non
      | rt d => exact fun v r => P v c1 s1 o1 rfl r
      | bk sl => exact P.elim
      | ct sl => exact P.elim
end
def Res.at {α : Type} (sl : SL) : Res α → Res α
  | .err x d _ st => .err x d sl st
  | r => r
theorem Post.at {K : PySem.W.Frag} {W : WX} {α β : Type} {c : Cf} {Rl : Cf → β → α → Prop} {Q : β → Hp → Prop} {r : Res α} {sl : SL} {σ : L2.St} (L : c.SlR K σ sl) (P : Post K W c Rl Q (r.at sl)) : Post K (fun C d _ H => WE W σ C d H) c Rl Q r := by
  cases r with
  | ok d st => exact P
  | err C d sl' st => exact fun C0 c' dx v σ' hx s o e l g r => P C0 c' dx v σ hx s o e (s.sl L) g r
  | stuck => exact P.elim
def fCallR (n : Nat) (F : DF) (g : AF) : EF := fun sl st => (g sl st).bind fun ds st1 => bif ds.length == n then (F ds st1).at sl else .stuck
def fCallRK (ix : List Nat) (n : Nat) (F : DF) (g : AF) : EF := fun sl st => (g sl st).bind fun ds st1 => bif (permL ix ds).length == n then (F (permL ix ds) st1).at sl else .stuck
section
variable {X : Cx} {W : WX} {e o a b : Expr} {es : List Expr} {pos p apos cpos : Pos} {f g : EF}
theorem x_dx {x : Str} {st : Stmt} {ps : List Str} {k j n : Nat} {Fn : DF} {g : AF} (tk : L2N.Takes X W) (d : DX X.prog X.w X.K X.mg X.base x st ps j n Fn) (hr : Room k X.A) (hj : j ≤ k) (ha : PXs X W (e :: es) g) (hg : Gl X x := by rfl) (hdb : (x == ("__debug__" : Str)) = false := by decide)
    (he : starEach (e :: es) X.env = (false, eval e X.env) :: starEach es X.env := by rfl) (hpl : (backTo pos (starEach es X.env)).any (·.1) = false := by rfl) : PX X W (.Call (.Name x p) (e :: es) [] pos) (fCallR n Fn g) := by
  obtain ⟨fa, kV, doc, pm, an, cdv, ct, h1, h2, h3, h4⟩ := d.ex
  refine pe_imp (pe_callS (E := WE W) h1 (hr.mono hj) hg h2 h3 h4 (fun σ => L2N.passAt tk σ) ha hdb he hpl) fun σ H Q w => ?_
  obtain ⟨c, sl, rfl, S, L, P⟩ := w
  refine ⟨c, sl, rfl, S, L, Post.bind P fun vs ds c1 s1 o1 r1 P1 => ?_⟩
  cases hn : (ds.length == n) with
  | false => rw [hn] at P1; exact P1.elim
  | true =>
    rw [hn] at P1
    exact ⟨c1, ds, rfl, o1, r1, eq_of_beq hn, Post.at (s1.sl L) P1⟩
theorem runFS {pins : List (Addr × Obj)} {σ : L2.St} {H : Hp} {s : Shared} {Q : VK} {args : Args} {us : List Value} {vs : List V} {CX : CXT} {k : Nat} {f : Addr} {fd : FuncData} {ps : List Str} {sp : Sp} {E : XK} {A : Around} (F : FnOk X.prog X.w X.K X.mg X.base CX k f fd ps sp) (hA : A.frames = X.A.frames) (hr : Room k A)
    (hb : BindsTo s fd args (ps.zip us)) (hx : PassesAt CX X σ E) (I : Inv X pins σ H s) (r : Vals vs us) (h : sp vs H Q E) : wpAny (model X.prog X.w) A (call (.ref f) args.pos args.kw) (EP X pins σ Q) X.xe s := by
  have e0 := I.env0
  refine wpAny_call (codeAny_mono (F.run A X.stack s H args us vs Q E hr ⟨by rw [hA]; exact e0.frames, e0.mod, e0.bs, e0.bsz, e0.funs, e0.frf, e0.hok, e0.bare⟩ hb r h) ?_)
  intro res s2 q
  match res with
  | .error er => exact hx pins H s er s2 I q
  | .ok (.ret u) => exact I.after q
  | .ok .next => exact False.elim q
  | .ok .brk => exact False.elim q
  | .ok .cont => exact False.elim q
theorem x_dkx {x : Str} {st : Stmt} {ps ks : List Str} {k j n : Nat} {Fn : DF} {g : AF} {kws : List Keyword} (ix : List Nat) (tk : L2N.Takes X W) (d : DX X.prog X.w X.K X.mg X.base x st ps j n Fn) (hr : Room k X.A) (hj : j ≤ k) (ha : PKs X W kws g)
    (hb : ∀ (kV doc pm : Value) (an : Option Addr) (cdv ct : Value) (ws : List Value), (permL ix ws).length = ps.length → bindArgs (PySem.W.fnOf x x (defArgs st) (defBody st) (defScope st) .none kV doc pm an cdv ct) ⟨[], ks.zip ws⟩ = pure (ps.zip (permL ix ws)))
    (hg : Gl X x := by rfl) (hks : (backToKw pos (keywordEach kws X.env)).filterMap (·.1) = ks := by rfl) (hall : ((backToKw pos (keywordEach kws X.env)).all fun x => x.1.isSome) = true := by rfl) (hdb : (x == ("__debug__" : Str)) = false := by decide)
    (hpl : (((backTo pos (starEach [] X.env)).any fun x => x.1) || (backToKw pos (keywordEach kws X.env)).any fun x => x.1.isNone) = false := by rfl) : PX X W (.Call (.Name x p) [] kws pos) (fCallRK ix n Fn g) := by
  obtain ⟨fa, kV, doc, pm, an, cdv, ct, h1, h2, h3, h4⟩ := d.ex
  constructor
  intro pins s σ H Q I w
  obtain ⟨c, sl, rfl, S, L, P⟩ := w
  refine wpAny_Call_Name_kw (ld_glob I hg h2 ?_ hdb)
  refine PySem.W.callWith_KW0 (h₀ := X.base) I.ok.mod.kin h3 hall (thn (ha.run pos pins s σ c.H (fun vs H1 => spF X.K n Fn (permL ix vs) H1 Q (WE W σ)) I ⟨c, sl, rfl, S, L, ?_⟩) ?_) hpl
  · refine Post.bind P fun vs ds c1 s1 o1 r1 P1 => ?_
    cases hn : ((permL ix ds).length == n) with
    | false => rw [hn] at P1; exact P1.elim
    | true =>
      rw [hn] at P1
      exact ⟨c1, _, rfl, o1, drs_perm r1 ix, eq_of_beq hn, Post.at (s1.sl L) P1⟩
  · rintro ws s1 ⟨vs, H1, I1, r, q⟩
    refine ⟨I1.kIn, ?_⟩
    have rr := vals_perm r ix
    have ll : (permL ix ws).length = ps.length := by rw [← rr.length]; exact h1.len _ _ _ _ q
    rw [hks]
    exact runFS (args := ⟨[], ks.zip ws⟩) h1 rfl (hr.mono hj) (BindsTo.of_eq (hb kV doc pm an cdv ct ws ll)) (L2N.passAt tk σ) I1 rr q
end
end Rq
set_option Elab.async false
set_option linter.all false
set_option maxRecDepth 100000
set_option maxHeartbeats 4000000
/-! Rq, part 42: try: body, except x as n: suite; the caught error is a tracked object. -/
namespace Rq
open PySem PySem.Spec PyProof.Rows L2
section
variable {X : Cx} {pins : List (Addr × Obj)} {σ : L2.St} {H : Hp} {s : Shared} {a : Addr} {o : HO}
/-- an object that came later than the frame is tracked from now on -/
theorem track (I : L2.Inv X pins σ H s) (n : H a = none) (n0 : X.s_0.heap.get? a = none) (nl : a ≠ X.env.locals) (nc : ∀ v, ¬ s.heap.IsCell a v) (np : ∀ p ∈ X.pn ++ pins, p.1 ≠ a) (new : ObjOk X.prog X.w (upd H a o) s.heap a o) : L2.Inv X pins σ (upd H a o) s where
  ok := I.ok
  os := I.os
  bare := I.bare
  base := {
    keep := I.base.keep
    slot := I.base.slot
    free := fun b u e1 e2 e3 => by
      rw [upd_ne fun z => by rw [z, n0] at e1; cases e1]
      exact I.base.free b u e1 e2 e3
    there := I.base.there
    tups := fun b xs e => by
      have q := I.base.tups b xs e
      rw [upd_ne (ne_of_none q n)]; exact q
    frzs := fun b u v e => by
      have q := I.base.frzs b u v e
      rw [upd_ne (ne_of_none q n)]; exact q
    tbls := fun b ps e => by
      obtain ⟨m, q⟩ := I.base.tbls b ps e
      exact ⟨m, by rw [upd_ne (ne_of_none q n)]; exact q⟩ }
  loc := I.loc
  cell := I.cell
  free := by rw [upd_ne fun z => nl z.symm]; exact I.free
  freeC := fun y c e => by
    obtain ⟨v, q⟩ := I.cell y c e
    rw [upd_ne fun z => nc v (by rw [← z]; exact q)]
    exact I.freeC y c e
  pin := fun p hp => by
    obtain ⟨q1, q2, q3⟩ := I.pin p hp
    exact ⟨q1, by rw [upd_ne (np p hp)]; exact q2, q3⟩
  hok := HOk.laidN I.hok (fun _ _ z => z) n new
  len := I.len
theorem exv_ok {P : Program} {w : World} {h : Heap} {C dx : Addr} {oe : Obj} {us : Array Value} (e : h.get? a = some oe) (z : L2N.Zn (.ref C) (some dx) oe) (d : oe.data = .fields us) : ObjOk P w H h a (exv a C dx) :=
  ⟨⟨oe, us, e, z, d⟩, ⟨oe, e⟩, fun h1 h2 ⟨oe', us', q1, q2, q3⟩ k => ⟨oe', us', k _ q1, q2, q3⟩⟩
end
/-- what stands behind an except suite: the name goes -/
def dropN (i : Nat) (D : Ends) : Ends := { nx := fun σ' H' => D.nx (σ'.set i none) H', rt := D.rt, bk := fun σ' H' => D.bk (σ'.set i none) H', ct := fun σ' H' => D.ct (σ'.set i none) H' }
/-- what 'except x as n' wishes of an error of the body -/
def wTry (K : PySem.W.Frag) (c : Value) (i : Nat) (ts : Addr → TS) (D : Ends) : WX := fun cls d σ H =>
  ∃ C dx : Addr, cls = .ref C ∧ d = some dx ∧ PySem.W.exmOne K cls c = some true ∧ ∀ a, H a = none → ts a (dropN i D) (σ.set i (some (.ref a))) (upd H a (exv a C dx))
section
variable {X : Cx} {x n : Str} {c : Value} {i : Nat} {body suite : List Stmt} {b₀ : Stmt} {np pos pos' : Pos} {tb : WX → TS} {ts : Addr → TS}
theorem ps_tryT (hs : X.stack = X.env :: X.outer) (hf : X.env.frame = some X.env.locals) (hex : X.ex = []) (hN : X.N.Nodup) (hi : X.N[i]? = some n) (hln : X.env.kindOf n = some .local) (hc : Names X x c)
    (hb : ∀ (W : WX) (pn : List (Addr × Obj)) (xe : Value → Shared → Prop), L2N.Takes (X.tr pn xe) W → PassesOwn (model X.prog X.w) X.A X.env xe → PSs (X.tr pn xe) body (tb W))
    (hsu : ∀ (a : Addr) (pn : List (Addr × Obj)), PSs (X.suite a pn) (b₀ :: suite) (ts a)) :
    PS X (.Try body [.ExceptHandler (some (.Name x np)) (some n) (b₀ :: suite) pos'] [] [] pos) (fun D σ H => tb (wTry X.K c i ts D) D σ H) := by
  refine ⟨fun pins s σ H D I h => ?_⟩
  have okX := I.ok
  have frX : X.A.frames = some (X.env :: X.outer) := okX.frames.trans (by rw [hs])
  refine wpAny_Try_except (wpAny_mono ((hb (wTry X.K c i ts D) (X.pn ++ pins) (fun er sA => wpAny (model X.prog X.w) X.A (noteFrame er X.env) (fun _ sB => wpAny (model X.prog X.w) X.A (setFlight er none) (fun _ sC =>
    wpAny (model X.prog X.w) X.A (handleBy er X.env [.ExceptHandler (some (.Name x np)) (some n) (b₀ :: suite) pos']) (SP X pins D) X.xe sC) X.xe sB) X.xe sA) (fun u sZ air => ?_) PassesOwn.looking).run [] s σ H D (I.toTry _) h) (fun fl sN hsp => ?_) (fun er sE he => he))
  · obtain ⟨a, B, sI, pins', σ', H', cls, d, rfl, JT, nb, up, sky, na, os, ag, C, dx, rfl, rfl, hyes, hsuite⟩ := air
    have J : L2.Inv X pins σ' H' sI := JT.ofTry okX
    have skyX : Sky B (X.env :: X.outer) a (L2N.Zn (.ref C) (some dx)) X.env.locals sZ.heap := by rw [← hs]; exact sky
    show wpAny (model X.prog X.w) X.A (noteFrame (.ref a) X.env) _ _ _
    refine L2N.Sky.land L2N.Zn.steady frX hf skyX fun hA flA upA => ?_
    have JA : L2.Inv X pins σ' H' { sZ with heap := hA } := J.landed nb flA.1 (up.trans upA) os ag
    obtain ⟨oA, vA, eA, zA, dA⟩ := flA.there
    have apart : ∀ {hh : Heap} {oo : Obj} {vv : Array Value}, hh.FunFrames B (X.env :: X.outer) → hh.get? a = some oo → oo.data = .fields vv → a ∉ frs (X.env :: X.outer) := fun {hh oo vv} ff e1 e2 hm => by
      obtain ⟨_, oF, eF, nF⟩ := ff.mem hm
      rw [e1] at eF; cases eF
      exact nF _ e2
    have aF := apart flA.2.2.1 eA dA
    have aL : a ≠ X.env.locals := fun z => aF (List.mem_filterMap.mpr ⟨X.env, List.mem_cons_self, by rw [hf, z]⟩)
    have aO : a ∉ X.fs := fun hm => by
      obtain ⟨fr, hfr, q⟩ := List.mem_filterMap.mp hm
      exact aF (List.mem_filterMap.mpr ⟨fr, List.mem_cons_of_mem _ hfr, q⟩)
    have SA := JA.suite eA dA na aL aO
    refine wpAny_handleBy_cons (codeAny_handlers_test ?_) (by intro q; cases q)
    have LT : PySem.W.Looks (model X.prog X.w) hA (typeOf (.ref a)) (.ref C) := fun A0 Q0 E0 s0 kk q => wpAny_typeOf_ref (kk _ _ eA) (by rw [zA.1]; exact q)
    have LM := PySem.W.exm_one (M := model X.prog X.w) JA.kIn LT hyes
    have named : ∀ {Q0 : Value → Shared → Prop} {E0 : Value → Shared → Prop}, Q0 c { sZ with heap := hA } → wpAny (model X.prog X.w) (X.A.mark (some (.ref a))) (eval (.Name x np) X.env) Q0 E0 { sZ with heap := hA } := fun {Q0 E0} q => by
      obtain ⟨g1, g2, m1 | ⟨m1, m2, m3⟩⟩ := hc
      · exact ld_glob (X := X.suite a ((a, oA) :: (X.pn ++ pins))) SA g1 m1 q g2
      · exact ld_blt (X := X.suite a ((a, oA) :: (X.pn ++ pins))) SA g1 m1 m2 q m3 g2
    refine named (LM.here (codeAny_handlers_suite_as ?_))
    refine HandSPX.lands_againZ flA fun hB flB upB => ?_
    have JB : L2.Inv X pins σ' H' { sZ with heap := hB } := J.landed nb flB.1 ((up.trans upA).trans upB) os ag
    obtain ⟨oB, vB, eB, zB, dB⟩ := flB.there
    have SB := JB.suite eB dB na aL aO
    have n0 : X.s_0.heap.get? a = none := by
      cases q0 : X.s_0.heap.get? a with
      | none => rfl
      | some oo =>
        obtain ⟨o1, q1⟩ := J.base.there a oo q0 (by rw [hex]; simp)
        have q2 := nb a o1 q1 (by rw [hs]; exact aF)
        have q3 := flB.2.1
        rw [q2] at q3; cases q3
    have TB : L2.Inv (X.suite a (X.pn ++ pins)) [] σ' (upd H' a (exv a C dx)) { sZ with heap := hB } := by
      have base : L2.Inv (X.suite a (X.pn ++ pins)) [] σ' H' { sZ with heap := hB } := ⟨okX.suite _ _, SB.os, SB.bare, SB.base, SB.loc, SB.cell, SB.free, SB.freeC, fun p hp => SB.pin p (List.mem_append_left _ (List.mem_cons_of_mem _ (by rw [List.append_nil] at hp; exact hp))), SB.hok, SB.len⟩
      refine track base na n0 aL (fun v ⟨oc, ec, dc⟩ => ?_) (fun p hp z => ?_) (exv_ok eB zB dB)
      · have ec : hB.get? a = some oc := ec
        rw [eB] at ec; cases ec; rw [dB] at dc; cases dc
      · rw [List.append_nil] at hp
        have w1 := (JB.pin p hp).1
        have w2 : J.base.there = J.base.there := rfl
        have w3 := (J.pin p hp).1
        have w4 := nb p.1 p.2 w3 (by rw [hs, z]; exact aF)
        rw [z] at w4
        have q3 := flB.2.1
        rw [w4] at q3; cases q3
    refine store_ok (X := X.suite a (X.pn ++ pins)) (v := .ref a) TB hN hi (.inl hln) rfl (fun sD SD => ?_) (.inr hln)
    refine wpAny_mono ((hsu a (X.pn ++ pins)).run [] sD _ _ _ SD (hsuite a na)) (fun fl sF hsp => ?_) (fun _ _ z => False.elim z)
    have back : ∀ {σ6 : L2.St} {H6 : Hp} {Q0 : Shared → Prop}, L2.Inv (X.suite a (X.pn ++ pins)) [] σ6 H6 sF → (∀ s7, L2.Inv X pins (σ6.set i none) H6 s7 → Q0 s7) →
        wpAny (model X.prog X.w) X.A (do bindName X.env n .none; unbindBehindTheSuite X.env n pos') (fun _ s7 => Q0 s7) X.xe sF := fun {σ6 H6 Q0} S6 hq => by
      have U : L2.Inv X pins σ6 H6 sF := ⟨okX, S6.os, S6.bare, S6.base, S6.loc, S6.cell, S6.free, S6.freeC, fun p hp => S6.pin p (List.mem_append_left _ hp), S6.hok, S6.len⟩
      exact gone_ok U hN hi hln hq
    cases fl with
    | next =>
      obtain ⟨σ6, H6, S6, q6⟩ := hsp
      exact back S6 fun s7 J7 => ⟨_, _, J7, q6⟩
    | brk =>
      obtain ⟨σ6, H6, S6, q6⟩ := hsp
      exact back S6 fun s7 J7 => ⟨_, _, J7, q6⟩
    | cont =>
      obtain ⟨σ6, H6, S6, q6⟩ := hsp
      exact back S6 fun s7 J7 => ⟨_, _, J7, q6⟩
    | ret u =>
      obtain ⟨v6, σ6, H6, S6, r6, q6⟩ := hsp
      exact back S6 fun s7 J7 => ⟨_, _, _, J7, r6, q6⟩
  · cases fl with
    | next =>
      obtain ⟨σ', H', J, q⟩ := hsp
      exact wpAny_execs_nil ⟨σ', H', J.ofTry okX, q⟩
    | brk =>
      obtain ⟨σ', H', J, q⟩ := hsp
      exact ⟨σ', H', J.ofTry okX, q⟩
    | cont =>
      obtain ⟨σ', H', J, q⟩ := hsp
      exact ⟨σ', H', J.ofTry okX, q⟩
    | ret u =>
      obtain ⟨v, σ', H', J, r, q⟩ := hsp
      exact ⟨v, σ', H', J.ofTry okX, r, q⟩
end
end Rq
set_option Elab.async false
set_option linter.all false
set_option maxRecDepth 100000
set_option maxHeartbeats 4000000
/-! Rq, part 43: e.value and isinstance(e, C) of a caught error; try. -/
namespace PySem.W
open PySem PySem.Spec PySem.Calls PyProof.Rows
section
variable {prog : Program} {w : World} {A : Around} {E : Value → Shared → Prop} {K : Frag} {e C : Addr} {oe : Obj} {od : Option Obj}
theorem rq_findData {nm : Str} {at_ gt : Value} (h0 : (clsIn K C).isSome = true) (h1 : findIn K (.ref C) nm = some (some at_)) (h2 : specialIn K at_ "__get__" = some (some gt)) (h3 : takesIn K at_ = some true) : findObj K C od nm = some (.bind gt at_) := by
  obtain ⟨cdt, hcdt⟩ := Option.isSome_iff_exists.mp h0
  unfold findObj
  rw [hcdt, Option.bind_some, h1, Option.bind_some]
  simp [h2, h3]
theorem rq_classE {s1 : Shared} {R : Option Value → Shared → Prop} (g1 : findIn K (.ref C) "__getattribute__" = some (some (.builtin "BaseException.__getattribute__"))) (g2 : findIn K (.ref C) "__getattr__" = some none) (g3 : subIn K (.ref C) (.type "BaseException") = some true)
    (g4 : hasDictIn K C = true) (g5 : findIn K (.ref C) "__class__" = some (some (.builtin "object.__class__"))) (g6 : specialIn K (.builtin "object.__class__") "__get__" = some (some (.builtin "getset_descriptor.__get__"))) (g7 : takesIn K (.builtin "object.__class__") = some true) (g8 : mroIn K C (.type "object") = some true)
    (kin : K.In s1.heap) (J : InstAt s1.heap e oe C od) (q : R (some (.ref C)) { s1 with toks := s1.toks + 1 }) : wpAny (model prog w) A (getAttr? (.ref e) "__class__") R E s1 := by
  have fd : findObj K C od "__class__" = some (.bind (.builtin "getset_descriptor.__get__") (.builtin "object.__class__")) := rq_findData (by obtain ⟨cdt, hcdt, _⟩ := any_some g4; rw [hcdt]; rfl) g5 g6 g7
  obtain ⟨hp0, gs0, dr0, tk0, os0⟩ := s1
  have lookT := J.type (M := model prog w)
  have lookG := looks_findIn (M := model prog w) kin g1
  have lookH := looks_findIn (M := model prog w) kin g2
  have lookF := looks_find (M := model prog w) kin J fd
  have isE : Looks (model prog w) hp0 (isInstance (.ref e) (.type "BaseException")) true := lookT.andThen (looks_subIn kin g3)
  have ne1 : (Value.builtin "BaseException.__getattribute__" == Value.builtin "object.__getattribute__") = false := by decide +kernel
  have ne2 : (onTheHeap (Value.ref C) && Value.builtin "BaseException.__getattribute__" == Value.builtin "object.__getattribute__") = false := by rw [ne1]; rfl
  have ne3 : (false && onTheHeap (Value.builtin "BaseException.__getattribute__")) = false := rfl
  unfold getAttr? getAttrBy? getAttrBy
  refine wpAny_bind (wpAny_mkText (wpAny_bind (wpAny_attempt (wpAny_holding (wpAny_bind (lookT.at (wpAny_bind (lookG.at ?_))))))))
  show wpAny _ _ (if (onTheHeap (Value.ref C) && Value.builtin "BaseException.__getattribute__" == Value.builtin "object.__getattribute__") = true then _ else _) _ _ _
  rw [ne2, if_neg Bool.false_ne_true]
  unfold getAttrByItsOwn hookBefore
  refine wpAny_bind ?_
  rw [if_pos (show onTheHeap (Value.ref C) = true from rfl)]
  refine lookH.at (wpAny_bind (wpAny_attempt (wpAny_holding ?_)))
  unfold callGetattribute
  rw [ne3, if_neg Bool.false_ne_true]
  unfold boundAndCalled
  rw [PySem.F.excAttr_ValueError.ga.bind (.ref e)]
  refine wpAny_bind (wpAny_pure ?_)
  show wpAny _ _ (call (.builtin "BaseException.__getattribute__") [.ref e, .str "__class__" tk0]) _ _ _
  refine wpAny_call (codeAny_call_builtin PySem.F.excAttr_ValueError.ga.plain PySem.F.entry_bexc_ga (@check_slot (model prog w) _ _ ⟨hp0, gs0, dr0, tk0 + 1, os0⟩ "BaseException.__getattribute__" "BaseException" "__getattribute__" (.ref e) [.str "__class__" tk0] [] _ (by decide +kernel) (by decide +kernel) isE (PySem.F.args_bexc_ga (.ref e) (.str "__class__" tk0)) ?_))
  unfold Builtin.«object.__getattribute__»
  refine wpAny_bind (wpAny_of_eq (a := ((Value.ref e : Value), [Value.str "__class__" tk0])) (by first | rfl | (simp only [slotArgs]; rfl)) ?_)
  refine wpAny_bind (wpAny_pure (wpAny_bind (lookT.at (wpAny_bind (lookF.at ?_)))))
  show wpAny _ _ (holding [Value.builtin "object.__class__"] (call (.builtin "getset_descriptor.__get__") [.builtin "object.__class__", .ref e, .ref C]) >>= ret) _ _ _
  refine wpAny_bind (wpAny_holding (wpAny_call (class_get (s := ⟨hp0, gs0, dr0, tk0 + 1, os0⟩) (ox := oe) (od := od) kin J g8 ?_)))
  refine wpAny_pure ?_
  show wpAny _ _ (handedOut (.ref C)) _ _ _
  rw [handedOut_of (v := .ref C) rfl]
  first
    | exact wpAny_pure (wpAny_pure q)
    | exact wpAny_pure q
    | exact wpAny_pure (wpAny_bind (wpAny_pure (wpAny_pure q)))
end
end PySem.W
namespace Rq
open PySem PySem.Spec PyProof.Rows L2
/-- further facts of an error class -/
structure ErrD (K : PySem.W.Frag) (x : Str) (C : Addr) : Prop where
  e : ErrC K x C
  ga : PySem.W.findIn K (.ref C) "__getattribute__" = some (some (.builtin "BaseException.__getattribute__"))
  gg : PySem.W.findIn K (.ref C) "__getattr__" = some none
  hd : PySem.W.hasDictIn K C = true
  cl : PySem.W.findIn K (.ref C) "__class__" = some (some (.builtin "object.__class__"))
  mo : PySem.W.mroIn K C (.type "object") = some true
  s1 : PySem.W.subIn K (.type "NoneType") (.ref C) = some false
  s2 : PySem.W.subIn K (.type "bool") (.ref C) = some false
  s3 : PySem.W.subIn K (.type "int") (.ref C) = some false
  s4 : PySem.W.subIn K (.type "str") (.ref C) = some false
  s5 : PySem.W.subIn K (.type "list") (.ref C) = some false
  s6 : PySem.W.subIn K (.type "tuple") (.ref C) = some false
  s7 : PySem.W.subIn K (.type "dict") (.ref C) = some false
/-- the program's error classes, EL, and QueueError, at CQ -/
structure Errs (K : PySem.W.Frag) (mg : Str → Option Value) (EL : List Str) (CQ : Addr) : Prop where
  all : ∀ x ∈ EL, ∃ C, ErrD K x C ∧ mg x = some (.ref C)
  two : ∀ x ∈ EL, ∀ y ∈ EL, x ≠ y → ∀ Cx Cy : Addr, PySem.W.nsIn K mainGlobals x = some (some (.ref Cx)) → PySem.W.nsIn K mainGlobals y = some (some (.ref Cy)) → PySem.W.subIn K (.ref Cx) (.ref Cy) = some false
  q : ∀ x ∈ EL, ∀ C : Addr, PySem.W.nsIn K mainGlobals x = some (some (.ref C)) → PySem.W.exmOne K (.ref C) (.ref CQ) = some true
  gq : mg "QueueError" = some (.ref CQ)
  cn : PySem.W.specialIn K (.builtin "object.__class__") "__get__" = some (some (.builtin "getset_descriptor.__get__"))
  ct : PySem.W.takesIn K (.builtin "object.__class__") = some true
section
variable {K : PySem.W.Frag} {mg : Str → Option Value} {EL : List Str} {CQ : Addr}
theorem kit_err {x : Str} {C : Addr} (h : ErrD K x C) {t : Value} {b : Bool} (e1 : (t == Value.ref C) = false) (hs : PySem.W.subIn K t (.ref C) = some b) : PySem.W.kitOne K t (.ref C) = some b := by
  have e2 : PySem.W.kitCls K t (.ref C) = if ((PySem.W.clsIn K C).isSome && PySem.W.typeIn K (.ref C) == some (.type "type")) = true then PySem.W.subIn K t (.ref C) else none := rfl
  have e3 : (some (Value.type "type") == some (Value.type "type")) = true := rfl
  unfold PySem.W.kitOne
  rw [e1, if_neg Bool.false_ne_true, e2, cls_some h.hd, h.e.oex.tyC, e3, Bool.and_true, if_pos rfl]
  exact hs
theorem ErrD.sub {x : Str} {C : Addr} (q : ErrD K x C) {d : D} {st : ST} {T : String} (h : tyD d st = some T) : PySem.W.subIn K (.type T) (.ref C) = some false := by
  cases d with
  | non => obtain rfl := Option.some.inj h; exact q.s1
  | bl b => obtain rfl := Option.some.inj h; exact q.s2
  | int i => obtain rfl := Option.some.inj h; exact q.s3
  | str y => obtain rfl := Option.some.inj h; exact q.s4
  | lst xs => obtain rfl := Option.some.inj h; exact q.s5
  | lsr xs => obtain rfl := Option.some.inj h; exact q.s5
  | tup xs => obtain rfl := Option.some.inj h; exact q.s6
  | dct xs => obtain rfl := Option.some.inj h; exact q.s7
  | ins C fs => cases h
  | raw v => cases h
  | exc x d => cases h
  | fn f c q σ sl => cases h
  | cel k =>
    unfold tyD at h
    dsimp only at h
    split at h
    · obtain rfl := Option.some.inj h; exact q.s5
    · obtain rfl := Option.some.inj h; exact q.s7
    · cases h
theorem kit_same {C : Addr} : PySem.W.kitOne K (.ref C) (.ref C) = some true := by
  have e1 : (Value.ref C == Value.ref C) = true := beq_self_eq_true _
  unfold PySem.W.kitOne
  rw [e1, if_pos rfl]
theorem kit_two (H : Errs K mg EL CQ) {x y : Str} {C Cy : Addr} (hx : x ∈ EL) (hy : y ∈ EL) (dx : ErrD K x C) (dy : ErrD K y Cy) : PySem.W.kitOne K (.ref C) (.ref Cy) = some (x == y) := by
  by_cases e : x = y
  · subst e
    have := dx.e.ns.symm.trans dy.e.ns
    cases this
    rw [kit_same, beq_self_eq_true]
  · have s := H.two x hx y hy e C Cy dx.e.ns dy.e.ns
    have ne : (x == y) = false := beq_false_of_ne e
    rw [ne]
    by_cases ec : C = Cy
    · subst ec
      have k1 : PySem.W.kitOne K (.ref C) (.ref C) = some true := kit_same
      exfalso
      have ms := PySem.W.subIn K (.ref C) (.ref C)
      have z := dx.e.oex.cls
      obtain ⟨nm, qq, N, bs, bm, sn, sub, ab, col, dd, k0, k1', k2, k3, k5, hC, hbm⟩ := z
      have hcl : PySem.W.clsIn K C = some { name := nm, bases := bs, mro := .ref C :: bm, ns := N, qualname := qq, hasDict := true, slotNames := sn, subclasses := sub, abstract := ab, collection := col, hasDel := false } := by unfold PySem.W.clsIn; rw [hC] <;> rfl
      have : PySem.W.subIn K (.ref C) (.ref C) = some true := by
        unfold PySem.W.subIn PySem.W.mroIn
        simp [hcl]
      rw [this] at s
      cases s
    · exact kit_err dy (by simpa using ec) s
end
end Rq
set_option Elab.async false
set_option linter.all false
set_option maxRecDepth 100000
set_option maxHeartbeats 4000000
/-! Rq, part 44: rules: e.value, isinstance(e, C), try. -/
namespace Rq
open PySem PySem.Spec PyProof.Rows L2
section
variable {K : PySem.W.Frag} {W : WX} {c : Cf} {X : Cx} {a b e o : PySem.Expr} {es : List PySem.Expr} {f g h : EF} {pos apos cpos p : Pos} {EL : List Str} {CQ : Addr}
theorem inst_exc {pins : List (Addr × Obj)} {σ : L2.St} {H : Hp} {s : Shared} {a C dx : Addr} {fs : List (Str × V)} (I : L2.Inv X pins σ H s) (h1 : H a = some (exv a C dx)) (h2 : H dx = some (.xd fs)) :
    ∃ oe od, PySem.W.InstAt s.heap a oe C (some od) ∧ s.heap.get? dx = some od ∧ ∃ mA, s.heap.Ns1 dx mA ∧ ∀ f, RelO (fs.lookup f) (mA f) := by
  have k1 := I.hok a _ h1
  unfold exv at k1
  unfold ObjOk at k1
  obtain ⟨⟨oe, us, g1, z, d⟩, _⟩ := k1
  have k2 := I.hok dx _ h2
  unfold ObjOk at k2
  obtain ⟨mA, hns, hr⟩ := k2
  obtain ⟨od, hod, _⟩ := lookIn_ns hns
  exact ⟨oe, od, ⟨g1, z.1, by unfold PySem.W.notCls; rw [d] <;> rfl, by rw [z.2.1]; exact hod⟩, hod, mA, hns, hr⟩
/-! e.value -/
def zExcV (EL : List Str) : D → ST → Res D
  | .exc x d, st => if EL.contains x then .ok d st else .stuck
  | _, _ => .stuck
theorem x_excV (q : Errs X.K X.mg EL CQ) (ha : PX X W a f) (hb : attributeBase a "value" X.env (eval a X.env) = eval a X.env := by rfl) : PX X W (.Attribute a "value" pos) (f1 (zExcV EL) f) := by
  refine ⟨fun pins s σ H Q I w => ?_⟩
  obtain ⟨c, sl, rfl, S, L, P⟩ := w
  refine attr_of hb (thn (ha.run pins s σ c.H (fun v H1 => ∃ (a C dx : Addr) (x : Str) (v2 : V), v = .ref a ∧ ErrD X.K x C ∧ H1 a = some (exv a C dx) ∧ H1 dx = some (.xd [("value", v2)]) ∧ Q v2 H1) I ⟨c, sl, rfl, S, L, ?_⟩) fun u s1 hh => ?_)
  · refine Post.bind P fun v d c1 s1 o1 r1 P1 => ?_
    unfold zExcV at P1
    split at P1
    · next x d =>
      split at P1
      · next hx =>
        cases r1 with
        | exc h1 h2 h3 h4 =>
          obtain ⟨C0, e0, _⟩ := q.all x (List.contains_iff_mem.mp hx)
          have ec := h1.symm.trans e0.e.ns
          cases ec
          exact ⟨_, _, _, x, _, rfl, e0, o1.ex _ _ h2, o1.ex _ _ h3, Post.ok o1 h4 P1⟩
      · exact P1.elim
    · exact P1.elim
  · obtain ⟨v, H1, I1, rv, a0, C, dx, x, v2, rfl, e0, h1, h2, q2⟩ := hh
    obtain rfl : u = Value.ref a0 := rv
    obtain ⟨oe, od, J, hod, mA, hns, hr⟩ := inst_exc I1 h1 h2
    obtain ⟨od', ho', hl⟩ := lookIn_ns hns
    rw [hod] at ho'; cases ho'
    have l1 : ([("value", v2)] : List (Str × V)).lookup ("value" : Str) = some v2 := rfl
    obtain ⟨u2, hu, ru⟩ := RelO.some_of (v := v2) (o := mA "value") (by rw [← l1]; exact hr "value")
    exact HandSPX.exc_get I1.kIn J e0.ga e0.gg e0.e.oex.exC (PySem.W.findObj_own e0.hd e0.e.noV rfl (by rw [hl, hu])) (handed_of ru) ⟨v2, H1, I1.tok _, ru, q2⟩
/-! isinstance(e, C) -/
def rIsEx (K : PySem.W.Frag) (mg : Str → Option Value) (EL : List Str) (CQ : Addr) : List V → Hp → VK → Prop := fun xs H Q => ∃ (a C dx Cy : Addr) (x y : Str) (fs : List (Str × V)), xs = [.ref a, .ref Cy] ∧ x ∈ EL ∧ y ∈ EL ∧ ErrD K x C ∧ ErrD K y Cy ∧ H a = some (exv a C dx) ∧ H dx = some (.xd fs) ∧ Q (.bl (x == y)) H
theorem call_isEx (q : Errs X.K X.mg EL CQ) : CallR X (.builtin "isinstance") (rIsEx X.K X.mg EL CQ) := by
  intro pins s σ H xs us Q I r hh
  obtain ⟨a0, C, dx, Cy, x, y, fs, rfl, hx, hy, ex, ey, h1, h2, q2⟩ := hh
  obtain ⟨u1, u2, rfl, r1, r2⟩ := vals2 r
  obtain rfl : u1 = Value.ref a0 := r1
  obtain rfl : u2 = Value.ref Cy := r2
  obtain ⟨oe, od, J, _⟩ := inst_exc I h1 h2
  have ki : PySem.W.kitCls X.K (.type "int") (.ref C) = some false := by
    have k0 := kit_err ex (t := .type "int") rfl ex.s3
    have e1 : (Value.type "int" == Value.ref C) = false := rfl
    unfold PySem.W.kitOne at k0
    rw [e1, if_neg Bool.false_ne_true] at k0
    exact k0
  have Z : PySem.W.KitX X.K (.ref a0) (.ref C) (fun hp => ∃ od, PySem.W.InstAt hp a0 oe C (some od)) := {
    ty := fun _ _ _ ⟨_, J⟩ => J.type
    it := fun _ _ kk _ => (PySem.W.kit_cls kk ki).2.1
    ne := fun hp tp dd its n sl kk htp => by
      refine Bool.eq_false_iff.mpr fun z => ?_
      have z2 : C = tp := Value.ref.inj (beq_iff_eq.mp z)
      subst z2
      obtain ⟨nm, qq, N, bs, bm, sn, sub, ab, col, dd2, k0, k1', k2, k3, k5, hC, hbm⟩ := ex.e.oex.cls
      have z3 := congrArg Obj.data (Option.some.inj ((kk _ _ hC).symm.trans htp))
      cases z3
    ca := fun kk ⟨_, J⟩ k => PySem.W.rq_classE ex.ga ex.gg ex.e.oex.exC ex.hd ex.cl q.cn q.ct ex.mo kk J k }
  exact PySem.W.kia_one Z I.kIn ⟨od, J⟩ (kit_two q hx hy ex ey) (fun z => nomatch z) fun tk => ⟨.bl (x == y), H, I.tok tk, rfl, q2⟩
def isE (EL : List Str) (y : Str) (d : D) (st : ST) : Option Bool := match d with
  | .exc x _ => if EL.contains x then some (x == y) else none
  | d => (tyD d st).map fun _ => false
def zIsiE (EL : List Str) (y : Str) (d : D) (st : ST) : Res D := match isE EL y d st with
  | some b => .ok (.bl b) st
  | none => .stuck
theorem x_isiE {y : Str} {p2 : Pos} (q : Errs X.K X.mg EL CQ) (hy : EL.contains y = true) (hm : X.mg "isinstance" = none) (ha : PX X W a f) (hgy : Gl X y := by rfl) (hdy : (y == ("__debug__" : Str)) = false := by decide) (hg : Gl X "isinstance" := by rfl) (hv : bootBuiltins "isinstance" = some (.builtin "isinstance") := by exact PyProof.Rows.boot_isinstance)
    (hs0 : starEach (a :: [.Name y p2]) X.env = (false, eval a X.env) :: starEach [.Name y p2] X.env := by rfl) (hs1 : starEach [.Name y p2] X.env = (false, eval (.Name y p2) X.env) :: starEach [] X.env := by rfl)
    (hpl : (backTo pos (starEach [.Name y p2] X.env)).any (·.1) = false := by rfl) : PX X W (.Call (.Name "isinstance" p) [a, .Name y p2] [] pos) (f1 (zIsiE EL y) f) := by
  obtain ⟨Cy, ey, my⟩ := q.all y (List.contains_iff_mem.mp hy)
  refine pe_imp (pe_callB (CallR.or call_isi (call_isEx q)) hg hm hv (xs_cons ha (xs_cons (x_cls my hgy hdy) xs_nil hs1) hs0) (by decide) (by decide) hs0 hpl) fun σ H Q w => ?_
  obtain ⟨c, sl, rfl, S, L, P⟩ := w
  refine ⟨c, sl, rfl, S, L, ?_⟩
  have e1 : (fCons f (fCons (fCls Cy) fNil)) sl c.st = (f sl c.st).bind fun d st1 => .ok [d, .raw (.ref Cy)] st1 := rfl
  rw [e1]
  unfold f1 at P
  cases hq : f sl c.st with
  | stuck => rw [hq] at P; exact P.elim
  | err x' d sl' st' => rw [hq] at P; exact P
  | ok d st1 =>
    rw [hq] at P
    intro vs c1 s1 o1 e2 r1
    subst e2
    have P1 : Post X.K W c1 (RlD X.K) Q (zIsiE EL y d c1.st) := Post.mono s1 P
    unfold zIsiE at P1
    split at P1
    · next b hb =>
      cases r1 with
      | cons ra t1 =>
        cases t1 with
        | cons rb t2 =>
          cases t2
          cases rb
          unfold isE at hb
          split at hb
          · next x d' =>
            split at hb
            · next hx =>
              cases hb
              cases ra with
              | exc h1 h2 h3 h4 =>
                obtain ⟨C0, e0, _⟩ := q.all x (List.contains_iff_mem.mp hx)
                have ec := h1.symm.trans e0.e.ns
                cases ec
                exact .inr ⟨_, _, _, Cy, x, y, _, rfl, List.contains_iff_mem.mp hx, List.contains_iff_mem.mp hy, e0, ey, o1.ex _ _ h2, o1.ex _ _ h3, Post.ok o1 (.bl _) P1⟩
            · cases hb
          · obtain ⟨T, hT, rfl⟩ := Option.map_eq_some_iff.mp hb
            exact .inl ⟨_, _, _, _, _, rfl, .own Cy, tyD_ok o1 ra hT, kit_err ey rfl (ey.sub hT), Post.ok o1 (.bl _) P1⟩
    · exact P1.elim
end
/-! ### try -/
def dropS (i : Nat) : Res Fl → Res Fl
  | .ok (.nx sl) st => .ok (.nx (sl.set i none)) st
  | .ok (.bk sl) st => .ok (.bk (sl.set i none)) st
  | .ok (.ct sl) st => .ok (.ct (sl.set i none)) st
  | .ok (.rt d) st => .ok (.rt d) st
  | _ => .stuck
def fTry (EL : List Str) (i : Nat) (F S : SF) : SF := fun sl st => match F sl st with
  | .err x d sl1 st1 => if EL.contains x then dropS i (S (sl1.set i (some (.exc x d))) st1) else .stuck
  | r => r
section
variable {X : Cx} {W : WX} {n : Str} {i : Nat} {body suite : List Stmt} {b₀ : Stmt} {np pos pos' : Pos} {F S : SF} {EL : List Str} {CQ : Addr}
theorem y_try (i : Nat) (hs : X.stack = X.env :: X.outer) (hf : X.env.frame = some X.env.locals) (hex : X.ex = []) (q : Errs X.K X.mg EL CQ) (hN : X.N.Nodup)
    (hb : ∀ (W' : WX) (pn : List (Addr × Obj)) (xe : Value → Shared → Prop), L2N.Takes (X.tr pn xe) W' → PassesOwn (model X.prog X.w) X.A X.env xe → PYs (X.tr pn xe) W' body F)
    (hsu : ∀ (a : Addr) (pn : List (Addr × Obj)), PYs (X.suite a pn) W0 (b₀ :: suite) S) (hi : X.N[i]? = some n := by rfl) (hln : X.env.kindOf n = some .local := by rfl) (hg : Gl X "QueueError" := by rfl) :
    PY X W (.Try body [.ExceptHandler (some (.Name "QueueError" np)) (some n) (b₀ :: suite) pos'] [] [] pos) (fTry EL i F S) := by
  refine ps_imp (ps_tryT (c := .ref CQ) (tb := fun W' => tS X.K W' F) (ts := fun _ => tS X.K W0 S) hs hf hex hN hi hln ⟨hg, by decide, .inl q.gq⟩ (fun W' pn xe tk hp => hb W' pn xe tk hp) (fun a pn => hsu a pn)) fun D σ H w => ?_
  obtain ⟨c, sl, rfl, S0, L, P⟩ := w
  refine ⟨c, sl, rfl, S0, L, ?_⟩
  unfold fTry at P
  cases hq : F sl c.st with
  | stuck => rw [hq] at P; exact P
  | ok fl st1 => rw [hq] at P; exact P
  | err x d sl1 st1 =>
    rw [hq] at P
    dsimp only at P
    split at P
    · next hx =>
      have hx := List.contains_iff_mem.mp hx
      intro C c' dx v σ' hC s1 o1 e1 l1 g1 r1
      subst e1
      refine ⟨C, dx, rfl, rfl, q.q x hx C hC, fun a ha => ?_⟩
      obtain ⟨o2, s2⟩ := Cf.fix (p := a) (o := exv a C dx) o1 ha
      refine ⟨_, sl1.set i (some (.exc x d)), rfl, o2, (s2.sl l1).set (.exc hC upd_same (s2.ex _ _ g1) (s2.dr r1)) i, ?_⟩
      have P2 : PostS X.K W c' D (dropS i (S (sl1.set i (some (.exc x d))) c'.st)) := PostS.mono s1 P
      have P3 := PostS.mono s2 P2
      show PostS X.K W0 _ (dropN i D) (S (sl1.set i (some (.exc x d))) c'.st)
      cases hS : S (sl1.set i (some (.exc x d))) c'.st with
      | stuck => rw [hS] at P3; exact P3
      | err x2 d2 sl2 st2 => rw [hS] at P3; exact P3.elim
      | ok fl st2 =>
        rw [hS] at P3
        cases fl with
        | nx sl2 => exact fun c3 s3 o3 e3 σ3 l3 => P3 c3 s3 o3 e3 _ (l3.unset i)
        | bk sl2 => exact fun c3 s3 o3 e3 σ3 l3 => P3 c3 s3 o3 e3 _ (l3.unset i)
        | ct sl2 => exact fun c3 s3 o3 e3 σ3 l3 => P3 c3 s3 o3 e3 _ (l3.unset i)
        | rt d2 => exact fun c3 s3 o3 e3 v3 r3 => P3 c3 s3 o3 e3 v3 r3
    · exact P.elim
end
end Rq
set_option Elab.async false
set_option linter.all false
set_option maxRecDepth 100000
set_option maxHeartbeats 4000000
/-! Rq, part 45: a lambda without parameters, handed to a def that calls it. -/
namespace Rq
open PySem PySem.Spec PyProof.Rows L2
abbrev Chk := Addr → Addr → Str → List (Option V) → Bool
/-- a call of what stands in the first slot -/
def fAct (fb : EF) (chk : Chk) : EF := fun sl st => match sl[0]? with
  | some (some (D.fn f c q σ sl1)) => if chk f c q σ then (fb sl1 st).at sl else .stuck
  | _ => .stuck
abbrev chk1 : Chk := fun _ _ _ _ => true
theorem cell_noCode {K : PySem.W.Frag} {G H : Hp} {as : List Addr} {a : Addr} {c : Cell} (x : CellAt K G as H a c) : ∀ q, H a ≠ some (LamX.CodeO a q) := fun q z => by
  cases c with
  | lst xs => obtain ⟨vs, e, r⟩ := x; rw [z] at e; unfold LamX.CodeO at e; cases e
  | dct xs => obtain ⟨vs, e, r⟩ := x; rw [z] at e; unfold LamX.CodeO at e; cases e
  | ins C xs => obtain ⟨dx, vs, e, r⟩ := x; rw [z] at e; unfold LamX.CodeO at e; cases e
open Classical in
/-- behind the making of a lambda -/
theorem lam_cf {K : PySem.W.Frag} {c : Cf} {H1 : Hp} {c' : Addr} {q : Str} (S : c.ok K) (eN : LamX.ExtN c.H H1) (T1 : LamX.Tabs (tabsOf K) H1) (hco : H1 c' = some (LamX.CodeO c' q)) :
    ∃ G1, Cf.ok K ⟨G1, H1, c.as, c.st⟩ ∧ Step c ⟨G1, H1, c.as, c.st⟩ ∧ G1 c' = some (LamX.CodeO c' q) := by
  have gH : ∀ b o, c.G b = some o → H1 b = some o := fun b o e => eN b o (S.ex b o e) fun ps z => S.gt b ps (by rw [e, z])
  refine ⟨fun b => if (∃ q, H1 b = some (LamX.CodeO b q)) then H1 b else c.G b, ⟨?_, S.len, ?_, S.inj, ?_, ?_⟩, ⟨?_, Pf.refl _, ?_⟩, ?_⟩
  · intro b o e
    dsimp only at e
    split at e
    · exact e
    · exact gH b o e
  · intro k d e
    obtain ⟨a, z1, z2, z3⟩ := S.cell k d e
    obtain ⟨o, eo⟩ := z3.some
    have e1 : H1 a = some o := eN a o eo fun ps z => z3.plain ps (by rw [eo, z])
    have nc : ¬ ∃ q, H1 a = some (LamX.CodeO a q) := fun ⟨q, z⟩ => cell_noCode z3 q (by rw [eo, ← e1]; exact z)
    have eG : Ex c.G (fun b => if (∃ q, H1 b = some (LamX.CodeO b q)) then H1 b else c.G b) := fun b u eb => by
      dsimp only
      split
      · exact gH b u eb
      · exact eb
    exact ⟨a, z1, by dsimp only; rw [if_neg nc]; exact z2, z3.mono eG (Pf.refl _) (by show H1 a = c.H a; rw [e1, eo])⟩
  · intro p hp
    obtain ⟨ps, h1, h2, h3⟩ := T1 p hp
    refine ⟨ps, h1, h2, fun pos cv hc => ?_⟩
    obtain ⟨b, e1, e2⟩ := h3 pos cv hc
    exact ⟨b, e1, by dsimp only; rw [if_pos ⟨_, e2⟩]; exact e2⟩
  · intro b ps e
    dsimp only at e
    split at e
    · next hq =>
      obtain ⟨q, z⟩ := hq
      rw [z] at e
      unfold LamX.CodeO at e
      cases e
    · exact S.gt b ps e
  · intro b u eb
    dsimp only
    split
    · exact gH b u eb
    · exact eb
  · intro a o e hn hl hG
    have e1 : H1 a = some o := eN a o e hn.1
    refine ⟨e1, hl, ?_⟩
    dsimp only
    rw [if_neg fun ⟨q, z⟩ => by rw [e1] at z; exact hn.2 q (Option.some.inj z)]
    exact hG
  · dsimp only
    rw [if_pos ⟨_, hco⟩]
    exact hco
/-- the lambda's context; what it lets out has None for context -/
abbrev lamCxN (X : Cx) (A : Around) (outer : List Env) (s : Shared) (H : Hp) (E : XK) (scope : Scope) (f c' : Addr) : Cx := (LamX.lamCx X A outer s H E scope f c').wish fun e s' => wpAny (model X.prog X.w) (A.deeper (LamX.lamEnv X scope s.heap.objs.size f c')) (leaving (LamX.lamEnv X scope s.heap.objs.size f c') e) (fun _ s'' => L2N.CX X.prog X.w outer H s E e s'') (fun e' s'' => L2N.CX X.prog X.w outer H s E e' s'') s'
section
variable {X : Cx} {pins : List (Addr × Obj)} {σ : L2.St} {H : Hp} {s : Shared}
/-- the call, in the def that got the lambda -/
theorem px_act {CXg : CXT} {Eg : XK} {Ng : List Str} {qg : Str} {sg : Scope} {g f c' : Addr} {cdg pm ctv : Value} {params : Arguments} {body : PySem.Expr} {scope : Scope} {k : Nat} {a : Str} {pn : List (Addr × Obj)} {xe : Value → Shared → Prop} {W : WX} {fb : EF} {chk : Chk} {p1 p2 : Pos}
    (I : L2.Inv X pins σ H s) (L : LamX.LamS X.env.scope scope) (hf : s.heap.get? f = some (PySem.W.kla_obj "<lambda>" (X.env.qual ++ "<lambda>") params body scope (cloFrom X.env.cells scope.names []) pm c' ctv)) (hfn : H f = none) (hfr : f ∉ frs X.stack)
    (hbind : bindArgs (PySem.W.kla_fn "<lambda>" (X.env.qual ++ "<lambda>") params body scope (cloFrom X.env.cells scope.names []) pm (.ref c') ctv) ⟨[], []⟩ = pure [])
    (tk : L2N.Takes ((cxOf CXg X.prog X.w X.K X.mg X.base Ng qg sg g cdg X.A X.stack s H Eg).tr pn xe) W) (hr : Room (k + 1) (X.A.deeper (envOfC qg sg s.heap.objs.size g cdg)))
    (hbody : ∀ (A : Around) (outer : List Env) (s : Shared) (H : Hp) (E : XK), Room k (A.deeper (LamX.lamEnv X scope s.heap.objs.size f c')) → PX (lamCxN X A outer s H E scope f c') (fun cl d _ H => E cl d H) body fb)
    (hchk : ∀ f1 c1 q1 σ1, chk f1 c1 q1 σ1 = true → f1 = f ∧ c1 = c' ∧ q1 = X.env.qual ++ "<lambda>" ∧ σ1 = σ)
    (hN : Ng[0]? = some a) (hv : Vis sg a) (hd : (a == ("__debug__" : Str)) = false) (hcd : (a == ("__classdict__" : Str)) = false) :
    PX ((cxOf CXg X.prog X.w X.K X.mg X.base Ng qg sg g cdg X.A X.stack s H Eg).tr pn xe) W (.Call (.Name a p1) [] [] p2) (fAct fb chk) := by
  refine ⟨fun pinsZ sZ σZ HZ Q IZ w => ?_⟩
  obtain ⟨c, slZ, rfl, S, LZ, P⟩ := w
  unfold fAct at P
  split at P
  · next f1 c1 q1 σ1 sl1 h0 =>
    split at P
    · next hck =>
      obtain ⟨e1, e2, e3, e4⟩ := hchk _ _ _ _ hck
      subst e1 e2 e3 e4
      obtain ⟨v0, hv1, hv2⟩ := LZ.get 0 _ h0
      cases hv2 with
      | fn g1 g2 =>
        have hco := S.ex _ _ g1
        have P2 := Post.at LZ P
        refine wpAny_Call_Name_kw (thn ((pe_var (pos := p1) (i := 0) hN hv hd hcd).run pinsZ sZ σZ c.H (fun v H1 => v = .ref f1 ∧ H1 = c.H) IZ ⟨.ref f1, hv1, rfl, rfl⟩) fun u s1 ⟨v, H1, I1, r1, q2⟩ => ?_)
        obtain ⟨ev, eH⟩ := q2
        subst ev
        rw [eH] at I1
        obtain rfl : u = Value.ref f1 := r1
        have atF : s1.heap.get? f1 = some (PySem.W.kla_obj "<lambda>" (X.env.qual ++ "<lambda>") params body scope (cloFrom X.env.cells scope.names []) pm c1 ctv) := I1.base.keep f1 _ hf hfn hfr (fun z => nomatch (show f1 ∈ ([] : List Addr) from z))
        refine PySem.W.callWith_F0 ⟨_, _, _, _, atF⟩ ?_
        have grown : Un (frs X.stack) [] H c.H s.heap s1.heap := I1.base
        obtain ⟨⟨ocd, vcd, tcd, ecd, dcd, ncd⟩, _, _⟩ := I1.hok c1 _ hco
        have ran : codeAny (model X.prog X.w) (X.A.deeper (envOfC qg sg s.heap.objs.size g cdg)) (.call (.ref f1) ⟨[], []⟩) (CR (L2N.CX X.prog X.w) (envOfC qg sg s.heap.objs.size g cdg :: X.stack) X.prog X.w c.H s1 Q (WE W σZ)) s1 := by
          refine PySem.W.kla_callFunE hr.depth atF rfl L.co L.gen rfl ⟨c1, ocd, vcd, tcd, rfl, ecd, dcd, ncd⟩ ?_
          rw [hbind]
          refine wpAny_pure (wpAny_newFunctionEnv (fun y hy => (L.own y hy).2) (fun y hy => absurd hy (by simp)) (fun hN1 hns1 hsb1 => ⟨I1.nolimit.fresh _ hsb1, ?_⟩) L.kind)
          show codeAny _ _ (.expr body (LamX.lamEnv X scope s1.heap.objs.size f1 c1)) _ _
          have kept : ∀ b o, s1.heap.get? b = some o → hN1.get? b = some o := fun b o e => hsb1.extBut b o (Nat.ne_of_lt (Heap.lt_size e)) (Heap.get?_push_of_some _ e)
          have J := (LamX.lam_start2 (A := X.A.deeper (envOfC qg sg s.heap.objs.size g cdg)) (outer := envOfC qg sg s.heap.objs.size g cdg :: X.stack) (E := WE W σZ) (f := f1) (c' := c1) (tk := s1.toks + ([] : List (Str × Value)).length) I L I1.env0 hr.hd grown hns1 kept).wish (fun e s' => wpAny (model X.prog X.w) ((X.A.deeper (envOfC qg sg s.heap.objs.size g cdg)).deeper (LamX.lamEnv X scope s1.heap.objs.size f1 c1)) (leaving (LamX.lamEnv X scope s1.heap.objs.size f1 c1) e) (fun _ s'' => L2N.CX X.prog X.w (envOfC qg sg s.heap.objs.size g cdg :: X.stack) c.H s1 (WE W σZ) e s'') (fun e' s'' => L2N.CX X.prog X.w (envOfC qg sg s.heap.objs.size g cdg :: X.stack) c.H s1 (WE W σZ) e' s'') s')
          refine PySem.W.kla_codeExpr (wpAny_mono ((hbody _ _ s1 c.H _ (hr.deeper _)).run [] _ _ c.H Q J ⟨c, sl1, rfl, S, g2.slr, P2⟩) (fun v s' hq => ?_) fun er s' hq => hq)
          obtain ⟨w', H', J', rv, q⟩ := hq
          exact ⟨w', H', J'.os, J'.bare, J'.base, J'.hok, rv, q⟩
        refine wpAny_call (codeAny_mono ran fun r s' hq => ?_)
        cases r with
        | error er => exact L2N.passAt tk σZ pinsZ c.H s1 er s' I1 hq
        | ok fl =>
          cases fl with
          | ret u => exact I1.after hq
          | next => exact False.elim hq
          | brk => exact False.elim hq
          | cont => exact False.elim hq
    · exact P.elim
  · exact P.elim
end
/-- the def x, which calls what it gets -/
structure HeardOk (P : Program) (w : World) (K : PySem.W.Frag) (mg : Str → Option Value) (base : Heap) (x : Str) (st : Stmt) (a : Str) (Ng : List Str) (B : EF → Chk → SF) : Prop where
  T : At K mg x st
  S : FnScope Ng [a] (defScope st)
  b : ∀ (kV doc pm : Value) (an : Option Addr) (cdv ct : Value) (us : List Value), us.length = [a].length → bindArgs (PySem.W.fnOf x x (defArgs st) (defBody st) (defScope st) .none kV doc pm an cdv ct) ⟨us, []⟩ = pure ([a].zip us)
  at0 : Ng[0]? = some a
  vis : Vis (defScope st) a
  nd : (a == ("__debug__" : Str)) = false
  nc : (a == ("__classdict__" : Str)) = false
  body : ∀ (fb : EF) (chk : Chk) (fa : Addr) (cdv : Value) (A : Around) (outer : List Env) (s : Shared) (H : Hp) (E : XK),
    (∀ (W : WX) (pn : List (Addr × Obj)) (xe : Value → Shared → Prop) (p1 p2 : Pos), L2N.Takes ((cxOf CX0 P w K mg base Ng x (defScope st) fa cdv A outer s H E).tr pn xe) W → PX ((cxOf CX0 P w K mg base Ng x (defScope st) fa cdv A outer s H E).tr pn xe) W (.Call (.Name a p1) [] [] p2) (fAct fb chk)) →
    PYs (cxOf CX0 P w K mg base Ng x (defScope st) fa cdv A outer s H E).nox W0 (defBody st) (B fb chk)
  ind : ∀ (fb : EF) (chk : Chk) f c q σ sl st, chk f c q σ = true → (bodyF Ng.length (B fb chk) [.fn f c q σ sl] st).ne = (bodyF Ng.length (B fb chk1) [.fn 0 0 "" [] sl] st).ne
def fHeard (n : Nat) (B : EF → Chk → SF) (fb : EF) : EF := fun sl st => (bodyF n (B fb chk1) [.fn 0 0 "" [] sl] st).ne
/-- what a def that makes lambdas knows of its own code object, at c, and of its table, at P -/
structure LamT (K : PySem.W.Frag) (base : Heap) (mg : Str → Option Value) (c P : Addr) (q : Str) : Prop where
  tb : LamX.TabB base mg c P
  mem : (P, q) ∈ tabsOf K
  one : ∀ p ∈ tabsOf K, p.1 = P → p.2 = q
open Classical in
theorem x_heard {X : Cx} {W : WX} {x a : Str} {st : Stmt} {Ng : List Str} {B : EF → Chk → SF} {fb : EF} {c0 P0 : Addr} {k j : Nat} {params : Arguments} {body : PySem.Expr} {scope : Scope} {p lpos pos : Pos} (hh : HeardOk X.prog X.w X.K X.mg X.base x st a Ng B) (lt : LamT X.K X.base X.mg c0 P0 (X.env.qual ++ "<lambda>"))
    (hcode : X.env.code = .ref c0) (hr : Room k X.A) (hj : j + 2 ≤ k) (L : LamX.LamS X.env.scope scope)
    (hbody : ∀ (A : Around) (outer : List Env) (s : Shared) (H : Hp) (E : XK) (f c' : Addr), Room j (A.deeper (LamX.lamEnv X scope s.heap.objs.size f c')) → PX (lamCxN X A outer s H E scope f c') (fun cl d _ H => E cl d H) body fb)
    (hbind : ∀ (q : Str) (cl : List (Str × Addr)) (pm cv ctv : Value), bindArgs (PySem.W.kla_fn "<lambda>" q params body scope cl pm cv ctv) ⟨[], []⟩ = pure [] := by intros; rfl)
    (hdef : defaultsOf params X.env = ([], []) := by rfl) (hg : Gl X x := by rfl) (hdb : (x == ("__debug__" : Str)) = false := by decide) :
    PX X W (.Call (.Name x p) [.Lambda params body scope lpos] [] pos) (fHeard Ng.length B fb) := by
  obtain ⟨fa, oc, od, an, osl, kV, doc, pm0, cdv, ct, h1, h2, h3, h4⟩ := hh.T.ex
  have hb := (fun_mk h2 h3 h4).binds hh.b
  refine ⟨fun pins s σ H Q I w => ?_⟩
  obtain ⟨c, sl, rfl, S, L0, P⟩ := w
  refine wpAny_Call_Name_kw (ld_glob I hg h1 ?_ hdb)
  refine PySem.W.callWith_K (h₀ := X.base) I.ok.mod.kin h4 ?_ (by rfl) (by rfl)
  show wpAny _ _ (spliced ((false, eval (.Lambda params body scope lpos) X.env) :: backTo pos (starEach [] X.env))) _ _ s
  refine Calls.spliced_cons (LamX.lam_make2 I lt.tb hcode lt.mem lt.one (S.tab.tabs S.ex) hdef (L.has I.ok) fun f c' pm' ctv H1 s' I1 eN T1 hf hfn hfr hco => ?_)
  refine Calls.spliced_nil ⟨I1.kIn, ?_⟩
  obtain ⟨G1, o1, s1, g1⟩ := lam_cf S eN T1 hco
  have hr2 : Room (j + 2) X.A := hr.mono hj
  let chk : Chk := fun f1 c1 q1 σ1 => decide (f1 = f ∧ c1 = c' ∧ q1 = X.env.qual ++ "<lambda>" ∧ σ1 = σ)
  have hchk : ∀ f1 c1 q1 σ1, chk f1 c1 q1 σ1 = true → f1 = f ∧ c1 = c' ∧ q1 = X.env.qual ++ "<lambda>" ∧ σ1 = σ := fun f1 c1 q1 σ1 z => of_decide_eq_true z
  have ran : codeAny (model X.prog X.w) X.A (.call (.ref fa) ⟨[.ref f], []⟩) (CR CX0 X.stack X.prog X.w H1 s' Q E0) s' := by
    refine LamX.run_ofS (N := Ng) (ps := [a]) (us := [.ref f]) (vs := [.ref f]) h2 h3 hh.S hr2 I1.env0 (by simpa using hb s' [.ref f] I1.kIn rfl) (.cons rfl .nil) rfl fun hr' => ?_
    have bd := hh.body fb chk fa cdv X.A X.stack s' H1 E0 fun W' pn xe p1 p2 tk => px_act I1 L hf hfn hfr (hbind _ _ _ _ _) tk hr' (fun A outer s H E hr3 => hbody A outer s H E f c' hr3) hchk hh.at0 hh.vis hh.nd hh.nc
    refine ⟨_, PSs.nox bd, ⟨G1, H1, c.as, c.st⟩, _, rfl, o1, SlR.start (ds := [.fn f c' (X.env.qual ++ "<lambda>") σ sl]) (.cons (.fn g1 (s1.sl L0).dro) .nil), ?_⟩
    have P1 : Post X.K W ⟨G1, H1, c.as, c.st⟩ (RlD X.K) Q ((bodyF Ng.length (B fb chk1) [.fn 0 0 "" [] sl] c.st).ne) := Post.mono s1 P
    rw [← hh.ind fb chk f c' (X.env.qual ++ "<lambda>") σ sl c.st (decide_eq_true ⟨rfl, rfl, rfl, rfl⟩)] at P1
    have P2 : Post X.K W0 ⟨G1, H1, c.as, c.st⟩ (RlD X.K) Q (bodyF Ng.length (B fb chk) [.fn f c' (X.env.qual ++ "<lambda>") σ sl] c.st) := Post.ne P1
    unfold bodyF at P2
    show PostS X.K W0 _ _ (B fb chk _ c.st)
    cases q : B fb chk ([D.fn f c' (X.env.qual ++ "<lambda>") σ sl].map some ++ List.replicate (Ng.length - [D.fn f c' (X.env.qual ++ "<lambda>") σ sl].length) none) c.st with
    | stuck => rw [q] at P2; exact P2
    | err C d sl st => rw [q] at P2; exact P2
    | ok fl st1 =>
      rw [q] at P2
      intro c1 s2 o2 e2
      subst e2
      cases fl with
      | nx sl => exact fun σ' L' => P2 .non c1 s2 o2 rfl .non
      | rt d => exact fun v r => P2 v c1 s2 o2 rfl r
      | bk sl => exact P2.elim
      | ct sl => exact P2.elim
  refine wpAny_call (codeAny_mono ran fun r s2 hq => ?_)
  cases r with
  | error er => exact (show False from hq).elim
  | ok fl =>
    cases fl with
    | ret u => exact I1.after hq
    | next => exact False.elim hq
    | brk => exact False.elim hq
    | cont => exact False.elim hq
end Rq
set_option Elab.async false
set_option linter.all false
set_option maxRecDepth 100000
set_option maxHeartbeats 4000000
/-! Rq, part 46: defs of the law that make lambdas; errors bundled. -/
namespace Rq
open PySem PySem.Spec PyProof.Rows L2
/-- what the written part says of a def whose code object is at c -/
structure AtL (K : PySem.W.Frag) (mg : Str → Option Value) (x : Str) (st : Stmt) (c : Addr) : Prop where
  ex : ∃ (fa : Addr) (oc : Value) (od an : Option Addr) (osl : Array (Option Value)) (kV doc pm ct : Value), mg x = some (.ref fa) ∧
    K.lookup fa = some ⟨oc, od, .func (PySem.W.fnOf x x (defArgs st) (defBody st) (defScope st) .none kV doc pm an (.ref c) ct), osl⟩ ∧ PySem.W.codeIn K (.ref c) x = true ∧ PySem.W.keepIn K (.ref fa) = true
theorem dl_of {P : Program} {w : World} {K : PySem.W.Frag} {mg : Str → Option Value} {base : Heap} {x : Str} {st : Stmt} {N ps : List Str} {k n : Nat} {F : SF} {c : Addr} (T : AtL K mg x st c) (S : FnScope N ps (defScope st)) (hn : ps.length = n)
    (hb : ∀ (kV doc pm : Value) (an : Option Addr) (cdv ct : Value) (us : List Value), us.length = ps.length → bindArgs (PySem.W.fnOf x x (defArgs st) (defBody st) (defScope st) .none kV doc pm an cdv ct) ⟨us, []⟩ = pure (ps.zip us))
    (h : ∀ (fa : Addr) (A : Around) (outer : List Env) (s : Shared) (H : Hp) (E : XK), (A.deeper (envOfC x (defScope st) s.heap.objs.size fa (.ref c))).guards = some [] → Room k (A.deeper (envOfC x (defScope st) s.heap.objs.size fa (.ref c))) →
      PYs (cxOf CX0 P w K mg base N x (defScope st) fa (.ref c) A outer s H E).nox W0 (defBody st) F) : Df P w K mg base x (k + 1) n fun ds st => (bodyF N.length F ds st).ne := by
  obtain ⟨fa, oc, od, an, osl, kV, doc, pm, ct, h1, h2, h3, h4⟩ := T.ex
  have Fu := fun_mk h2 h3 h4
  have len : ∀ vs H Q E, spF K n (fun ds st => (bodyF N.length F ds st).ne) vs H Q E → vs.length = ps.length := fun vs H Q E z => by
    obtain ⟨c0, ds, _, _, r, e, _⟩ := z
    rw [r.length, e, hn]
  refine ⟨fa, _, ps, ⟨len, fun A outer s H args us vs Q E gd hr e0 bi rv hsp => ?_⟩, h1, h4, Fu.binds hb⟩
  refine LamX.run_ofS h2 h3 S hr e0 bi rv (len _ _ _ _ hsp) fun hr' => ?_
  obtain ⟨c0, ds, rfl, o, r, e, P0⟩ := hsp
  have gd' : (A.deeper (envOfC x (defScope st) s.heap.objs.size fa (.ref c))).guards = some [] := by
    first
      | exact gd
      | (unfold Around.deeper; exact gd)
      | (simp [Around.deeper, gd])
  refine ⟨_, PSs.nox (h fa A outer s c0.H E gd' hr'), c0, _, rfl, o, SlR.start r, ?_⟩
  show PostS K W0 c0 _ (F _ c0.st)
  unfold bodyF at P0
  dsimp only at P0
  cases q : F (ds.map some ++ List.replicate (N.length - ds.length) none) c0.st with
  | stuck => rw [q] at P0; exact P0
  | err C d sl st => rw [q] at P0; exact P0.elim
  | ok fl st1 =>
    rw [q] at P0
    intro c1 s1 o1 e1
    subst e1
    cases fl with
    | nx sl => exact fun σ' L' => P0 .non c1 s1 o1 rfl .non
    | rt d => exact fun v r => P0 v c1 s1 o1 rfl r
    | bk sl => exact P0.elim
    | ct sl => exact P0.elim
/-- an error class that is made and raised -/
structure ErrI (P : Program) (w : World) (K : PySem.W.Frag) (mg : Str → Option Value) (base : Heap) (x : Str) (C : Addr) : Prop where
  e : ErrC K x C
  i : InitE P w K mg base C 1
  m : mg x = some (.ref C)
theorem y_raiseI {X : Cx} {W : WX} {e : Expr} {p p2 pos : Pos} {f : EF} {x : Str} {C : Addr} {k : Nat} (q : ErrI X.prog X.w X.K X.mg X.base x C) (tk : L2N.Takes X W) (hr : Room k X.A) (hj : 2 ≤ k) (hc : X.calm = true) (ha : PX X W e f) (hg : Gl X x := by rfl)
    (hdb : (x == ("__debug__" : Str)) = false := by decide) (he : starEach [e] X.env = [(false, eval e X.env)] := by rfl) (hpl : (backTo pos (starEach [] X.env)).any (·.1) = false := by rfl) :
    PY X W (.Raise (some (.Call (.Name x p) [e] [] pos)) none p2) (fRaise x f) := y_raise hc tk q.e q.i hr hj q.m ha hg hdb he hpl
end Rq
set_option Elab.async false
set_option linter.all false
set_option maxRecDepth 100000
/-! Rq, part 47: an error class as a check over what is written. -/
namespace Rq
open PySem PySem.Spec PyProof.Rows L2
/-- what is written at C is an error class without own __new__ -/
def excB (K : PySem.W.Frag) (C : Addr) : Bool := match K.lookup C with
  | some ⟨oc, _, .cls cd, sl⟩ => (match cd.mro, sl.toList with
    | .ref C' :: bm, [_, _, _, _, some (.builtin n), _] => C' == C && n == "ValueError.__new__" && cd.hasDict && !cd.hasDel && oc == .type "type" && PySem.HandSPX.refsVE bm
    | _, _ => false)
  | _ => false
theorem excB_ok {K : PySem.W.Frag} {C : Addr} (h : excB K C = true) : ∃ nm q N bs bm sn sub ab col dd k0 k1 k2 k3 k5, K.lookup C = some (excClassObj nm q C N bs bm true sn sub ab col dd k0 k1 k2 k3 k5 "ValueError.__new__") ∧ PySem.HandSPX.refsVE bm = true := by
  unfold excB at h
  split at h
  · rename_i oc dd cd sl ho
    split at h
    · rename_i C' bm k0 k1 k2 k3 n k5 hm hs
      simp only [Bool.and_eq_true, beq_iff_eq, Bool.not_eq_true'] at h
      obtain ⟨⟨⟨⟨⟨rfl, rfl⟩, h1⟩, h2⟩, rfl⟩, h3⟩ := h
      obtain ⟨nm, bs, mro, ns, qn, hd, sn, sub, ab, col, del⟩ := cd
      dsimp only at hm h1 h2
      subst hm h1 h2
      have hsl : sl = #[k0, k1, k2, k3, some (.builtin "ValueError.__new__"), k5] := by
        obtain ⟨l⟩ := sl
        simp only at hs
        rw [hs]
      subst hsl
      exact ⟨nm, qn, ns, bs, bm, sn, sub, ab, col, dd, k0, k1, k2, k3, k5, ho, h3⟩
    · cases h
  · cases h
end Rq
set_option Elab.async false
set_option linter.all false
set_option maxRecDepth 100000
set_option maxHeartbeats 4000000
/-! Rq, part 48: sorted of a list of texts; sorted of the values of a dict, texts. -/
namespace Rq
open PySem PySem.Spec PyProof.Rows L2
def textsOf : List D → Option (List Str)
  | [] => some []
  | .str x :: r => (textsOf r).map (x :: ·)
  | _ => none
theorem textsOf_map : ∀ l : List Str, textsOf (l.map D.str) = some l
  | [] => rfl
  | x :: l => by
    rw [List.map_cons]
    unfold textsOf
    rw [textsOf_map l]
    rfl
theorem textsOf_ok {K : PySem.W.Frag} {G : Hp} {as : List Addr} : ∀ {vs : List V} {xs : List D} {l : List Str}, textsOf xs = some l → DRs K G as vs xs → vs = l.map V.str
  | _, [], l, h, r => by cases r; cases h; rfl
  | _, .str x :: xs, l, h, r => by
    unfold textsOf at h
    obtain ⟨l', h1, rfl⟩ := Option.map_eq_some_iff.mp h
    cases r with
    | cons r1 t =>
      cases r1
      rw [textsOf_ok h1 t]
      rfl
  | _, .non :: _, _, h, _ => by cases h
  | _, .bl _ :: _, _, h, _ => by cases h
  | _, .int _ :: _, _, h, _ => by cases h
  | _, .lst _ :: _, _, h, _ => by cases h
  | _, .lsr _ :: _, _, h, _ => by cases h
  | _, .tup _ :: _, _, h, _ => by cases h
  | _, .dct _ :: _, _, h, _ => by cases h
  | _, .ins _ _ :: _, _, h, _ => by cases h
  | _, .cel _ :: _, _, h, _ => by cases h
  | _, .raw _ :: _, _, h, _ => by cases h
  | _, .exc _ _ :: _, _, h, _ => by cases h
  | _, .fn _ _ _ _ _ :: _, _, h, _ => by cases h
theorem vals_at : ∀ {xs : List V} {us : List Value}, us.length = xs.length → (∀ (j : Nat) (u : Value), us[j]? = some u → ∃ x, xs[j]? = some x ∧ L2.RelV x u) → Vals xs us
  | [], [], _, _ => .nil
  | x :: xs, u :: us, hl, h => by
    obtain ⟨y, h1, h2⟩ := h 0 u rfl
    cases h1
    exact .cons h2 (vals_at (by simpa using hl) fun j v e => h (j + 1) v (by simpa using e))
  | [], _ :: _, hl, _ => by cases hl
  | _ :: _, [], hl, _ => by cases hl
def zSortT : List D → ST → Res D
  | [x], st => match asL x st with
    | some xs => match textsOf xs with
      | some l => kSorted l st
      | none => .stuck
    | none => .stuck
  | _, _ => .stuck
section
variable {K : PySem.W.Frag} {W : WX} {c : Cf} {X : Cx}
theorem zSortT_ok : OpA K W (rSortedS K) zSortT := fun c vs ds Q S r P => by
  unfold zSortT at P
  split at P
  · next x st =>
    split at P
    · next xs hx =>
      split at P
      · next l hn =>
        cases r with
        | cons r1 t =>
          cases t
          obtain ⟨a, us, rfl, h1, h2⟩ := asL_ok S r1 hx
          have e := textsOf_ok hn h2
          subst e
          unfold kSorted at P
          split at P
          · next hl =>
            refine ⟨a, l, rfl, h1, hl, fun ys q p1 p2 hq => ?_⟩
            have e := sortS_is p1 p2
            subst e
            exact newTree S hq (strs_dr _) P
          · exact P.elim
      · exact P.elim
    · exact P.elim
  · exact P.elim
/-- sorted(o.values()), a dict with texts as values -/
def tSortVals (td : TE) : TE := fun σ H Q => td σ H fun x H1 => ∃ (a : Addr) (kvs : List (Key × V)) (is : List Str), x = V.ref a ∧ Rd H1 a (.dK kvs) ∧ kvs.map (·.2) = is.map V.str ∧ is.length < 64 ∧
  ∀ (ys : List Str) (p : Addr), ys.Perm is → sortedS ys = true → H1 p = none → Q (.ref p) (upd H1 p (.lst (ys.map V.str)))
variable {o : PySem.Expr} {p pos apos mpos : Pos} {td : TE}
theorem pe_sortVals (hc : X.calm = true) (hg : Gl X "sorted") (hm : X.mg "sorted" = none) (hd : PE X o td) (hbase : attributeBase o "values" X.env (eval o X.env) = eval o X.env := by rfl) (hline : (apos.endLine == mpos.line) = true := by rfl)
    (hse : starEach [PySem.Expr.Call (.Attribute o "values" apos) [] [] mpos] X.env = [(false, eval (PySem.Expr.Call (.Attribute o "values" apos) [] [] mpos) X.env)] := by rfl) :
    PE X (.Call (.Name "sorted" p) [.Call (.Attribute o "values" apos) [] [] mpos] [] pos) (tSortVals td) := by
  refine ⟨fun pins s σ H Q I h => ?_⟩
  refine wpAny_Call_Name_kw (ld_blt I hg hm (u := .builtin "sorted") PyProof.Rows.boot_sorted ?_ (by first | decide +kernel | decide) (by first | decide +kernel | decide))
  rw [hse]
  refine PySem.callWith_builtin1 (wpAny_Call_method0_late hbase hline (thn (hd.run pins s σ H _ I h) fun v s1 ⟨x, H1, I1, r1, a, kvs, is, ex, ha, hv, h64, q⟩ => ?_))
  subst ex
  obtain rfl : v = Value.ref a := r1
  obtain ⟨z, hsys, vs, rel, dof⟩ := dk_rd I1.hok ha
  obtain ⟨ep, dat⟩ := dof.dictAt
  have dat' := dat
  obtain ⟨ob, es, ho, ex, hdat, hko, hpr, hnd⟩ := dat'
  refine ⟨"dict", "dict.values", F.plainAttrs_dict, F.slot_dict_values, F.type_dict_values, ⟨ob, ho, ex.1⟩, fun b e => ?_, Calls.callWith_builtin rfl (PySem.evalArgs_none ?_)⟩
  · cases e
    exact ⟨ob, ho, ex.2.1⟩
  refine call_meetsIn F.slot_dict_values ⟨ob, ho, ex.1⟩ F.entry_dict_values (F.args_dict_values_1 _) (meets_dict_values (mixKind X.prog X.w) a hsys) ⟨⟨vs, dof⟩, ?_⟩
  have k1 : ∀ b u, s1.heap.get? b = some u → (s1.heap.push { cls := .type "dict_values", data := .fields #[.ref a] }).get? b = some u := fun b u e => Heap.get?_push_of_some _ e
  have dat1 : (s1.heap.push { cls := .type "dict_values", data := .fields #[.ref a] }).DictAt (mixKind X.prog X.w) a vs ep := dat.keep k1
  have hlv : vs.length = is.length := by
    have e1 := congrArg List.length hv
    rw [List.length_map, List.length_map] at e1
    rw [← e1]
    exact (KV.length rel).symm
  have hval : ∀ (i : Nat) (v : Value), (∃ k, vs[i]? = some (k, v)) → ∃ x, is[i]? = some x ∧ L2.RelV (.str x) v := fun i v ⟨k, hk⟩ => by
    obtain ⟨x, h1, h2⟩ := KV.at' rel hk
    have e1 : (kvs.map (·.2))[i]? = some x := by rw [List.getElem?_map, h1] <;> rfl
    rw [hv, List.getElem?_map] at e1
    obtain ⟨j, hj, e2⟩ := Option.map_eq_some_iff.mp e1
    subst e2
    exact ⟨j, hj, h2⟩
  refine Calls.call_function_entry kind_sorted (by decide +kernel) entry_sorted (args_sorted1 _) ?_
  unfold Builtin.sorted
  refine wpAny_bind ?_
  unfold checkCount
  refine wpAny_pure ?_
  refine wpAny_bind (PySem.W.kdu_collect (A := X.A.in1) (PySem.W.kdl_values (knd := mixKind X.prog X.w) (r := s1.heap.objs.size) (d := a) (kvs := vs) (ep := ep)) (I.ok.hd hc) ⟨⟨_, Heap.get?_push_size _ rfl, rfl, rfl⟩, dat1⟩ (by rw [hlv]; exact small64 h64) fun h' tk acc hk hacc => ?_)
  have rv : Vals (is.map V.str) acc.toList := vals_at (by rw [Array.length_toList, hacc.1, hlv, List.length_map]) fun j v e => by
    obtain ⟨x, h1, h2⟩ := hval j v (hacc.2 j v (by rw [← Array.getElem?_toList]; exact e))
    exact ⟨.str x, by rw [List.getElem?_map, h1]; rfl, h2⟩
  have lo : acc.toList.length < 64 := by rw [Array.length_toList, hacc.1, hlv]; exact h64
  refine wpAny_bind (wpAny_newList ?_ (Nat.le_trans (Nat.le_of_lt lo) (by decide)))
  have I2 : L2.Inv X pins σ H1 { s1 with heap := h', toks := tk } := I1.kept (t' := tk) fun b u e => hk b u (k1 b u e)
  have hp : H1 h'.objs.size = none := I2.hok.fresh (Nat.le_refl _)
  have I3 : L2.Inv X pins σ (upd H1 h'.objs.size (.lst (is.map V.str))) { s1 with heap := h'.push { cls := Value.type "list", data := Data.seq acc.toList.toArray }, toks := tk } := by
    refine I2.laid (fun b u e => Heap.get?_push_of_some _ e) (Nat.le_refl _) ?_
    exact ⟨Nat.le_trans (by simp; omega : (is.map V.str).length ≤ 64) (by decide), acc.toList, 0, rv, Heap.get?_push_size _ rfl⟩
  refine wpAny_bind (wpAny_holding (thn (mt_sortS (X := inX X) pins _ σ _ (.ref h'.objs.size) [] (.ref h'.objs.size) [] (fun v H' => H' = upd H1 h'.objs.size (.lst (is.map V.str)) ∧ False ∨ ∃ zs : List Str, zs.Perm is ∧ sortedS zs = true ∧ H' = upd H1 h'.objs.size (.lst (zs.map V.str))) (inv_in I3) rfl .nil ?_) ?_))
  · refine ⟨h'.objs.size, is, rfl, rfl, upd_same, h64, fun zs p1 p2 => .inr ⟨zs, p1, p2, ?_⟩⟩
    funext b
    by_cases hb : b = h'.objs.size
    · subst hb; rw [upd_same, upd_same]
    · rw [upd_ne hb, upd_ne hb, upd_ne hb]
  · rintro r s2 ⟨v, H2, J, _, ⟨_, z⟩ | ⟨zs, p1, p2, rfl⟩⟩
    · exact z.elim
    · exact wpAny_pure ⟨_, rfl, .ref h'.objs.size, _, inv_out J, rfl, q zs _ p1 p2 hp⟩
def fSortVals (f : EF) : EF := fun sl st => (f sl st).bind fun d st1 => match d with
  | .dct kvs => (match textsOf (kvs.map (·.2)) with
    | some l => kSorted l st1
    | none => .stuck)
  | _ => .stuck
theorem vals_dr {G : Hp} {as : List Addr} : ∀ {vs : List (Key × V)} {ds : List (Key × D)}, DRk K G as vs ds → DRs K G as (vs.map (·.2)) (ds.map (·.2))
  | [], _, h => by cases h; exact .nil
  | v :: vs, _, h => by
    cases h with
    | cons r t => exact .cons r (vals_dr t)
variable {f : EF}
theorem x_sortVals (hc : X.calm = true) (hm : X.mg "sorted" = none) (hd : PX X W o f) (hg : Gl X "sorted" := by rfl) (hbase : attributeBase o "values" X.env (eval o X.env) = eval o X.env := by rfl) (hline : (apos.endLine == mpos.line) = true := by rfl)
    (hse : starEach [PySem.Expr.Call (.Attribute o "values" apos) [] [] mpos] X.env = [(false, eval (PySem.Expr.Call (.Attribute o "values" apos) [] [] mpos) X.env)] := by rfl) :
    PX X W (.Call (.Name "sorted" p) [.Call (.Attribute o "values" apos) [] [] mpos] [] pos) (fSortVals f) := pe_imp (pe_sortVals hc hg hm hd hbase hline hse) fun σ H Q w => by
  obtain ⟨c, sl, rfl, S, L, P⟩ := w
  refine ⟨c, sl, rfl, S, L, Post.bind P fun v d c1 s1 o1 r1 P1 => ?_⟩
  split at P1
  · next kvs =>
    split at P1
    · next l hn =>
      cases r1 with
      | dct h1 h2 =>
        unfold kSorted at P1
        split at P1
        · next hl =>
          refine ⟨_, _, l, rfl, .inr ⟨_, o1.ex _ _ h1⟩, textsOf_ok hn (vals_dr h2), hl, fun ys q p1 p2 hq => ?_⟩
          have e := sortS_is p1 p2
          subst e
          exact newTree o1 hq (strs_dr _) P1
        · exact P1.elim
    · exact P1.elim
  · exact P1.elim
end
section
variable {W : WX} {X : Cx} {a b : PySem.Expr} {f g : EF} {pos : Pos}
theorem xt_in3 {C : Addr} {j k : Nat} {F : DF} (d : Mt X.prog X.w X.K X.mg X.base C "__contains__" j 2 F) (hr : Room k X.A) (hj : j ≤ k) (hu : X.A.units + 1 < cLine) (ha : PX X W a f) (hb : PX X W b g) (hm : behindInMarks .In b = false := by rfl) : XT X W (.Compare a [.In] [b] pos) (f2 (zIn3 false C F) f g) :=
  xt_or2 (fun x y st => by unfold zIn3; split; exact .inl rfl; exact .inr rfl) (xt_cmp (z := zOwnIn false C F) (op_ownIn d (hr.mono hj)) (fun c v w x y Q S r1 r2 P => zOwnIn_inv S r1 r2 P) ha hb hm) (xt_in2 hu ha hb hm)
theorem xt_notIn3 {C : Addr} {j k : Nat} {F : DF} (d : Mt X.prog X.w X.K X.mg X.base C "__contains__" j 2 F) (hr : Room k X.A) (hj : j ≤ k) (hu : X.A.units + 1 < cLine) (ha : PX X W a f) (hb : PX X W b g) (hm : behindInMarks .NotIn b = false := by rfl) : XT X W (.Compare a [.NotIn] [b] pos) (f2 (zIn3 true C F) f g) :=
  xt_or2 (fun x y st => by unfold zIn3; split; exact .inl rfl; exact .inr rfl) (xt_cmp (z := zOwnIn true C F) (op_ownNotIn d (hr.mono hj)) (fun c v w x y Q S r1 r2 P => by
    obtain ⟨a, dx, fs, rfl, h1, h2⟩ := zOwnIn_inv S r1 r2 P
    refine ⟨a, dx, fs, rfl, h1, ?_⟩
    obtain ⟨c2, ds, e, o, r, hn, P2⟩ := h2
    refine ⟨c2, ds, e, o, r, hn, ?_⟩
    cases q : F ds c2.st with
    | ok d st =>
      rw [q] at P2
      intro v c3 s3 o3 e3 r3
      obtain ⟨b, rfl, z⟩ := P2 v c3 s3 o3 e3 r3
      exact ⟨b, rfl, b, rfl, z⟩
    | err C d sl st => rw [q] at P2; exact P2
    | stuck => rw [q] at P2; exact P2) ha hb hm) (xt_notIn2 hu ha hb hm)
end
section
variable {K : PySem.W.Frag} {W : WX} {X : Cx}
/-! len of a dict too -/
def rLenD (K : PySem.W.Frag) : List V → Hp → VK → Prop := fun xs H Q => ∃ (a : Addr) (kvs : List (Key × V)), xs = [.ref a] ∧ Rd H a (.dK kvs) ∧ Q (.int kvs.length) H
theorem call_lenRd : CallR X (.builtin "len") (rLenD X.K) := by
  intro pins s σ H xs us Q I r ⟨a, kvs, ex, hd, q⟩
  subst ex
  obtain ⟨u, rfl, rx⟩ := vals1 r
  cases rx
  exact d_len I hd fun t s' I' => ⟨.int kvs.length, H, I', ⟨t, rfl⟩, q⟩
def zLenD : List D → ST → Res D
  | [.dct kvs], st => .ok (.int kvs.length) st
  | ds, st => zLen ds st
theorem drk_len {G : Hp} {as : List Addr} : ∀ {vs : List (Key × V)} {ds : List (Key × D)}, DRk K G as vs ds → vs.length = ds.length
  | [], _, h => by cases h; rfl
  | v :: vs, _, h => by
    cases h with
    | cons r t => rw [List.length_cons, List.length_cons, drk_len t]
theorem zLenD_ok : OpA K W (fun xs H Q => rLenD K xs H Q ∨ ∃ x n, xs = [x] ∧ LenV K x H n ∧ Q (.int n) H) zLenD := fun c vs ds Q S r P => by
  unfold zLenD at P
  split at P
  · cases r with
    | cons r1 t =>
      cases t
      cases r1 with
      | dct h1 h2 =>
        refine .inl ⟨_, _, rfl, .inr ⟨_, S.ex _ _ h1⟩, ?_⟩
        rw [drk_len h2]
        exact Post.ok S (.int _) P
  · exact .inr (zLen_ok c vs _ Q S r P)
end
end Rq
set_option Elab.async false
set_option linter.all false
set_option maxRecDepth 100000
set_option maxHeartbeats 4000000
/-! Rq, part 49: xs.pop(); sorted of a list of data. -/
namespace Rq
open PySem PySem.Spec PyProof.Rows L2
section
variable {K : PySem.W.Frag} {W : WX} {c : Cf} {X : Cx} {o : PySem.Expr} {f : EF} {pos apos cpos p : Pos}
/-! xs.pop() -/
def zPop : D → ST → Res D
  | .cel k, st => match st[k]? with
    | some (some (.lst xs)) => (match xs[xs.length - 1]? with
      | some d => .ok d (st.set k (some (.lst xs.dropLast)))
      | none => .stuck)
    | _ => .stuck
  | _, _ => .stuck
theorem dropLast_erase {α : Type} (l : List α) : l.dropLast = l.eraseIdx (l.length - 1) := List.eraseIdx_length_sub_one.symm
theorem x_pop (ho : PX X W o f) (hbase : attributeBase o "pop" X.env (eval o X.env) = eval o X.env := by rfl) (hline : (apos.endLine == cpos.line) = true := by rfl) :
    PX X W (.Call (.Attribute o "pop" apos) [] [] cpos) (f1 zPop f) := pe_imp (pe_bm0 PySem.F.plainAttrs_list PySem.F.slot_list_pop PySem.F.type_list_pop mt_pop ho hbase hline) fun σ H Q w => by
  obtain ⟨c, sl, rfl, S, L, P⟩ := w
  refine ⟨c, sl, rfl, S, L, Post.bind P fun v x c1 s1 o1 r1 P1 => ?_⟩
  unfold zPop at P1
  split at P1
  · next k =>
    split at P1
    · next xs hk =>
      split at P1
      · next d hd =>
        rw [dropLast_erase] at P1
        obtain ⟨a, us, rfl, h1, h2, h3⟩ := setCell o1 r1 hk (fun us => us.eraseIdx (xs.length - 1)) (fun us hu => hu.erase (xs.length - 1)) (fun us hu => let ⟨u, _, q⟩ := hu.get _ d hd; ⟨u, q⟩) P1
        obtain ⟨u, q1, q2⟩ := h2.get _ d hd
        have hl := DRs.length h2
        refine ⟨tyV_list o1 r1 (xs := xs) (by unfold asL; simp only [hk]), a, us, u, rfl, rfl, h1, ?_, ?_⟩
        · rw [hl]; exact q1
        · rw [dropLast_erase, hl]; exact h3 u q2
      · exact P1.elim
    · exact P1.elim
  · exact P1.elim
/-! sorted(xs), data -/
theorem each_vals : ∀ {vs : List V} {us : List Value} {ds : List PyData}, Vals vs us → vs.length = ds.length → PySem.W.EachIs (fun u (b : V × PyData) => L2.RelV b.1 u) us (vs.zip ds)
  | _, _, [], .nil, _ => .nil
  | _, _, d :: ds, .cons r t, h => .cons r (each_vals t (by simpa using h))
  | _, _, [], .cons r t, h => by cases h
  | _, _, _ :: _, .nil, h => by cases h
theorem each_reads {h' : Heap} : ∀ {vs : List V} {us : List Value} {ds : List PyData} {as : List Addr}, ReadsAll h' us ds as → vs.length = ds.length → PySem.W.EachIs (fun u (b : V × PyData) => ∃ as, Reads h' u b.2 as) us (vs.zip ds)
  | [], _, _, _, .nil, _ => .nil
  | v :: vs, _, _, _, .cons r t, h => .cons ⟨_, r⟩ (each_reads t (by simpa using h))
  | [], _, _, _, .cons r t, h => by cases h
  | _ :: _, _, _, _, .nil, h => by cases h
theorem vals_each : ∀ {us : List Value} {bs : List (V × PyData)}, PySem.W.EachIs (fun u (b : V × PyData) => L2.RelV b.1 u) us bs → Vals (bs.map Prod.fst) us
  | _, _, .nil => .nil
  | _, _, .cons r t => .cons r (vals_each t)
def rSortD (K : PySem.W.Frag) : List V → Hp → VK → Prop := fun xs H Q => ∃ (a : Addr) (us : List V) (ds : List PyData), xs = [.ref a] ∧ SqL K H a us ∧ Dp K H (.ref a) (.list ds) ∧ PySem.W.AllAlike ds ∧ PySem.W.Sortable ds ∧ PyData.depthAll ds ≤ 100 ∧
  ∀ p, H p = none → Q (.ref p) (upd H p (.lst (((us.zip ds).mergeSort (PySem.W.dataLe false Prod.snd)).map Prod.fst)))
theorem depth_mem : ∀ {ds : List PyData} {d : PyData}, d ∈ ds → d.depth ≤ PyData.depthAll ds
  | [], _, h => by cases h
  | x :: xs, d, h => by
    rw [PyData.depthAll]
    rcases List.mem_cons.mp h with rfl | h
    · omega
    · have := depth_mem h; omega
theorem cr_sortedD (hu : X.A.units + 200 < cLine) : CallR X (.builtin "sorted") (rSortD X.K) := by
  intro pins s σ H xs us Q I rx ⟨a, vs, ds, e, hs, hd, ha, hk, hdp, hq⟩
  subst e
  cases rx with
  | cons r t =>
    cases t
    rename_i z
    obtain ⟨its, rv, hl, hsz⟩ := I.list hs
    obtain ⟨as, rd⟩ := Dp.reads I _ _ z hd r
    have hz : z = .ref a := by cases r; rfl
    subst hz
    cases rd with
    | list h1 h2 h3 h4 =>
      obtain ⟨o, n, e1, e2, e3, e4⟩ := hl
      rw [e1] at h1
      cases h1
      rw [e4] at h3
      injection h3 with h5 _
      subst h5
      have l1 : its.length = ds.length := PySem.W.readsAll_len h4
      have l2 : vs.length = ds.length := by rw [rv.length]; exact l1
      have em : (vs.zip ds).map Prod.snd = ds := by rw [List.map_snd_zip]; omega
      have el : (vs.zip ds).length = ds.length := by rw [List.length_zip]; omega
      refine PySem.W.sorted_data (enc := Prod.snd) ⟨_, e1, e2, n, e4⟩ (each_vals rv l2) (each_reads h4 l2) (by rw [em]; exact ha) (by rw [em]; exact hk) (by rw [el, ← l2]; exact hsz) (fun b hb => ?_) fun out h1 h2 => ?_
      · have : b.2 ∈ ds := by rw [← em]; exact List.mem_map.mpr ⟨b, hb, rfl⟩
        have := depth_mem this
        omega
      · obtain ⟨ep, he'⟩ := PyProof.Rows.sortedAll_at s.heap its out.toArray
        refine ⟨.ref _, upd H (s.heap.objs.size + 1) (.lst _), I.laid (t' := s.toks) (fun _ _ => PyProof.Rows.sortedAll_old) (Nat.le_succ _) ⟨?_, out, ep, vals_each h2, by simpa using he'⟩, rfl, hq _ (I.hok.fresh (Nat.le_succ _))⟩
        rw [List.length_map, List.length_mergeSort, el, ← l2]
        exact hsz
def sortD (xs : List D) (ds : List PyData) : List D := ((xs.zip ds).mergeSort (PySem.W.dataLe false Prod.snd)).map Prod.fst
def sortableB (ds : List PyData) : Bool := (ds.all fun d => match d with | .tuple (_ :: _) => true | _ => false) || (ds.all fun d => match d with | .none => false | .tuple _ => false | _ => true)
theorem sortableB_ok {ds : List PyData} (h : sortableB ds = true) : PySem.W.Sortable ds := by
  unfold sortableB at h
  rw [Bool.or_eq_true, List.all_eq_true, List.all_eq_true] at h
  rcases h with h | h
  · refine .inl fun d hd => ?_
    have q := h d hd
    split at q
    · exact ⟨_, _, rfl⟩
    · cases q
  · refine .inr fun d hd => ?_
    have q := h d hd
    split at q
    · cases q
    · cases q
    · next h1 h2 => exact ⟨h1, h2⟩
def allAlikeB (ds : List PyData) : Bool := ds.all fun x => ds.all fun y => PySem.W.alike x y
theorem allAlikeB_ok {ds : List PyData} (h : allAlikeB ds = true) : PySem.W.AllAlike ds := fun d hd d' hd' => List.all_eq_true.mp (List.all_eq_true.mp h d hd) d' hd'
def zSortD : List D → ST → Res D
  | [x], st => match asL x st with
    | some xs => (match toPyS x st with
      | some (.list ds) => if allAlikeB ds = true ∧ sortableB ds = true ∧ PyData.depthAll ds ≤ 100 then .ok (.lst (sortD xs ds)) st else .stuck
      | _ => .stuck)
    | none => .stuck
  | _, _ => .stuck
theorem drs_mem {G : Hp} {as : List Addr} : ∀ {vs : List V} {ds : List D}, DRs K G as vs ds → ∀ p ∈ vs.zip ds, DR K G as p.1 p.2
  | _, _, .nil, p, h => by cases h
  | _, _, .cons r t, p, h => by
    rw [List.zip_cons_cons] at h
    rcases List.mem_cons.mp h with rfl | h
    · exact r
    · exact drs_mem t p h
theorem drs_all {α : Type} {G : Hp} {as : List Addr} (f : α → V) (g : α → D) : ∀ {l : List α}, (∀ t ∈ l, DR K G as (f t) (g t)) → DRs K G as (l.map f) (l.map g)
  | [], _ => .nil
  | t :: l, h => .cons (h t List.mem_cons_self) (drs_all f g fun t ht => h t (List.mem_cons_of_mem _ ht))
theorem zip_zip_l {α β γ : Type} : ∀ {us : List α} {xs : List β} {ds : List γ}, us.length = xs.length → ((us.zip xs).zip ds).map (fun t => (t.1.1, t.2)) = us.zip ds
  | [], [], _, _ => by simp
  | u :: us, x :: xs, [], _ => by simp
  | u :: us, x :: xs, d :: ds, h => by simp [zip_zip_l (us := us) (xs := xs) (ds := ds) (by simpa using h)]
  | [], _ :: _, _, h => by cases h
  | _ :: _, [], _, h => by cases h
theorem zip_zip_r {α β γ : Type} : ∀ {us : List α} {xs : List β} {ds : List γ}, us.length = xs.length → ((us.zip xs).zip ds).map (fun t => (t.1.2, t.2)) = xs.zip ds
  | [], [], _, _ => by simp
  | u :: us, x :: xs, [], _ => by simp
  | u :: us, x :: xs, d :: ds, h => by simp [zip_zip_r (us := us) (xs := xs) (ds := ds) (by simpa using h)]
  | [], _ :: _, _, h => by cases h
  | _ :: _, [], _, h => by cases h
theorem sortD_drs {G : Hp} {as : List Addr} {us : List V} {xs : List D} {ds : List PyData} (r : DRs K G as us xs) : DRs K G as (((us.zip ds).mergeSort (PySem.W.dataLe false Prod.snd)).map Prod.fst) (sortD xs ds) := by
  unfold sortD
  have hl : us.length = xs.length := DRs.length r
  rw [← zip_zip_l (ds := ds) hl, ← zip_zip_r (ds := ds) hl]
  rw [← PySem.W.sort_maps (r := PySem.W.dataLe false (fun t : (V × D) × PyData => t.2)) (s := PySem.W.dataLe false Prod.snd) (fun t : (V × D) × PyData => (t.1.1, t.2)) (fun _ _ _ _ => rfl),
    ← PySem.W.sort_maps (r := PySem.W.dataLe false (fun t : (V × D) × PyData => t.2)) (s := PySem.W.dataLe false Prod.snd) (fun t : (V × D) × PyData => (t.1.2, t.2)) (fun _ _ _ _ => rfl), List.map_map, List.map_map]
  refine drs_all _ _ fun t ht => ?_
  have ht := List.mem_mergeSort.mp ht
  exact drs_mem r _ (List.of_mem_zip (show (t.1, t.2) ∈ _ from ht)).1
theorem zSortD_ok : OpA K W (rSortD K) zSortD := fun c vs ds Q S r P => by
  unfold zSortD at P
  split at P
  · next x st =>
    split at P
    · next xs hx =>
      split at P
      · next dd hd =>
        split at P
        · next hk =>
          cases r with
          | cons r1 t =>
            cases t
            obtain ⟨a, us, rfl, h1, h2⟩ := asL_ok S r1 hx
            exact ⟨a, us, dd, rfl, h1, toPyS_ok S r1 hd, allAlikeB_ok hk.1, sortableB_ok hk.2.1, hk.2.2, fun p hq => newTree S hq (sortD_drs h2) P⟩
        · exact P.elim
      · exact P.elim
    · exact P.elim
  · exact P.elim
theorem x_sortD {e : PySem.Expr} {es : List PySem.Expr} {g : AF} (hu : X.A.units + 200 < cLine) (hm : X.mg "sorted" = none) (ha : PXs X W (e :: es) g) (hg : Gl X "sorted" := by rfl)
    (hs : starEach (e :: es) X.env = (false, eval e X.env) :: starEach es X.env := by rfl) (hpl : (backTo pos (starEach es X.env)).any (·.1) = false := by rfl) : PX X W (.Call (.Name "sorted" p) (e :: es) [] pos) (fA zSortD g) :=
  x_bltn (cr_sortedD hu) zSortD_ok hm PyProof.Rows.boot_sorted ha hg (by decide) (by decide) hs hpl
end
/-! range(lo, n, c) -/
section
variable {K : PySem.W.Frag} {W : WX} {c : Cf} {X : Cx} {a b e : PySem.Expr} {tg : PySem.Expr} {pos p : Pos}
def rangeC (lo c : Int) (n : Nat) : List D := (List.range n).map fun (i : Nat) => D.int (lo + (i : Int) * c)
theorem ylds_rangeC {lo k : Int} {n : Nat} : Ylds K c (Itc lo k n) (rangeC lo k n) := by
  have e : (rangeC lo k n).length = n := by simp [rangeC]
  refine ⟨YFn fun i => .int (lo + (i : Nat) * k), by rw [e]; exact (walk_rangeC (lo := lo) (c := k) (n := n)).mono (fun _ _ => trivial) (fun _ _ _ _ _ _ y => y), fun i x H H' d hd e y => .inl ⟨y.1, ?_⟩⟩
  have := y.2
  subst this
  unfold rangeC at hd
  rw [List.getElem?_map] at hd
  obtain ⟨j, h1, h2⟩ := Option.map_eq_some_iff.mp hd
  have h3 : j = i := by
    rw [List.getElem?_eq_some_iff] at h1
    obtain ⟨_, h1⟩ := h1
    rw [List.getElem_range] at h1
    exact h1.symm
  subst h3
  subst h2
  exact .int _
def fRange3 (g : AF) : AF := fun sl st => (g sl st).bind fun ds st1 => match ds with
  | [.int i, .int j, .int k] => if k ≠ 0 ∧ k.natAbs < 1073741824 ∧ Builtin.Range.small i j k = true ∧ 0 ≤ Builtin.Range.rangeSize i j k then .ok (rangeC i k (Builtin.Range.rangeSize i j k).toNat) st1 else .stuck
  | _ => .stuck
theorem xi_range3 {g : AF} (hm : X.mg "range" = none) (ha : PXs X W [a, b, e] g) (hg : Gl X "range" := by rfl) (hs : starEach [a, b, e] X.env = (false, eval a X.env) :: starEach [b, e] X.env := by rfl) (hpl : (backTo pos (starEach [b, e] X.env)).any (·.1) = false := by rfl) :
    XI X W tg (.Call (.Name "range" p) [a, b, e] [] pos) (fRange3 g) :=
  pi_imp (pi_range3 hg hm ha hs hpl) fun σ H R w => by
  obtain ⟨c, sl, rfl, S, L, P⟩ := w
  refine ⟨c, sl, rfl, S, L, Post.bind P fun vs ds c1 s1 o1 r1 P1 => ?_⟩
  split at P1
  · next i j k =>
    split at P1
    · next h =>
      cases r1 with
      | cons r1 t =>
        cases r1
        cases t with
        | cons r2 t =>
          cases r2
          cases t with
          | cons r3 t =>
            cases r3; cases t
            exact ⟨i, j, k, _, rfl, ⟨h.1, h.2.1, h.2.2.1, by have := h.2.2.2; omega⟩, P1 _ c1 (Step.refl _) o1 rfl ylds_rangeC⟩
    · exact P1.elim
  · exact P1.elim
end
/-! what it tells -/
theorem sortD_map {β : Type} (f : β → D) (g : β → PyData) (l : List β) : sortD (l.map f) (l.map g) = (l.mergeSort (PySem.W.dataLe false g)).map f := by
  unfold sortD
  have e : (l.map f).zip (l.map g) = l.map (fun b => (f b, g b)) := by
    rw [List.zip_map']
  rw [e, ← PySem.W.sort_maps (r := PySem.W.dataLe false g) (s := PySem.W.dataLe false Prod.snd) (fun b => (f b, g b)) (fun _ _ _ _ => rfl), List.map_map]
  rfl
end Rq
set_option Elab.async false
set_option linter.all false
set_option maxRecDepth 100000
set_option maxHeartbeats 4000000
/-! Rq, part 50: list of a text. -/
namespace Rq
open PySem PySem.Spec PyProof.Rows L2
section
variable {K : PySem.W.Frag} {W : WX} {c : Cf} {X : Cx}
def signsV (z : Str) : List V := z.cps.toList.map fun c => V.str ⟨#[c]⟩
abbrev rListS : List V → Hp → VK → Prop := fun xs H Q => ∃ z : Str, xs = [.str z] ∧ z.length ≤ sizeLine ∧ ∀ p, H p = none → Q (.ref p) (upd H p (.lst (signsV z)))
theorem call_listS (hcalm : X.calm = true) : CallR X (.type "list") rListS := by
  intro pins s σ H xs us Q I r ⟨z, ex, hl, q⟩
  subst ex
  obtain ⟨u, eu, rx⟩ := vals1 r
  subst eu
  obtain ⟨t, rfl⟩ := rx
  refine PySem.call_list_str (I.ok.hd hcalm) z t (hn := hl) fun h' tk acc c' hk hD hacc => ?_
  have ls : (signsV z).length = z.cps.size := by unfold signsV; rw [List.length_map, Array.length_toList]
  have hv : Vals (signsV z) acc.toList := vals_at (by rw [Array.length_toList, hacc.1, ls]) fun j v e => by
    obtain ⟨n, u, h1, h2⟩ := hacc.2 j v (by rw [← Array.getElem?_toList]; exact e)
    refine ⟨.str ⟨#[n]⟩, ?_, ?_⟩
    · unfold signsV
      rw [List.getElem?_map, Array.getElem?_toList, h1]
      rfl
    · rw [h2]
      exact ⟨u, rfl⟩
  exact ⟨.ref s.heap.objs.size, upd H s.heap.objs.size (.lst (signsV z)), I.laid (t' := tk) hk (Nat.le_refl _)
    (show ObjOk X.prog X.w _ _ _ (.lst (signsV z)) from ⟨by rw [ls]; exact hl, acc.toList, c', hv, by rw [Array.toArray_toList]; exact hD⟩), rfl, q _ (I.hok.fresh (Nat.le_refl _))⟩
def zListS : List D → ST → Res D
  | [.str z], st => if szOk z.length then .ok (.lst (signsD z)) st else .stuck
  | _, _ => .stuck
theorem signs_drs {G : Hp} {as : List Addr} (z : Str) : DRs K G as (signsV z) (signsD z) := drs_all (fun c => V.str ⟨#[c]⟩) (fun c => D.str ⟨#[c]⟩) fun _ _ => .str _
theorem zListS_ok : OpA K W rListS zListS := fun c vs ds Q S r P => by
  unfold zListS at P
  split at P
  · next st z =>
    split at P
    · next hz =>
      cases r with
      | cons r1 t =>
        cases t
        cases r1
        exact ⟨z, rfl, szLe (of_decide_eq_true hz), fun p hp => newTree S hp (signs_drs z) P⟩
    · exact P.elim
  · exact P.elim
end
end Rq
set_option Elab.async false
set_option linter.all false
set_option maxRecDepth 100000
set_option maxHeartbeats 4000000
/-! Rq, part 51: tuples of the module; is True, is False. -/
namespace Rq
open PySem PySem.Spec PyProof.Rows L2
/-- a name of the module that is a tuple of texts, numbers -/
structure GTup (K : PySem.W.Frag) (mg : Str → Option Value) (x : Str) (ds : List D) : Prop where
  ex : ∃ (a : Addr) (o : Obj) (its : Array Value) (n : Nat) (vs : List V), mg x = some (.ref a) ∧ K.lookup a = some o ∧ o.cls = .type "tuple" ∧ o.data = .seq its n ∧ its.size ≤ sizeLine ∧ Vals vs its.toList ∧ ∀ (G : Hp) (as : List Addr), DRs K G as vs ds
section
variable {K : PySem.W.Frag} {W : WX} {X : Cx} {a b : PySem.Expr} {f g : EF} {pos : Pos}
theorem x_gtup {x : Str} {ds : List D} (h : GTup X.K X.mg x ds) (hg : Gl X x := by rfl) (hd : (x == ("__debug__" : Str)) = false := by decide) : PX X W (.Name x pos) (fC (.tup ds)) := by
  obtain ⟨t, o, its, n, vs, h1, h2, h3, h4, h5, h6, h7⟩ := h.ex
  exact x_glob (v := .ref t) (d := .tup ds) hg h1 rfl (fun c => .tup (.inr ⟨o, its, n, h2, h3, h4, h5, h6⟩) (h7 c.G c.as)) hd
def zIsB (neg : Bool) (x y : D) (st : ST) : Res D := match x, y with
  | .bl i, .bl j => .ok (.bl (if neg then !decide (i = j) else decide (i = j))) st
  | _, _ => .stuck
theorem zIsB_ok : Op2 K W (fun x y H Q => ∃ a b, x = .bl a ∧ y = .bl b ∧ Q (.bl (decide (a = b))) H) (zIsB false) := by
  intro c v w x y Q S r1 r2 P
  unfold zIsB at P
  split at P
  · cases r1; cases r2
    exact ⟨_, _, rfl, rfl, Post.ok S (.bl _) P⟩
  · exact P.elim
theorem zIsntB_ok : Op2 K W (fun x y H Q => ∃ a b, x = .bl a ∧ y = .bl b ∧ Q (.bl (!decide (a = b))) H) (zIsB true) := by
  intro c v w x y Q S r1 r2 P
  unfold zIsB at P
  split at P
  · cases r1; cases r2
    exact ⟨_, _, rfl, rfl, Post.ok S (.bl _) P⟩
  · exact P.elim
theorem x_isB (ha : PX X W a f) (hb : PX X W b g) : PX X W (.Compare a [.Is] [b] pos) (f2 (zIsB false) f g) := x_cmp op_is_bl zIsB_ok ha hb (nomark _)
theorem x_notB (ha : PX X W a f) (hb : PX X W b g) : PX X W (.Compare a [.IsNot] [b] pos) (f2 (zIsB true) f g) := x_cmp op_isnot_bl zIsntB_ok ha hb (nomark _)
theorem xt_isB (ha : PX X W a f) (hb : PX X W b g) : XT X W (.Compare a [.Is] [b] pos) (f2 (zIsB false) f g) := xt_cmp op_is_bl zIsB_ok ha hb (nomark _)
theorem xt_notB (ha : PX X W a f) (hb : PX X W b g) : XT X W (.Compare a [.IsNot] [b] pos) (f2 (zIsB true) f g) := xt_cmp op_isnot_bl zIsntB_ok ha hb (nomark _)
end
end Rq
set_option Elab.async false
set_option linter.all false
set_option maxRecDepth 100000
set_option maxHeartbeats 400000
/-! Rq, part 52: what does not look at the first slot; a def that calls what it is handed, whatever it then tells. -/
namespace Rq
open PySem PySem.Spec PyProof.Rows L2
theorem ne_bind {α β : Type} (r : Res α) (k : α → ST → Res β) : (r.bind k).ne = r.ne.bind fun a st => (k a st).ne := by cases r <;> rfl
theorem ne_ne {α : Type} (r : Res α) : r.ne.ne = r.ne := by cases r <;> rfl
theorem ne_cases {α : Type} (r : Res α) : (∃ a s, r.ne = .ok a s) ∨ r.ne = .stuck := by
  cases r with
  | ok a s => exact .inl ⟨a, s, rfl⟩
  | err => exact .inr rfl
  | stuck => exact .inr rfl
def EB (f : EF) : Prop := ∀ v v' t st, (f (v :: t) st).ne = (f (v' :: t) st).ne
def AB (g : AF) : Prop := ∀ v v' t st, (g (v :: t) st).ne = (g (v' :: t) st).ne
def CB (g : CF) : Prop := ∀ v v' t st, (g (v :: t) st).ne = (g (v' :: t) st).ne
def TB (tf : TF) : Prop := ∀ d v v' t, (∃ t', tf d (v :: t) = some (v :: t') ∧ tf d (v' :: t) = some (v' :: t')) ∨ tf d (v :: t) = none ∧ tf d (v' :: t) = none
def TsB (tf : List D → SL → Option SL) : Prop := ∀ ds v v' t, (∃ t', tf ds (v :: t) = some (v :: t') ∧ tf ds (v' :: t) = some (v' :: t')) ∨ tf ds (v :: t) = none ∧ tf ds (v' :: t) = none
inductive FlR (v v' : Option D) : Res Fl → Res Fl → Prop
  | stuck : FlR v v' .stuck .stuck
  | nx (t : SL) (st : ST) : FlR v v' (.ok (.nx (v :: t)) st) (.ok (.nx (v' :: t)) st)
  | bk (t : SL) (st : ST) : FlR v v' (.ok (.bk (v :: t)) st) (.ok (.bk (v' :: t)) st)
  | ct (t : SL) (st : ST) : FlR v v' (.ok (.ct (v :: t)) st) (.ok (.ct (v' :: t)) st)
  | rt (d : D) (st : ST) : FlR v v' (.ok (.rt d) st) (.ok (.rt d) st)
def SB (F : SF) : Prop := ∀ v v' t st, FlR v v' (F (v :: t) st).ne (F (v' :: t) st).ne
theorem eb_var (i : Nat) : EB (fVar (i + 1)) := fun _ _ _ _ => rfl
theorem eb_c (d : D) : EB (fC d) := fun _ _ _ _ => rfl
theorem eb_f1 {z : D → ST → Res D} {f : EF} (h : EB f) : EB (f1 z f) := fun v v' t st => by
  unfold f1
  rw [ne_bind, ne_bind, h v v' t st]
theorem eb_f2 {z : D → D → ST → Res D} {f g : EF} (h : EB f) (h2 : EB g) : EB (f2 z f g) := fun v v' t st => by
  unfold f2
  rw [ne_bind, ne_bind, h v v' t st]
  congr 1
  funext a s
  rw [ne_bind, ne_bind, h2 v v' t s]
theorem ab_nil : AB fNil := fun _ _ _ _ => rfl
theorem ab_cons {f : EF} {g : AF} (h : EB f) (h2 : AB g) : AB (fCons f g) := fun v v' t st => by
  unfold fCons
  rw [ne_bind, ne_bind, h v v' t st]
  congr 1
  funext a s
  rw [ne_bind, ne_bind, h2 v v' t s]
theorem eb_a {z : List D → ST → Res D} {g : AF} (h : AB g) : EB (fun sl st => (g sl st).bind z) := fun v v' t st => by
  show ((g (v :: t) st).bind z).ne = ((g (v' :: t) st).bind z).ne
  rw [ne_bind, ne_bind, h v v' t st]
theorem eb_fA {z : List D → ST → Res D} {g : AF} (h : AB g) : EB (fA z g) := eb_a h
theorem eb_tup {g : AF} (h : AB g) : EB (fTup g) := eb_a h
theorem eb_lst {g : AF} (h : AB g) : EB (fLst g) := eb_a h
theorem eb_new {g : AF} (h : AB g) : EB (fNew g) := eb_a h
theorem eb_m {z : D → List D → ST → Res D} {f : EF} {g : AF} (h : EB f) (h2 : AB g) : EB (fM z f g) := fun v v' t st => by
  unfold fM
  rw [ne_bind, ne_bind, h v v' t st]
  congr 1
  funext a s
  cases asL a s with
  | none => rfl
  | some _ =>
    dsimp only
    rw [ne_bind, ne_bind, h2 v v' t s]
theorem eb_ife {c f g : EF} (h : EB c) (h1 : EB f) (h2 : EB g) : EB (fIfE c f g) := fun v v' t st => by
  unfold fIfE fTest
  rw [ne_bind, ne_bind, h v v' t st]
  congr 1
  funext a s
  cases a <;> first | rfl | skip
  next b =>
    cases b
    · exact h2 v v' t s
    · exact h1 v v' t s
theorem ab_walk {f : EF} (h : EB f) : AB (fWalk f) := fun v v' t st => by
  unfold fWalk
  rw [ne_bind, ne_bind, h v v' t st]
theorem cb_yes : CB cYes := fun _ _ _ _ => rfl
theorem cb_one {f : EF} (h : EB f) : CB (cOne f) := fun v v' t st => by
  unfold cOne fTest
  rw [ne_bind, ne_bind, h v v' t st]
theorem tb_name (i : Nat) : TB (tName (i + 1)) := fun d v v' t => by
  unfold tName
  exact .inl ⟨_, rfl, rfl⟩
theorem tsb_nil : TsB tfNil := fun ds v v' t => by
  cases ds
  · exact .inl ⟨t, rfl, rfl⟩
  · exact .inr ⟨rfl, rfl⟩
theorem tsb_cons {a : TF} {b : List D → SL → Option SL} (ha : TB a) (hb : TsB b) : TsB (tfCons a b) := fun ds v v' t => by
  cases ds with
  | nil => exact .inr ⟨rfl, rfl⟩
  | cons d ds =>
    unfold tfCons
    dsimp only
    rcases ha d v v' t with ⟨t', h1, h2⟩ | ⟨h1, h2⟩
    · rw [h1, h2]
      exact hb ds v v' t'
    · rw [h1, h2]
      exact .inr ⟨rfl, rfl⟩
theorem tb_tup {n : Nat} {u : TFs} (h : TsB u) : TB (tTupT n u) := fun d v v' t => by
  unfold tTupT
  cases d with
  | tup ds =>
    dsimp only
    split
    · exact h ds v v' t
    · exact .inr ⟨rfl, rfl⟩
  | _ => exact .inr ⟨rfl, rfl⟩
theorem wipe_b : ∀ (vs : List Nat) (t : SL), (∀ i ∈ vs, 0 < i) → ∃ t', ∀ v, wipeD (v :: t) vs = v :: t'
  | [], t, _ => ⟨t, fun _ => rfl⟩
  | i :: vs, t, h => by
    obtain ⟨t', ht⟩ := wipe_b vs t fun j hj => h j (List.mem_cons_of_mem _ hj)
    have hi := h i List.mem_cons_self
    obtain ⟨j, rfl⟩ : ∃ j, i = j + 1 := ⟨i - 1, by omega⟩
    refine ⟨t'.set j none, fun v => ?_⟩
    show (wipeD (v :: t) vs).set (j + 1) none = _
    rw [ht v]
    rfl
theorem comp_b {tf : TF} {cf : CF} {el : EF} (ht : TB tf) (hc : CB cf) (he : EB el) (v v' : Option D) (t : SL) : ∀ (ds : List D) (st : ST), (compF tf cf el (v :: t) ds st).ne = (compF tf cf el (v' :: t) ds st).ne
  | [], st => rfl
  | d :: r, st => by
    unfold compF
    rcases ht d v v' t with ⟨t', h1, h2⟩ | ⟨h1, h2⟩
    · rw [h1, h2]
      dsimp only
      rw [ne_bind, ne_bind, ne_ne, ne_ne, hc v v' t' st]
      congr 1
      funext b s
      cases b
      · exact comp_b ht hc he v v' t r s
      · show ((el (v :: t') s).ne.bind _).ne = ((el (v' :: t') s).ne.bind _).ne
        rw [ne_bind, ne_bind, ne_ne, ne_ne, he v v' t' s]
        congr 1
        funext y s2
        rw [ne_bind, ne_bind, comp_b ht hc he v v' t r s2]
    · rw [h1, h2]
theorem eb_lcK {kk : List D → ST → Res D} {fi : AF} {tf : TF} {cf : CF} {el : EF} {vs : List Nat} (hi : AB fi) (ht : TB tf) (hc : CB cf) (he : EB el) (hv : ∀ i ∈ vs, 0 < i := by decide) : EB (fLcK kk fi tf cf el vs) := fun v v' t st => by
  unfold fLcK
  rw [ne_bind, ne_bind, hi v v' t st]
  congr 1
  funext ds s
  split
  · obtain ⟨t', hw⟩ := wipe_b vs t hv
    rw [hw v, hw v', ne_bind, ne_bind, comp_b ht hc he v v' t' ds s]
  · rfl
theorem sb_next : SB fNext := fun v v' t st => .nx t st
theorem sb_seq {F G : SF} (h : SB F) (h2 : SB G) : SB (fSeq F G) := fun v v' t st => by
  unfold fSeq
  rw [ne_bind, ne_bind]
  have q := h v v' t st
  revert q
  generalize (F (v :: t) st).ne = a
  generalize (F (v' :: t) st).ne = b
  intro q
  cases q with
  | stuck => exact .stuck
  | nx t st => exact h2 v v' t st
  | bk t st => exact .bk t st
  | ct t st => exact .ct t st
  | rt d st => exact .rt d st
theorem sb_ret {f : EF} (h : EB f) : SB (fRet f) := fun v v' t st => by
  unfold fRet
  rw [ne_bind, ne_bind, h v v' t st]
  rcases ne_cases (f (v' :: t) st) with ⟨d, s, e⟩ | e
  · rw [e]
    exact .rt d s
  · rw [e]
    exact .stuck
theorem sb_expr {f : EF} (h : EB f) : SB (fExpr f) := fun v v' t st => by
  unfold fExpr
  rw [ne_bind, ne_bind, h v v' t st]
  rcases ne_cases (f (v' :: t) st) with ⟨d, s, e⟩ | e
  · rw [e]
    exact .nx t s
  · rw [e]
    exact .stuck
theorem sb_set {i : Nat} {f : EF} (h : EB f) : SB (fSet (i + 1) f) := fun v v' t st => by
  unfold fSet
  rw [ne_bind, ne_bind, h v v' t st]
  rcases ne_cases (f (v' :: t) st) with ⟨d, s, e⟩ | e
  · rw [e]
    exact .nx (t.set i (some d)) s
  · rw [e]
    exact .stuck
theorem sb_if {c : EF} {F G : SF} (h : EB c) (h1 : SB F) (h2 : SB G) : SB (fIf c F G) := fun v v' t st => by
  unfold fIf fTest
  rw [ne_bind, ne_bind, h v v' t st]
  rcases ne_cases (c (v' :: t) st) with ⟨d, s, e⟩ | e
  · rw [e]
    cases d with
    | bl b =>
      cases b
      · exact h2 v v' t s
      · exact h1 v v' t s
    | _ => exact .stuck
  · rw [e]
    exact .stuck
theorem body_ne (N : Nat) (F : SF) (ds : List D) (st : ST) : (bodyF N F ds st).ne = (match (F (ds.map some ++ List.replicate (N - ds.length) none) st).ne with
    | .ok (.rt d) st1 => .ok d st1
    | .ok (.nx _) st1 => .ok .non st1
    | _ => .stuck) := by
  unfold bodyF
  cases F (ds.map some ++ List.replicate (N - ds.length) none) st with
  | ok fl s => cases fl <;> rfl
  | err => rfl
  | stuck => rfl
theorem drop_b {v v' : Option D} {a b : Res Fl} (h : FlR v v' a.ne b.ne) : FlR v v' (dropS 1 a).ne (dropS 1 b).ne := by
  cases a with
  | err => 
    cases b with
    | ok => cases h
    | err => exact .stuck
    | stuck => exact .stuck
  | stuck =>
    cases b with
    | ok => cases h
    | err => exact .stuck
    | stuck => exact .stuck
  | ok x s =>
    cases b with
    | err => cases h
    | stuck => cases h
    | ok y s' =>
      cases h with
      | nx t => exact .nx (t.set 0 none) _
      | bk t => exact .bk (t.set 0 none) _
      | ct t => exact .ct (t.set 0 none) _
      | rt d => exact .rt d _
theorem seq_b {v v' : Option D} {a b : Res Fl} {R : SF} (hR : SB R) (h : FlR v v' a.ne b.ne) : FlR v v' (a.bind fun fl st1 => match fl with | .nx sl1 => R sl1 st1 | fl => .ok fl st1).ne (b.bind fun fl st1 => match fl with | .nx sl1 => R sl1 st1 | fl => .ok fl st1).ne := by
  rw [ne_bind, ne_bind]
  revert h
  generalize a.ne = x
  generalize b.ne = y
  intro h
  cases h with
  | stuck => exact .stuck
  | nx t st => exact hR v v' t st
  | bk t st => exact .bk t st
  | ct t st => exact .ct t st
  | rt d st => exact .rt d st
/-- a def that calls what it is handed, and tells of the error that it catches -/
theorem ind_heard {n : Nat} {EL : List Str} {S R : SF} (hS : SB S) (hR : SB R) (fb : EF) (chk : Chk) (f c : Addr) (qn : Str) (σ : List (Option V)) (sl : SL) (st : ST) (h : chk f c qn σ = true) :
    (bodyF n (fSeq (fTry EL 1 (fExpr (fAct fb chk)) S) R) [.fn f c qn σ sl] st).ne = (bodyF n (fSeq (fTry EL 1 (fExpr (fAct fb chk1)) S) R) [.fn 0 0 "" [] sl] st).ne := by
  rw [body_ne, body_ne]
  have act : ∀ t, (fAct fb chk) (some (.fn f c qn σ sl) :: t) st = (fb sl st).at (some (.fn f c qn σ sl) :: t) := fun t => by
    unfold fAct
    simp only [List.getElem?_cons_zero, h, if_true]
  have act1 : ∀ t, (fAct fb chk1) (some (.fn 0 0 "" [] sl) :: t) st = (fb sl st).at (some (.fn 0 0 "" [] sl) :: t) := fun t => by
    unfold fAct
    simp only [List.getElem?_cons_zero, if_true]
  have key : ∀ (t : SL), FlR (some (.fn f c qn σ sl)) (some (.fn 0 0 "" [] sl)) ((fSeq (fTry EL 1 (fExpr (fAct fb chk)) S) R) (some (.fn f c qn σ sl) :: t) st).ne ((fSeq (fTry EL 1 (fExpr (fAct fb chk1)) S) R) (some (.fn 0 0 "" [] sl) :: t) st).ne := fun t => by
    unfold fSeq
    refine seq_b hR ?_
    unfold fTry fExpr
    rw [act, act1]
    cases fb sl st with
    | ok d st1 => exact .nx t st1
    | stuck => exact .stuck
    | err x d sl1 st1 =>
      simp only [Res.at, Res.bind]
      by_cases hE : EL.contains x = true
      · rw [if_pos hE, if_pos hE]
        exact drop_b (hS (some (.fn f c qn σ sl)) (some (.fn 0 0 "" [] sl)) (t.set 0 (some (.exc x d))) st1)
      · rw [if_neg hE, if_neg hE]
        exact .stuck
  have k := key (List.replicate (n - 1) none)
  show (match ((fSeq (fTry EL 1 (fExpr (fAct fb chk)) S) R) (some (.fn f c qn σ sl) :: List.replicate (n - 1) none) st).ne with | .ok (.rt d) st1 => Res.ok d st1 | .ok (.nx _) st1 => .ok .non st1 | _ => .stuck) = (match ((fSeq (fTry EL 1 (fExpr (fAct fb chk1)) S) R) (some (.fn 0 0 "" [] sl) :: List.replicate (n - 1) none) st).ne with | .ok (.rt d) st1 => Res.ok d st1 | .ok (.nx _) st1 => .ok .non st1 | _ => .stuck)
  revert k
  generalize ((fSeq (fTry EL 1 (fExpr (fAct fb chk)) S) R) (some (.fn f c qn σ sl) :: List.replicate (n - 1) none) st).ne = a
  generalize ((fSeq (fTry EL 1 (fExpr (fAct fb chk1)) S) R) (some (.fn 0 0 "" [] sl) :: List.replicate (n - 1) none) st).ne = b
  intro k
  cases k <;> rfl
end Rq
set_option Elab.async false
set_option linter.all false
set_option maxRecDepth 100000
set_option maxHeartbeats 4000000
/-! Rq, part 53: s.upper(). -/
namespace Rq
open PySem PySem.Spec PyProof.Rows L2
section
variable {K : PySem.W.Frag} {W : WX} {X : Cx} {o : PySem.Expr} {f : EF} {apos pos : Pos}
def zUpper (x : D) (st : ST) : Res D := match x with
  | .str s => if s.length ≤ 1000000 then .ok (.str (Txt.upper s)) st else .stuck
  | _ => .stuck
theorem x_upper (ho : PX X W o f) (hb : attributeBase o "upper" X.env (eval o X.env) = eval o X.env := by rfl) (hl : (apos.endLine == pos.line) = true := by rfl) : PX X W (.Call (.Attribute o "upper" apos) [] [] pos) (f1 zUpper f) :=
  pe_imp (pe_m0 PySem.F.slot_str_upper PySem.F.type_str_upper mt_upper ho hb hl) fun σ H Q w => by
  obtain ⟨c, sl, rfl, S, L, P⟩ := w
  refine ⟨c, sl, rfl, S, L, Post.bind P fun v x c1 s1 o1 r1 P1 => ?_⟩
  unfold zUpper at P1
  split at P1
  · next s =>
    split at P1
    · next h =>
      cases r1
      exact ⟨⟨s, rfl⟩, s, rfl, rfl, by omega, Post.ok o1 (.str _) P1⟩
    · exact P1.elim
  · exact P1.elim
end
end Rq
set_option Elab.async false
set_option linter.all false
set_option maxRecDepth 100000
set_option maxHeartbeats 4000000
/-! Rq, part 54: a dict written out, d.update(e), xs.remove(i), xs.index(x). -/
namespace Rq
open PySem PySem.Spec PyProof.Rows L2
section
variable {K : PySem.W.Frag} {W : WX} {c : Cf} {X : Cx} {a b e o : PySem.Expr} {es : List PySem.Expr} {f g h : EF} {pos apos cpos p : Pos}
/-! {k: v, ..} -/
def PD (X : Cx) (W : WX) (pos : Pos) (keys : List (Option PySem.Expr)) (vals : List PySem.Expr) (ks : List Key) (g : AF) : Prop :=
  ∃ trs, PPs X pos keys vals trs ∧ ∀ σ H (Q : List (V × V) → Hp → Prop), tA X.K W g σ H (fun vs H' => Q ((ks.zip vs).map fun q => (kV q.1, q.2)) H') → tPairs trs σ H Q
theorem pd_nil : PD X W pos [] [] [] fNil := ⟨[], pps_nil, fun σ H Q w => by
  obtain ⟨c, sl, rfl, S, L, P⟩ := w
  exact P [] c (Step.refl _) S rfl .nil⟩
theorem pd_cons {k v : PySem.Expr} {keys : List (Option PySem.Expr)} {vals : List PySem.Expr} {d : D} {key : Key} {ks : List Key} {g : AF} (hd : keyD d = some key) (hk : PX X W k (fC d)) (hv : PX X W v f) (hr : PD X W pos keys vals ks g) :
    PD X W pos (some k :: keys) (v :: vals) (key :: ks) (fCons f g) := by
  obtain ⟨trs, h1, h2⟩ := hr
  refine ⟨(tE X.K W (fC d), tE X.K W f) :: trs, pps_cons hk hv h1, fun σ H Q w => ?_⟩
  obtain ⟨c, sl, rfl, S, L, P⟩ := w
  refine ⟨c, sl, rfl, S, L, fun u c1 s1 o1 e1 r1 => ?_⟩
  cases keyD_ok r1 hd
  refine ⟨c1, sl, rfl, o1, s1.sl L, Post.bind (by rw [e1]; exact Post.mono s1 P) fun w d2 c2 s2 o2 r2 P2 => ?_⟩
  refine h2 σ c2.H _ ⟨c2, sl, rfl, o2, s2.sl (s1.sl L), Post.bind P2 fun vs ds c3 s3 o3 r3 P3 => ?_⟩
  exact P3 (w :: vs) c3 (Step.refl _) o3 rfl (.cons (s3.dr r2) r3)
def fDisp (ks : List Key) (g : AF) : EF := fun sl st => (g sl (st ++ [some (.dct [])])).bind fun ds st2 => match st2[st.length]? with
  | some (some (.dct kvs)) => if kvs.length = 0 ∧ ds.length = ks.length ∧ ks.length ≤ 15 then .ok (.cel st.length) (st2.set st.length (some (.dct (mergeD [] (ks.zip ds))))) else .stuck
  | _ => .stuck
theorem zip_dr {as : List Addr} {G : Hp} : ∀ {ks : List Key} {vs : List V} {ds : List D}, DRs K G as vs ds → DRk K G as (ks.zip vs) (ks.zip ds)
  | [], _, _, _ => by rw [List.zip_nil_left, List.zip_nil_left]; exact .nil
  | k :: ks, _, _, .nil => .nil
  | k :: ks, _, _, .cons r t => .cons r (zip_dr t)
theorem x_disp {keys : List (Option PySem.Expr)} {vals : List PySem.Expr} {ks : List Key} {g : AF} (h : PD X W pos keys vals ks g) (hall : keys.all (·.isSome) = true := by rfl) (hl : keys.length = vals.length := by rfl) (h0 : keys ≠ [] := by exact List.cons_ne_nil _ _)
    (h15 : keys.length ≤ 15 := by decide) : PX X W (.Dict keys vals pos) (fDisp ks g) := by
  obtain ⟨trs, h1, h2⟩ := h
  refine pe_imp (pe_disp h1 hall hl h0 h15) fun σ H Q w => ?_
  obtain ⟨c, sl, rfl, S, L, P⟩ := w
  intro p hp
  obtain ⟨o1, s1⟩ := Cf.cellNew S hp (d := .dct []) (o := .dK []) ⟨[], upd_same, .nil⟩
  have rp : Cf.DR X.K ⟨c.G, upd c.H p (.dK []), c.as ++ [p], c.st ++ [some (.dct [])]⟩ (.ref p) (.cel c.st.length) := .cel (by show (c.as ++ [p])[c.st.length]? = some p; rw [← S.len]; simp)
  refine h2 σ _ _ ⟨_, sl, rfl, o1, s1.sl L, Post.bind (Post.mono s1 P) fun vs ds c2 s2 o2 r2 P2 => ?_⟩
  have rp2 := s2.dr rp
  split at P2
  · next kvs hk =>
    split at P2
    · next hz =>
      obtain ⟨q, z1, _, us, z3, z4⟩ := o2.cell _ _ hk
      cases rp2 with
      | cel h5 =>
        rw [z1] at h5; cases h5
        have hk0 : kvs = [] := List.length_eq_zero_iff.mp hz.1
        subst hk0
        cases z4
        have hl2 := DRs.length r2
        refine ⟨z3, ks.zip vs, rfl, by rw [List.length_zip]; omega, ?_⟩
        obtain ⟨o3, s3⟩ := Cf.cellSet (d' := .dct (mergeD [] (ks.zip ds))) (o := .dK (mergeK [] (ks.zip vs))) o2 hk z1 ⟨_, upd_same, DRk.merge .nil (zip_dr r2)⟩
        exact P2 _ ⟨c2.G, upd c2.H p (.dK (mergeK [] (ks.zip vs))), c2.as, c2.st.set c.st.length (some (.dct (mergeD [] (ks.zip ds))))⟩ s3 o3 rfl (s3.dr (.cel z1))
    · exact P2.elim
  · exact P2.elim
/-! d.update(e) -/
def rUpd : V → List V → Hp → VK → Prop := fun x xs H Q => ∃ (a b : Addr) (kvs more : List (Key × V)), x = .ref a ∧ xs = [.ref b] ∧ a ≠ b ∧ H a = some (.dK kvs) ∧ Rd H b (.dK more) ∧ kvs.length + more.length ≤ sizeLine ∧ Q .non (upd H a (.dK (mergeK kvs more)))
theorem mt_upd : MtR X "dict.update" rUpd := by
  intro pins s σ H x xs v us Q I rx rxs h
  obtain ⟨a, b, kvs, more, rfl, rfl, hne, ea, eb, hsz, q⟩ := h
  cases rx
  cases rxs with
  | cons ry rt =>
    cases rt
    cases ry
    obtain ⟨z, hd, vs, rel, dd⟩ := dk_of I.hok ea
    obtain ⟨z2, hd2, ws, rel2, dd2⟩ := dk_rd I.hok eb
    refine call_meetsIn PySem.F.slot_dict_update dd.typeIs PySem.F.entry_dict_update (PySem.F.args_dict_update_2 _ _) (meets_dict_update (mixKind X.prog X.w) a b hne hd2)
      ⟨vs, ws, dd, dd2, by rw [← rel.length, ← rel2.length]; exact hsz, fun h' d1 d2 hs => ?_⟩
    have he : ∃ q, h'.get? a = some q := let ⟨q, _, _, hq, _⟩ := d1; ⟨q, hq⟩
    exact ⟨.non, _, d_write I (by rw [ea]; exact True.intro) hs he (dk_new (Nat.le_trans (length_mergeK more kvs) hsz) hd (rel2.merge rel) d1), rfl, q⟩
def zUpd (x : D) (ds : List D) (st : ST) : Res D := match x, ds with
  | .cel k, [.cel j] => match st[k]?, st[j]? with
    | some (some (.dct kvs)), some (some (.dct more)) => if k ≠ j ∧ kvs.length + more.length ≤ 1000000 then .ok .non (st.set k (some (.dct (mergeD kvs more)))) else .stuck
    | _, _ => .stuck
  | _, _ => .stuck
theorem dct_ty {k : Nat} {v : V} {kvs : List (Key × D)} (S : c.ok K) (r : c.DR K v (.cel k)) (hk : c.st[k]? = some (some (.dct kvs))) : tyV K "dict" v c.H := by
  obtain ⟨a, z1, _, vs, z3, z4⟩ := S.cell k _ hk
  cases r with
  | cel h1 => rw [z1] at h1; cases h1; exact .inr (.inr (.inl ⟨rfl, .inl ⟨vs, z3⟩⟩))
def fMd (f : EF) (g : AF) : EF := fun sl st => (f sl st).bind fun x st1 => match x with
  | .cel k => match st1[k]? with
    | some (some (.dct _)) => (g sl st1).bind fun ds st2 => zUpd x ds st2
    | _ => .stuck
  | _ => .stuck
theorem x_update {g : AF} (ho : PX X W o f) (ha : PXs X W [e] g) (hbase : attributeBase o "update" X.env (eval o X.env) = eval o X.env := by rfl)
    (hfew : ((backTo cpos (starEach (e :: []) X.env)).all (fun x => !x.1) && (backToKw cpos (keywordEach [] X.env)).all (fun x => x.1.isSome)
      && decide ((e :: []).length + ([] : List Keyword).length + (if ([] : List Keyword).isEmpty then 0 else 1) < 30)) = true := by rfl)
    (hline : (apos.endLine == cpos.line) = true := by rfl) (hs : starEach (e :: []) X.env = (false, eval e X.env) :: starEach [] X.env := by rfl) (hplain : (backTo cpos (starEach [] X.env)).any (·.1) = false := by rfl) :
    PX X W (.Call (.Attribute o "update" apos) [e] [] cpos) (fMd f g) := pe_imp (pe_bm PySem.F.plainAttrs_dict PySem.F.slot_dict_update PySem.F.type_dict_update mt_upd ho ha hbase hfew hline hs hplain) fun σ H Q w => by
  obtain ⟨c, sl, rfl, S, L, P⟩ := w
  refine ⟨c, sl, rfl, S, L, Post.bind P fun v x c1 s1 o1 r1 P1 => ?_⟩
  split at P1
  · next k =>
    split at P1
    · next kvs hk =>
      refine ⟨dct_ty o1 r1 hk, c1, sl, rfl, o1, s1.sl L, Post.bind P1 fun vs ds c2 s2 o2 r2 P2 => ?_⟩
      have r1 := s2.dr r1
      unfold zUpd at P2
      split at P2
      · next k' j hk' =>
        cases hk'
        split at P2
        · next kvs2 more hk2 hj =>
          split at P2
          · next hz =>
            obtain ⟨a, z1, _, us, z3, z4⟩ := o2.cell _ _ hk2
            obtain ⟨b, y1, _, ws, y3, y4⟩ := o2.cell _ _ hj
            cases r1 with
            | cel h5 =>
              rw [z1] at h5; cases h5
              cases r2 with
              | cons r3 r4 =>
                cases r4
                cases r3 with
                | cel h6 =>
                  rw [y1] at h6; cases h6
                  obtain ⟨o3, s3⟩ := Cf.cellSet (d' := .dct (mergeD kvs2 more)) (o := .dK (mergeK us ws)) o2 hk2 z1 ⟨_, upd_same, z4.merge y4⟩
                  refine ⟨a, b, us, ws, rfl, rfl, fun e => hz.1 (o2.inj _ _ a _ _ hk2 hj z1 (by rw [e]; exact y1)), z3, .inl y3, ?_, ?_⟩
                  · rw [z4.length, y4.length]
                    exact Nat.le_trans hz.2 (by decide)
                  · exact P2 .non ⟨c2.G, upd c2.H a (.dK (mergeK us ws)), c2.as, c2.st.set k (some (.dct (mergeD kvs2 more)))⟩ s3 o3 rfl .non
          · exact P2.elim
        · exact P2.elim
      · exact P2.elim
    · exact P1.elim
  · exact P1.elim
/-! xs.remove(i) -/
def zRem (x y : D) (st : ST) : Res D := match x, y with
  | .cel k, .int i => match st[k]? with
    | some (some (.lst xs)) => match intsOf xs with
      | some ns => if i ∈ ns then .ok .non (st.set k (some (.lst ((ns.erase i).map D.int)))) else .stuck
      | none => .stuck
    | _ => .stuck
  | _, _ => .stuck
def fRem (f g : EF) : EF := fun sl st => (f sl st).bind fun x st1 => match asL x st1 with
  | some _ => (g sl st1).bind fun y st2 => zRem x y st2
  | none => .stuck
theorem takes_none : Takes X (fun _ _ _ _ => False) := fun u s' h => by
  obtain ⟨_, _, _, _, _, _, _, _, _, _, _, _, _, _, _, _, h⟩ := h
  exact False.elim h
theorem x_rem (hc : X.calm = true) (ho : PX X W o f) (he : PX X W e g) (hbase : attributeBase o "remove" X.env (eval o X.env) = eval o X.env := by rfl)
    (hfew : ((backTo cpos (starEach [e] X.env)).all (fun x => !x.1) && (backToKw cpos (keywordEach [] X.env)).all (fun x => x.1.isSome)
      && decide (([e] : List PySem.Expr).length + ([] : List Keyword).length + (if ([] : List Keyword).isEmpty then 0 else 1) < 30)) = true := by rfl)
    (hline : (apos.endLine == cpos.line) = true := by rfl) (hs : starEach [e] X.env = (false, eval e X.env) :: starEach [] X.env := by rfl) (hplain : (backTo cpos (starEach [] X.env)).any (·.1) = false := by rfl) :
    PX X W (.Call (.Attribute o "remove" apos) [e] [] cpos) (fRem f g) := pe_imp (pe_remX hc takes_none ho he hbase hfew hline hs hplain) fun σ H Q w => by
  obtain ⟨c, sl, rfl, S, L, P⟩ := w
  refine ⟨c, sl, rfl, S, L, Post.bind P fun v x c1 s1 o1 r1 P1 => ?_⟩
  split at P1
  · next xs hx =>
    refine ⟨tyV_list o1 r1 hx, c1, sl, rfl, o1, s1.sl L, Post.bind P1 fun u y c2 s2 o2 r2 P2 => ?_⟩
    have r1 := s2.dr r1
    unfold zRem at P2
    split at P2
    · rename_i k i _
      split at P2
      · next ys hk =>
        split at P2
        · next ns hn =>
          split at P2
          · next hi =>
            obtain ⟨a, z1, _, us, z3, z4⟩ := o2.cell _ _ hk
            cases r1 with
            | cel h5 =>
              rw [z1] at h5; cases h5
              cases r2
              obtain ⟨rfl, rfl⟩ := intsOf_ok hn z4
              refine ⟨a, ns, i, rfl, rfl, z3, fun _ => ?_, fun h => absurd hi h⟩
              obtain ⟨o3, s3⟩ := Cf.cellSet (d' := .lst ((ns.erase i).map D.int)) (o := .lst ((ns.erase i).map V.int)) o2 hk z1 ⟨_, upd_same, ints_dr _⟩
              exact P2 .non ⟨c2.G, upd c2.H a (.lst ((ns.erase i).map V.int)), c2.as, _⟩ s3 o3 rfl .non
          · exact P2.elim
        · exact P2.elim
      · exact P2.elim
    · exact P2.elim
  · exact P1.elim
/-! xs.index(x) -/
def idxV (y : V) : List V → Option Nat
  | [] => none
  | z :: r => if eqV z y then some 0 else (idxV y r).map (· + 1)
theorem idxV_ok {y : V} : ∀ {zs : List V} {j : Nat}, idxV y zs = some j → ∃ z, zs[j]? = some z ∧ eqV z y = true ∧ ∀ m z', m < j → zs[m]? = some z' → eqV z' y = false
  | [], _, h => by cases h
  | z :: r, j, h => by
    unfold idxV at h
    by_cases q : eqV z y = true
    · rw [if_pos q] at h
      cases h
      exact ⟨z, rfl, q, fun m _ hm => absurd hm (Nat.not_lt_zero _)⟩
    · rw [if_neg q] at h
      obtain ⟨i, hi, rfl⟩ := Option.map_eq_some_iff.mp h
      obtain ⟨w, h1, h2, h3⟩ := idxV_ok hi
      refine ⟨w, h1, h2, fun m z' hm hz => ?_⟩
      cases m with
      | zero => cases hz; simpa using q
      | succ m => exact h3 m z' (by omega) hz
def zIndex (x : D) (ds : List D) (st : ST) : Res D := match asL x st, ds with
  | some xs, [y] => if flatD y && xs.all flatD then (match idxV (toV y) (xs.map toV) with
    | some j => .ok (.int j) st
    | none => .stuck) else .stuck
  | _, _ => .stuck
theorem zIndex_ok : OpM K W (rIndex K) zIndex := by
  intro c v vs x ds Q S r1 r2 P
  unfold zIndex at P
  split at P
  · next xs y hx =>
    split at P
    · next hf =>
      rw [Bool.and_eq_true] at hf
      split at P
      · next j hj =>
        cases r2 with
        | cons r3 r4 =>
          cases r4
          obtain ⟨a, us, rfl, h1, h2⟩ := asL_ok S r1 hx
          obtain ⟨rfl, f1⟩ := flat_ok r3 hf.1
          obtain ⟨rfl, f2⟩ := flats_ok h2 hf.2
          obtain ⟨z, q1, q2, q3⟩ := idxV_ok hj
          exact ⟨a, _, _, j, z, rfl, rfl, h1, f1, f2, q1, q2, q3, Post.ok S (.int _) P⟩
      · exact P.elim
    · exact P.elim
  · exact P.elim
theorem x_index {g : AF} (ho : PX X W o f) (ha : PXs X W [e] g) (hbase : attributeBase o "index" X.env (eval o X.env) = eval o X.env := by rfl)
    (hfew : ((backTo cpos (starEach (e :: []) X.env)).all (fun x => !x.1) && (backToKw cpos (keywordEach [] X.env)).all (fun x => x.1.isSome)
      && decide ((e :: []).length + ([] : List Keyword).length + (if ([] : List Keyword).isEmpty then 0 else 1) < 30)) = true := by rfl)
    (hline : (apos.endLine == cpos.line) = true := by rfl) (hs : starEach (e :: []) X.env = (false, eval e X.env) :: starEach [] X.env := by rfl) (hplain : (backTo cpos (starEach [] X.env)).any (·.1) = false := by rfl) :
    PX X W (.Call (.Attribute o "index" apos) [e] [] cpos) (fM zIndex f g) := x_lmeth PySem.F.slot_list_index PySem.F.type_list_index mt_index zIndex_ok ho ha hbase hfew hline hs hplain
end
end Rq
set_option Elab.async false
set_option linter.all false
set_option maxRecDepth 100000
set_option maxHeartbeats 4000000
/-! Rq, part 55: sorted(set(ints)), list(dict(pairs)) whose keys are tuples of texts. -/
namespace Rq
open PySem PySem.Spec PyProof.Rows L2
section
variable {prog : Program} {w : World} {A : Around} {E : Value → Shared → Prop} {s : Shared}
theorem call_set_listI {l : Addr} {items : Array Value} {ns : List Int} {Q : Value → Shared → Prop} (hd : A.handled = none) (hl : s.heap.IsList l items) (hx : PyProof.Rows.IntsAre items.toList ns) (hn : ns.length + 1 < scanBound)
    (q : ∀ h' tk c, SetR w h' s.heap.objs.size (fun j => decide (j ∈ ns)) c → c ≤ ns.length → (∀ b o, s.heap.get? b = some o → h'.get? b = some o) → Q (.ref s.heap.objs.size) { heap := h', gens := s.gens, drawn := s.drawn, toks := tk, os := s.os }) :
    wpAny (model prog w) A (call (.type "set") [.ref l]) Q E s := by
  obtain ⟨c0, tl, hmro⟩ := F.called_set.mro
  have hmade := F.called_set.made
  have hsub := F.called_set.sub
  refine wpAny_call ?_
  refine codeAny_of_tree ?_
  show wpAny _ _ (pure (Fin.again (Code.builtin "type.__call__" ⟨[.type "set", .ref l], []⟩))) _ _ _
  refine wpAny_pure ⟨Code.quiet_builtin _ (by decide +kernel), ?_⟩
  refine codeAny_builtin F.entry_type_call ?_
  rw [Around.under_plain (weight_type_call_type _ _ _) rfl]
  unfold Builtin.«type.__call__»
  dsimp only
  have nt : (Value.type "set" == Value.type "type") = false := F.called_set.notType
  simp only [nt, Bool.false_eq_true, if_false]
  have cc := F.called_set.canCreate
  simp only [cc, Bool.false_eq_true, if_false]
  rw [F.typeCall_set_1]
  refine wpAny_bind (wpAny_pure ?_)
  rw [hmro]
  refine wpAny_bind (wpAny_pure ?_)
  simp only [List.isEmpty_cons, Bool.false_eq_true, if_false]
  rw [hmade]
  refine wpAny_bind (wpAny_pure ?_)
  dsimp only
  refine wpAny_bind (wpAny_pure ?_)
  generalize hob : ({ cls := .type "set", dict := none, data := .set #[] 0 (.fresh 0 0 (!w.params.followText "set-order")) } : Obj) = ob
  refine wpAny_bind (wpAny_holding (wpAny_call ?_))
  refine codeAny_mono (code_set_led1 (E := E) (.ref l) (Q₁ := fun obj s1 => obj = .ref s.heap.objs.size ∧ s1 = { s with heap := s.heap.push ob }) ⟨rfl, by rw [← hob]⟩) ?_
  intro r s1 hr
  match r, hr with
  | .ok .next, h => exact h.elim
  | .ok .brk, h => exact h.elim
  | .ok .cont, h => exact h.elim
  | .error _, h => exact h
  | .ok (.ret v1), h =>
    obtain ⟨rfl, rfl⟩ := h
    dsimp only
    have fob : (s.heap.push ob).get? s.heap.objs.size = some ob := by rw [← hob]; exact Heap.get?_push_size _ rfl
    have obc : ob.cls = .type "set" := by rw [← hob]
    have ty : ({ s with heap := s.heap.push ob } : Shared).TypeIs (.ref s.heap.objs.size) "set" := ⟨ob, fob, obc⟩
    refine wpAny_bind (wpAny_isInstance ty hsub ?_)
    simp only [Bool.not_true, Bool.false_eq_true, if_false]
    refine wpAny_bind (wpAny_holding (wpAny_callSpecial?_slot ty F.called_set.init ?_))
    refine wpAny_call ?_
    refine codeAny_call_builtin (F.called_set.init.plain) F.entry_set_init (check_set_init_1 ty ?_)
    unfold Builtin.«set.__init__»
    refine wpAny_bind ?_
    unfold noKeywords
    refine wpAny_pure ?_
    dsimp only
    refine wpAny_bind ?_
    unfold typeNameOfCut
    unfold shownTypeOf
    refine wpAny_bind (wpAny_bind (wpAny_typeOf ty ?_))
    simp only [show (Value.type "set" == Value.type "builtin_function_or_method") = false by decide +kernel, Bool.false_eq_true, if_false]
    refine wpAny_pure ?_
    unfold typeNameCut typeName
    refine wpAny_pure ?_
    refine wpAny_bind ?_
    unfold checkCount
    refine wpAny_pure ?_
    unfold Builtin.Frozenset.addrOf
    refine wpAny_bind (wpAny_pure ?_)
    unfold setUsed
    refine wpAny_bind ?_
    refine wpAny_bind (wpAny_setState_of (o := ob) (es := #[]) (ep := 0) (t := .fresh 0 0 (!w.params.followText "set-order")) fob (by rw [← hob]) (by rfl) ?_)
    refine wpAny_pure ?_
    simp only [show ((SetTable.fresh 0 0 (!w.params.followText "set-order")).fill != 0) = false by rfl, Bool.false_eq_true, if_false]
    unfold Builtin.Frozenset.updateFrom
    refine wpAny_bind ?_
    have hl1 : (s.heap.push ob).IsList l items := by
      obtain ⟨o, h1, h2⟩ := hl
      exact ⟨o, Heap.get?_push_of_some _ h1, h2⟩
    have tyl : ({ s with heap := s.heap.push ob } : Shared).TypeIs (.ref l) "list" := by
      obtain ⟨o, h1, h2, _⟩ := hl1
      exact ⟨o, h1, h2⟩
    have lS : l ≠ s.heap.objs.size := by
      obtain ⟨o, h1, _⟩ := hl
      exact Nat.ne_of_lt (Heap.lt_size h1)
    have szo : (s.heap.push ob).objs.size = s.heap.objs.size + 1 := PyProof.Rows.size_push' ..
    refine wpAny_bind ?_
    unfold Builtin.Frozenset.isAnySet
    refine wpAny_bind (wpAny_isInstance tyl F.sub_list_set ?_)
    show wpAny _ _ (isInstance (Value.ref l) (Value.type "frozenset")) _ _ _
    refine wpAny_isInstance tyl F.sub_list_frozenset ?_
    simp only [Bool.false_eq_true, if_false]
    refine wpAny_bind (wpAny_typeOf tyl ?_)
    simp only [show (Value.type "list" == Value.type "dict") = false by decide +kernel, Bool.false_eq_true, if_false]
    refine wpAny_bind (wpAny_pyIter_list hl1 ?_)
    dsimp only
    generalize hit : ({ cls := Value.type "list_iterator", data := Data.fields #[Value.ref l, Value.int 0 0] } : Obj) = itob
    have fit : ((s.heap.push ob).push itob).get? (s.heap.objs.size + 1) = some itob := by rw [← szo, ← hit]; exact Heap.get?_push_size _ rfl
    rw [szo]
    refine wpAny_bind (wpAny_runValue ?_)
    have nxs : items.size = ns.length := by
      have q := PyProof.Rows.IntsAre.length hx
      rw [Array.length_toList] at q
      exact q
    have W := (Walks.list (prog := prog) (w := w) (A := A.in1.in1.in1) hd (s.heap.objs.size + 1) l (by have := lS; obtain ⟨o, h1, _⟩ := hl; exact Nat.ne_of_lt (Nat.lt_succ_of_lt (Heap.lt_size h1))) items).toS
    rw [nxs] at W
    refine L2.set_update_ints W s.heap.objs.size (fun z => ?_) ns rfl hn (fun i v hv => ?_) ns.length 0 _ (by omega) (Nat.zero_le _) ⟨⟨itob, fit, by rw [← hit], by rw [← hit]; rfl⟩, ?_⟩ ?_ ?_
    · rcases List.mem_cons.mp z with z | z
      · exact absurd z (Nat.ne_of_lt (Nat.lt_succ_self _))
      · rcases List.mem_cons.mp z with z | z
        · exact lS z.symm
        · cases z
    · have hi : i < ns.length := by rw [← nxs]; exact (Array.getElem?_eq_some_iff.mp hv).1
      obtain ⟨t, e⟩ := PyProof.Rows.IntsAre.int_at hx i v (by rw [Array.getElem?_toList]; exact hv)
      refine ⟨ns[i], t, List.getElem?_eq_getElem hi, ?_⟩
      rw [e, List.getD_eq_getElem?_getD, List.getElem?_eq_getElem hi] <;> rfl
    · obtain ⟨o, h1, h2⟩ := hl1
      exact ⟨o, Heap.get?_push_of_some _ h1, h2⟩
    · refine ⟨0, Nat.le_refl 0, L2.setR_new_at ?_⟩
      rw [Heap.get?_push_of_some _ fob, hob]
    · intro s' c' mv hc hs
      refine wpAny_pure (wpAny_pure ?_)
      show wpAny _ A.in1 (if (Value.none != Value.none) = true then _ else ret (Value.ref s.heap.objs.size)) _ _ _
      simp only [show (Value.none != Value.none) = false by decide +kernel, Bool.false_eq_true, if_false]
      refine wpAny_pure ?_
      show Q (Value.ref s.heap.objs.size) s'
      obtain ⟨h', g', d', t', o'⟩ := s'
      have e1 : g' = s.gens := mv.gens
      have e2 : d' = s.drawn := mv.drawn
      have e3 : o' = s.os := mv.os
      subst e1; subst e2; subst e3
      refine q h' t' c' hs hc fun b o e => mv.heap b o (fun z => ?_) (Heap.get?_push_of_some _ (Heap.get?_push_of_some _ e))
      have hb := Heap.lt_size e
      rcases List.mem_cons.mp z with z | z
      · exact absurd z (Nat.ne_of_lt hb)
      · rcases List.mem_cons.mp z with z | z
        · exact absurd z (Nat.ne_of_lt (Nat.lt_succ_of_lt hb))
        · cases z
end
section
variable {W : WX} {X : Cx} {e : PySem.Expr} {f : EF} {pos p p2 q2 : Pos}
def rSetI (K : PySem.W.Frag) (w : World) : List V → Hp → VK → Prop := fun xs H Q => ∃ (a : Addr) (ns : List Int), xs = [.ref a] ∧ SqL K H a (ns.map V.int) ∧ ns.length ≤ 4000 ∧ ∀ p c, H p = none → c ≤ ns.length → Q (.ref p) (upd H p (SetO w p (fun j => decide (j ∈ ns)) c))
theorem call_setI (hc : X.calm = true) : CallR X (.type "set") (rSetI X.K X.w) := by
  intro pins s σ H xs us Q I rx ⟨a, ns, e, h, hn, q⟩
  subst e
  obtain rfl := vals_ref1' rx
  have hn2 : ns.length + 1 < scanBound := Nat.lt_of_le_of_lt (Nat.succ_le_succ hn) (by decide)
  obtain ⟨its, rv, pl, hz⟩ := I.list h
  refine call_set_listI (I.ok.hd hc) pl.isList (by simpa using intsAre_of rv) hn2 fun h' tk c hs hle hk => ?_
  exact ⟨.ref s.heap.objs.size, _, I.laid (t' := tk) hk (Nat.le_refl _) (setO_new hs), rfl, q _ c (I.hok.fresh (Nat.le_refl _)) hle⟩
/-- the members, each once -/
def ddI : List Int → List Int
  | [] => []
  | x :: r => if x ∈ r then ddI r else x :: ddI r
theorem ddI_mem {k : Int} : ∀ l : List Int, k ∈ ddI l ↔ k ∈ l
  | [] => Iff.rfl
  | x :: r => by
    unfold ddI
    have ih := ddI_mem (k := k) r
    split
    · next h =>
      rw [ih, List.mem_cons]
      exact ⟨.inr, fun q => q.elim (fun e => by rw [e]; exact h) id⟩
    · rw [List.mem_cons, List.mem_cons, ih]
theorem ddI_nodup : ∀ l : List Int, (ddI l).Nodup
  | [] => List.nodup_nil
  | x :: r => by
    unfold ddI
    split
    · exact ddI_nodup r
    · next h => exact List.nodup_cons.mpr ⟨fun q => h ((ddI_mem r).mp q), ddI_nodup r⟩
theorem ddI_len : ∀ l : List Int, (ddI l).length ≤ l.length
  | [] => Nat.le_refl _
  | x :: r => by
    unfold ddI
    have := ddI_len r
    split
    · rw [List.length_cons]; omega
    · rw [List.length_cons, List.length_cons]; omega
theorem ddI_id : ∀ {l : List Int}, l.Pairwise (· < ·) → ddI l = l
  | [], _ => rfl
  | x :: r, h => by
    rw [List.pairwise_cons] at h
    unfold ddI
    rw [if_neg (fun q => by have := h.1 x q; omega), ddI_id h.2]
def zSortSetI (d : D) (st : ST) : Res D := match asL d st with
  | some xs => match intsOf xs with
    | some ns => if ns.length < 64 then .ok (.lst ((sortI (ddI ns)).map D.int)) st else .stuck
    | none => .stuck
  | none => .stuck
theorem x_sortedSetI (hc : X.calm = true) (hm : X.mg "sorted" = none) (hm2 : X.mg "set" = none) (ha : PX X W e f) (hg : Gl X "sorted" := by rfl) (hg2 : Gl X "set" := by rfl)
    (hs : starEach [e] X.env = [(false, eval e X.env)] := by rfl) (hs2 : starEach [.Call (.Name "set" p2) [e] [] q2] X.env = [(false, eval (.Call (.Name "set" p2) [e] [] q2) X.env)] := by rfl) (hp : (backTo pos (starEach [] X.env)).any (·.1) = false := by rfl) (hp2 : (backTo q2 (starEach [] X.env)).any (·.1) = false := by rfl) :
    PX X W (.Call (.Name "sorted" p) [.Call (.Name "set" p2) [e] [] q2] [] pos) (f1 zSortSetI f) :=
  pe_imp (pe_callB (L2.cr_sortedSet hc) hg hm PyProof.Rows.boot_sorted (pa_cons (pe_callTy (call_setI hc) hg2 hm2 PyProof.Rows.boot_set (pa_cons ha pa_nil hs) (by decide) (by decide) hs hp2) pa_nil hs2) (by decide) (by decide) hs2 hp) fun σ H Q w => by
    obtain ⟨c, sl, rfl, S, L, P⟩ := w
    refine ⟨c, sl, rfl, S, L, Post.bind P fun v d c1 s1 o1 r1 P1 => ?_⟩
    unfold zSortSetI at P1
    split at P1
    · next xs hx =>
      split at P1
      · next ns hn =>
        split at P1
        · next hz =>
          obtain ⟨a, vs, rfl, h1, h2⟩ := asL_ok o1 r1 hx
          obtain ⟨rfl, rfl⟩ := intsOf_ok hn h2
          refine ⟨a, ns, rfl, h1, by omega, fun p k hp hk => ?_⟩
          have o2 := Cf.out (o := SetO X.w p (fun j => decide (j ∈ ns)) k) o1 (not_live o1 hp) (o1.ex.free hp)
          have s2 := (Step.refl c1).out (o := SetO X.w p (fun j => decide (j ∈ ns)) k) hp
          refine ⟨p, _, k, rfl, upd_same, by omega, fun ms q m1 m2 m3 hq => ?_⟩
          have pm : ms.Perm (ddI ns) := (List.perm_ext_iff_of_nodup (m1.imp fun h => by omega) (ddI_nodup ns)).mpr fun x => by
            rw [m2, ddI_mem]; exact decide_eq_true_iff
          have e := sortI_is pm (m1.imp fun h => by omega)
          subst e
          exact newTree o2 hq (ints_dr _) (Post.mono s2 P1)
        · exact P1.elim
      · exact P1.elim
    · exact P1.elim
end
end Rq
set_option Elab.async false
set_option linter.all false
set_option maxRecDepth 100000
set_option maxHeartbeats 4000000
/-! Rq, part 56: list(dict(pairs)), the keys tuples of ints and texts. -/
namespace Rq
open PySem PySem.Spec PyProof.Rows L2
/-- each key at its first place -/
def firsts {α : Type} : List (List Key × α) → List (List Key × α) → List (List Key × α)
  | acc, [] => acc
  | acc, p :: r => firsts (if acc.any (fun x => decide (x.1 = p.1)) then acc else acc ++ [p]) r
theorem atKey_any {κ : Type} [DecidableEq κ] (xs : List (κ × Addr × Value)) (k : κ) : (atKey xs k).isSome = (xs.map fun x => (x.1, x.2.1)).any fun x => decide (x.1 = k) := by
  unfold atKey
  rw [Option.isSome_map, List.any_map]
  induction xs with
  | nil => rfl
  | cons x r ih =>
    rw [List.find?_cons, List.any_cons]
    show (match decide (x.1 = k) with | true => some x | false => List.find? (fun x => decide (x.1 = k)) r).isSome = (decide (x.1 = k) || _)
    cases decide (x.1 = k) with
    | true => rfl
    | false => rw [Bool.false_or, ← ih]
theorem stored_firsts : ∀ (ps acc : List (List Key × Addr × Value)), (storedAllH acc ps).map (fun x => (x.1, x.2.1)) = firsts (acc.map fun x => (x.1, x.2.1)) (ps.map fun x => (x.1, x.2.1))
  | [], acc => rfl
  | p :: r, acc => by
    show (storedAllH (storedH acc p.1 p.2.1 p.2.2) r).map _ = _
    rw [stored_firsts r, List.map_cons]
    have e : (storedH acc p.1 p.2.1 p.2.2).map (fun x => (x.1, x.2.1)) = (if (acc.map fun x => (x.1, x.2.1)).any (fun x => decide (x.1 = p.1)) then acc.map fun x => (x.1, x.2.1) else (acc.map fun x => (x.1, x.2.1)) ++ [(p.1, p.2.1)]) := by
      unfold storedH
      rw [atKey_any]
      split
      · rw [List.map_map]
        refine List.map_congr_left fun x _ => ?_
        show ((putAt p.1 p.2.2 x).1, (putAt p.1 p.2.2 x).2.1) = _
        unfold putAt
        split <;> rfl
      · rw [List.map_append]
        rfl
    rw [e]
    rfl
theorem firsts_rel {α β : Type} {R : α → β → Prop} : ∀ {a : List (List Key × α)} {b : List (List Key × β)} {c : List (List Key × α)} {d : List (List Key × β)}, Paired (fun p q => p.1 = q.1 ∧ R p.2 q.2) a b → Paired (fun p q => p.1 = q.1 ∧ R p.2 q.2) c d → Paired (fun p q => p.1 = q.1 ∧ R p.2 q.2) (firsts c a) (firsts d b)
  | _, _, _, _, .nil, h => h
  | _, _, c0, d0, .cons (a := p) (b := q) (l₁ := l1) (l₂ := l2) r t, h => by
    show Paired _ (firsts (if c0.any (fun x => decide (x.1 = p.1)) then c0 else c0 ++ [p]) l1) (firsts (if d0.any (fun x => decide (x.1 = q.1)) then d0 else d0 ++ [q]) l2)
    refine firsts_rel t ?_
    have e : ∀ {c : List (List Key × α)} {d : List (List Key × β)}, Paired (fun p q => p.1 = q.1 ∧ R p.2 q.2) c d → (c.any fun x => decide (x.1 = p.1)) = d.any fun x => decide (x.1 = q.1) := by
      intro c d h
      induction h with
      | nil => rfl
      | cons r' t' ih => rw [List.any_cons, List.any_cons, ih, r'.1, r.1]
    rw [e h]
    split
    · exact h
    · have app : ∀ {c : List (List Key × α)} {d : List (List Key × β)}, Paired (fun p q => p.1 = q.1 ∧ R p.2 q.2) c d → Paired (fun p q => p.1 = q.1 ∧ R p.2 q.2) (c ++ [p]) (d ++ [q]) := by
        intro c d h
        induction h with
        | nil => exact .cons r .nil
        | cons r' t' ih => exact .cons r' ih
      exact app h
theorem firsts_len {α : Type} : ∀ (l acc : List (List Key × α)), (firsts acc l).length ≤ acc.length + l.length
  | [], acc => Nat.le_refl _
  | p :: r, acc => by
    refine Nat.le_trans (firsts_len r _) ?_
    rw [List.length_cons]
    split
    · omega
    · rw [List.length_append, List.length_singleton]; omega
/-- a dict told by its keys' places alone -/
def RawD (a : Addr) (bs : List Addr) : HO := .ext fun h => ∃ o es ep, h.get? a = some o ∧ o.ExactDict ∧ o.data = .dict es ep ∧ es.toList.map (·.key) = bs.map Value.ref ∧ (a == sysModules) = false ∧ es.size ≤ sizeLine
theorem rawD_new {P : Program} {w : World} {H : Hp} {h : Heap} {a : Addr} {bs : List Addr} (R : ∃ o es ep, h.get? a = some o ∧ o.ExactDict ∧ o.data = .dict es ep ∧ es.toList.map (·.key) = bs.map Value.ref ∧ (a == sysModules) = false ∧ es.size ≤ sizeLine) : ObjOk P w H h a (RawD a bs) := by
  have ⟨o, _, _, ho, _⟩ := R
  exact ⟨R, ⟨o, ho⟩, fun h1 h2 ⟨o, es, ep, q1, q2⟩ k => ⟨o, es, ep, k o q1, q2⟩⟩
section
variable {X : Cx} {K : PySem.W.Frag}
/-- pairs (key, value), the key a tuple -/
def PT (K : PySem.W.Frag) (H : Hp) : List Addr → List (List Key × Addr × V) → Prop := Paired fun p kv => SqT K H p [.ref kv.2.1, kv.2.2] ∧ SqT K H kv.2.1 (kv.1.map kV)
theorem pt_of {pins : List (Addr × Obj)} {σ : L2.St} {H : Hp} {s : Shared} (I : L2.Inv X pins σ H s) : ∀ {ps : List Addr} {kvs : List (List Key × Addr × V)}, PT X.K H ps kvs →
    ∃ xs : List (List Key × Addr × Value), xs.map (fun x => (x.1, x.2.1)) = kvs.map (fun x => (x.1, x.2.1)) ∧ (∀ x ∈ xs, (tupleKind (mixKind X.prog X.w)).is s.heap x.1 x.2.1) ∧
      Paired (fun p x => IsTup s.heap p #[.ref x.2.1, x.2.2]) ps xs
  | _, _, .nil => ⟨[], rfl, (fun _ h => nomatch h), .nil⟩
  | _, _, .cons (a := p) (b := kv) h t => by
    obtain ⟨xs, e, hk, hp⟩ := pt_of I t
    obtain ⟨its, rv, ht, _⟩ := I.tuple h.1
    obtain ⟨u, y, ei, ru, ry⟩ := vals2 rv
    subst ei
    cases (show u = Value.ref kv.2.1 from ru)
    obtain ⟨its2, rv2, ht2, _⟩ := I.tuple h.2
    refine ⟨(kv.1, kv.2.1, y) :: xs, by rw [List.map_cons, List.map_cons, e], fun x hx => ?_, .cons ht hp⟩
    rcases List.mem_cons.mp hx with rfl | hx
    · obtain ⟨o, h1, h2, n, h4⟩ := ht2
      exact ⟨o, _, n, h1, h2, h4, items_are rv2⟩
    · exact hk x hx
/-- dict(pairs) -/
def rDictT (K : PySem.W.Frag) : List V → Hp → VK → Prop := fun xs H Q => ∃ (a : Addr) (ps : List Addr) (kvs : List (List Key × Addr × V)), xs = [.ref a] ∧ SqL K H a (ps.map V.ref) ∧ PT K H ps kvs ∧
  ∀ p, H p = none → Q (.ref p) (upd H p (RawD p ((firsts [] (kvs.map fun x => (x.1, x.2.1))).map (·.2))))
theorem paired_get {α β : Type} {R : α → β → Prop} : ∀ {a : List α} {b : List β} (j : Nat) (y : β), Paired R a b → b[j]? = some y → ∃ x, a[j]? = some x ∧ R x y
  | _, _, j, y, .nil, h => by simp at h
  | _, _, 0, y, .cons r t, h => ⟨_, rfl, by cases h; exact r⟩
  | _, _, j + 1, y, .cons r t, h => paired_get j y t (by simpa using h)
theorem call_dictT (hcalm : X.calm = true) (hu : X.A.units + 64 < cLine) : CallR X (.type "dict") (rDictT X.K) := by
  intro pins s σ H xs us Q I r q
  obtain ⟨a, ps, kvs, ex, hq, hp, q⟩ := q
  subst ex
  obtain ⟨u, eu, rx⟩ := vals1 r
  subst eu
  cases rx
  obtain ⟨its, rv, pl, hz⟩ := I.list hq
  have ei := refs_at rv
  subst ei
  rw [List.length_map] at hz
  obtain ⟨xs, e1, hk, hpr⟩ := pt_of I hp
  have lx : ps.length = xs.length := Paired.length hpr
  obtain ⟨o, n, ho, hc, hd, hdat⟩ := pl
  have pr : PairItems s.heap (ps.map Value.ref).toArray (fun j => ps.getD j 0) (xs.map fun x => (Value.ref x.2.1, x.2.2)) := by
    refine ⟨by simp [lx], fun j k v hj => ?_⟩
    rw [List.getElem?_map] at hj
    obtain ⟨x, hx, e⟩ := Option.map_eq_some_iff.mp hj
    cases e
    obtain ⟨p, h1, h2⟩ := paired_get j x hpr hx
    have e2 : ps.getD j 0 = p := by rw [List.getD_eq_getElem?_getD, h1]; rfl
    refine ⟨by simp [h1], ?_⟩
    show PairAt s.heap (ps.getD j 0) _ _
    rw [e2]
    exact .inl h2
  have hn : xs.length ≤ sizeLine := by rw [← lx]; exact hz
  refine call_dict_pairsH (knd := tupleKind (mixKind X.prog X.w)) (ps := xs) (PairArg.list a _ _ _) (I.ok.hd hcalm) ?_ ⟨⟨o, n, ho, hc, hd, hdat⟩, pr⟩ ⟨by simp, fun i key v h => ?_⟩ (fun h' hkp x hx => ?_) (by simpa using hn) fun h' tk hd' hkp => ?_
  · show X.A.units + 1 + 1 < cLine
    omega
  · have h : (xs.map fun x => (Value.ref x.2.1, x.2.2))[i]? = some (key, v) := h
    rw [List.getElem?_map] at h
    obtain ⟨x, hx, e⟩ := Option.map_eq_some_iff.mp h
    cases e
    exact ⟨x.1, x.2.1, hx, rfl⟩
  · exact tupleKind_stays.stays (fun b o' vs m e _ => hkp b o' (fun z => absurd z (Nat.ne_of_lt (Heap.lt_size e))) (fun z => nomatch z) e) (hk x hx)
  · have hm : (s.heap.objs.size == sysModules) = false := beq_eq_false_iff_ne.mpr (Nat.ne_of_gt I.big)
    obtain ⟨o', es, ep, h1, h2, h3, h4, _, _⟩ := hd'
    have ek : es.toList.map (·.key) = ((firsts [] (kvs.map fun x => (x.1, x.2.1))).map (·.2)).map Value.ref := by
      have st := stored_firsts xs []
      rw [e1, List.map_nil] at st
      rw [h4, List.map_map, ← st, List.map_map, List.map_map]
      rfl
    refine ⟨.ref s.heap.objs.size, _, I.laid (t' := tk) (fun b o e => hkp b o (fun z => nomatch z) e) (Nat.le_refl _) (rawD_new ⟨o', es, ep, h1, h2, h3, ek, hm, ?_⟩), rfl, q _ (I.hok.fresh (Nat.le_refl _))⟩
    have l1 : es.toList.length = (firsts [] (kvs.map fun x => (x.1, x.2.1))).length := by
      have := congrArg List.length ek
      simpa using this
    have l2 := firsts_len (kvs.map fun x => (x.1, x.2.1)) []
    have l3 := congrArg List.length e1
    rw [List.length_map, List.length_map] at l3
    rw [List.length_nil, List.length_map] at l2
    rw [← Array.length_toList, l1]
    omega
/-- list(d) of it -/
def rListT : List V → Hp → VK → Prop := fun xs H Q => ∃ (d : Addr) (bs : List Addr), xs = [.ref d] ∧ H d = some (RawD d bs) ∧ ∀ p, H p = none → Q (.ref p) (upd H p (.lst (bs.map V.ref)))
theorem call_listT (hc : X.calm = true) : CallR X (.type "list") rListT := by
  intro pins s σ H xs us Q I r h
  obtain ⟨d, bs, rfl, hd, q⟩ := h
  obtain ⟨u, rfl, rx⟩ := r.one
  cases rx
  obtain ⟨o, es, ep, ho, hx, hdt, ek, hs, hz⟩ := (I.hok d _ hd).1
  have l1 : es.size = bs.length := by
    have := congrArg List.length ek
    simpa using this
  refine PySem.W.kdl_call (kdl_raw hs hx hdt) (I.ok.hd hc) ho hz fun h' tk acc' c' kp e it => ?_
  have ea : acc'.toList = bs.map Value.ref := by
    have hl : acc'.toList.length = es.size := by rw [Array.length_toList, it.1]
    rw [← ek]
    apply List.ext_getElem?
    intro j
    rw [List.getElem?_map]
    cases hj : acc'.toList[j]? with
    | none =>
      have h1 := List.getElem?_eq_none_iff.mp hj
      rw [List.getElem?_eq_none (by rw [Array.length_toList]; omega)]
      rfl
    | some v =>
      obtain ⟨en, hen, hv⟩ := it.2 j v (by rw [← Array.getElem?_toList]; exact hj)
      rw [Array.getElem?_toList, hen, hv]
      rfl
  have rv : Vals (bs.map V.ref) acc'.toList := by rw [ea]; exact vals_refs _
  refine ⟨.ref s.heap.objs.size, _, I.laid (t' := tk) (o := .lst (bs.map V.ref)) kp (Nat.le_refl _) ?_, rfl, q _ (I.hok.fresh (Nat.le_refl _))⟩
  exact ⟨by rw [List.length_map]; omega, acc'.toList, c', rv, by rw [Array.toArray_toList]; exact e⟩
/-! list(dict(pairs)) -/
def keysT : List D → Option (List Key)
  | [] => some []
  | d :: r => match keyD d, keysT r with
    | some k, some ks => some (k :: ks)
    | _, _ => none
def pairsT : List D → Option (List (List Key × D))
  | [] => some []
  | .tup [.tup ks, _] :: r => match keysT ks, pairsT r with
    | some k, some ps => some ((k, .tup ks) :: ps)
    | _, _ => none
  | _ :: _ => none
def zKeysT (d : D) (st : ST) : Res D := match asL d st with
  | some xs => match pairsT xs with
    | some ps => .ok (.lst ((firsts [] ps).map (·.2))) st
    | none => .stuck
  | none => .stuck
variable {c : Cf}
theorem keysT_ok : ∀ {ds : List D} {vs : List V} {ks : List Key}, c.DRs K vs ds → keysT ds = some ks → vs = ks.map kV
  | [], _, _, .nil, h => by cases h; rfl
  | d :: r, _, ks, .cons r1 t, h => by
    unfold keysT at h
    split at h
    · next k ks' h1 h2 =>
      cases h
      rw [keyD_ok r1 h1, keysT_ok t h2]
      rfl
    · cases h
theorem pairsT_ok : ∀ {ds : List D} {vs : List V} {ps : List (List Key × D)}, c.DRs K vs ds → pairsT ds = some ps → ∃ (as : List Addr) (kvs : List (List Key × Addr × V)), vs = as.map V.ref ∧ PT K c.G as kvs ∧
    Paired (fun p q => p.1 = q.1 ∧ c.DR K (.ref p.2) q.2) (kvs.map fun x => (x.1, x.2.1)) ps
  | [], _, _, .nil, h => by cases h; exact ⟨[], [], rfl, .nil, .nil⟩
  | d :: r, _, ps, .cons r1 t, h => by
    unfold pairsT at h
    split at h
    · next h0 => cases h0
    · next ks d2 r' h0 =>
      injection h0 with h01 h02
      subst h01; subst h02
      split at h
      · next k ps' h1 h2 =>
        cases h
        obtain ⟨as, kvs, e, hp, hr⟩ := pairsT_ok t h2
        cases r1 with
        | tup q1 q2 =>
          cases q2 with
          | cons a1 a2 =>
            cases a2 with
            | cons b1 b2 =>
              cases b2
              cases a1 with
              | tup z1 z2 =>
                have ek := keysT_ok z2 h1
                subst ek
                exact ⟨_ :: as, (k, _, _) :: kvs, by rw [e]; rfl, .cons ⟨q1, z1⟩ hp, .cons ⟨rfl, .tup z1 z2⟩ hr⟩
      · cases h
    · cases h
theorem pt_mono {G H : Hp} (e : Ex G H) : ∀ {as : List Addr} {kvs : List (List Key × Addr × V)}, PT K G as kvs → PT K H as kvs
  | _, _, .nil => .nil
  | _, _, .cons r t => .cons ⟨e.t r.1, e.t r.2⟩ (pt_mono e t)
theorem paired_drs : ∀ {a : List (List Key × Addr)} {b : List (List Key × D)}, Paired (fun p q => p.1 = q.1 ∧ c.DR K (.ref p.2) q.2) a b → c.DRs K ((a.map (·.2)).map V.ref) (b.map (·.2))
  | _, _, .nil => .nil
  | _, _, .cons r t => .cons r.2 (paired_drs t)
section
variable {W : WX} {e : PySem.Expr} {f : EF} {pos p p2 q2 : Pos}
theorem x_keysT (hc : X.calm = true) (hu : X.A.units + 200 < cLine) (hm : X.mg "list" = none) (hm2 : X.mg "dict" = none) (ha : PX X W e f) (hg : Gl X "list" := by rfl) (hg2 : Gl X "dict" := by rfl)
    (hs : starEach [e] X.env = [(false, eval e X.env)] := by rfl) (hs2 : starEach [.Call (.Name "dict" p2) [e] [] q2] X.env = [(false, eval (.Call (.Name "dict" p2) [e] [] q2) X.env)] := by rfl) (hp : (backTo pos (starEach [] X.env)).any (·.1) = false := by rfl) (hp2 : (backTo q2 (starEach [] X.env)).any (·.1) = false := by rfl) :
    PX X W (.Call (.Name "list" p) [.Call (.Name "dict" p2) [e] [] q2] [] pos) (f1 zKeysT f) :=
  pe_imp (pe_callTy (call_listT hc) hg hm PyProof.Rows.boot_list (pa_cons (pe_callTy (call_dictT hc (by omega)) hg2 hm2 (by decide +kernel) (pa_cons ha pa_nil hs) (by decide) (by decide) hs hp2) pa_nil hs2) (by decide) (by decide) hs2 hp) fun σ H Q w => by
    obtain ⟨c, sl, rfl, S, L, P⟩ := w
    refine ⟨c, sl, rfl, S, L, Post.bind P fun v d c1 s1 o1 r1 P1 => ?_⟩
    unfold zKeysT at P1
    split at P1
    · next xs hx =>
      split at P1
      · next ps hn =>
        obtain ⟨a, vs, rfl, h1, h2⟩ := asL_ok o1 r1 hx
        obtain ⟨as, kvs, e, hp, hr⟩ := pairsT_ok h2 hn
        subst e
        refine ⟨a, as, kvs, rfl, h1, pt_mono o1.ex hp, fun p hp => ?_⟩
        have o2 := Cf.out (o := RawD p ((firsts [] (kvs.map fun x => (x.1, x.2.1))).map (·.2))) o1 (not_live o1 hp) (o1.ex.free hp)
        have s2 := (Step.refl c1).out (o := RawD p ((firsts [] (kvs.map fun x => (x.1, x.2.1))).map (·.2))) hp
        refine ⟨p, _, rfl, upd_same, fun q hq => ?_⟩
        exact newTree o2 hq (paired_drs (firsts_rel (R := fun b d => c1.DR X.K (.ref b) d) hr .nil)) (Post.mono s2 P1)
      · exact P1.elim
    · exact P1.elim
end
end
end Rq
set_option Elab.async false
set_option linter.all false
set_option maxRecDepth 100000
set_option maxHeartbeats 4000000
/-! Rq, part 57: != of lists whose items are cells. -/
namespace Rq
open PySem PySem.Spec PyProof.Rows L2
section
variable {K : PySem.W.Frag} {W : WX} {c : Cf} {X : Cx} {a b : PySem.Expr} {f g : EF} {pos : Pos}
def toPyCs : List D → ST → Option (List PyData)
  | [], _ => some []
  | x :: r, st => (toPyS x st).bind fun p => (toPyCs r st).map (p :: ·)
theorem toPyCs_ok (S : c.ok K) : ∀ {vs : List V} {ds : List D} {ps : List PyData}, c.DRs K vs ds → toPyCs ds c.st = some ps → DpAll K c.H vs ps
  | _, _, _, .nil, h => by unfold toPyCs at h; cases h; exact .nil
  | _, _, _, .cons r t, h => by
    unfold toPyCs at h
    obtain ⟨p, h1, h2⟩ := Option.bind_eq_some_iff.mp h
    obtain ⟨ps, h3, rfl⟩ := Option.map_eq_some_iff.mp h2
    exact .cons (toPyS_ok S r h1) (toPyCs_ok S t h3)
def zNeC (x y : D) (st : ST) : Res D := match x, y with
  | .lst xs, .lst ys => match toPyCs xs st, toPyCs ys st with
    | some p, some q => if SeqAt.shaped (.list p) && SeqAt.shaped (.list q) then .ok (.bl (!PyData.eqv (.list p) (.list q))) st else .stuck
    | _, _ => .stuck
  | _, _ => .stuck
theorem zNeC_ok : Op2 K W (rNeA K) zNeC := fun c v w x y Q S r1 r2 P => by
  unfold zNeC at P
  split at P
  · split at P
    · next p q hp hq =>
      split at P
      · next hs =>
        rw [Bool.and_eq_true] at hs
        obtain ⟨a1, vs, rfl, q1, q2⟩ := asL_ok S r1 rfl
        obtain ⟨a2, ws, rfl, w1, w2⟩ := asL_ok S r2 rfl
        exact .inr ⟨_, _, .lst q1 (toPyCs_ok S q2 hp), .lst w1 (toPyCs_ok S w2 hq), hs.1, hs.2, Post.ok S (.bl _) P⟩
      · exact P.elim
    · exact P.elim
  · exact P.elim
theorem x_neC (hu : X.A.units + 64 < cLine) (ha : PX X W a f) (hb : PX X W b g) : PX X W (.Compare a [.NotEq] [b] pos) (f2 zNeC f g) := x_cmp (op_ne.or (op_neD hu)) zNeC_ok ha hb (nomark _)
theorem xt_neC (hu : X.A.units + 64 < cLine) (ha : PX X W a f) (hb : PX X W b g) : XT X W (.Compare a [.NotEq] [b] pos) (f2 zNeC f g) := xt_cmp (op_ne.or (op_neD hu)) zNeC_ok ha hb (nomark _)
end
end Rq
set_option Elab.async false
set_option linter.all false
set_option maxRecDepth 100000
set_option maxHeartbeats 4000000
/-! Rq, part 58: t[::-1] of a tuple. -/
namespace Rq
open PySem PySem.Spec PyProof.Rows L2
theorem sliceApplied_rev {prog : Program} {w : World} {A : Around} {E : Value → Shared → Prop} {s : Shared} {sl : Addr} {vs : Value} {n : Nat} {Q : Int × Int × Nat → Shared → Prop} (hs : s.heap.IsSliceOf sl .none .none vs) (ps : IsPart vs (some (-1))) (h : Q ((n : Int) - 1, -1, n) s) :
    wpAny (model prog w) A (Builtin.Slice.sliceApplied (.ref sl) (pure (n : Int))) Q E s := by
  obtain ⟨os, hos, hcs, hds⟩ := hs
  unfold Builtin.Slice.sliceApplied Builtin.Slice.sliceFields
  refine wpAny_bind (wpAny_bind (wpAny_field hos hds rfl ?_))
  refine wpAny_bind (wpAny_field hos hds rfl ?_)
  refine wpAny_bind (wpAny_field hos hds rfl ?_)
  refine wpAny_pure ?_
  refine wpAny_bind (HT.slicePart_ ps ?_)
  dsimp only [Option.getD]
  rw [if_neg (by decide)]
  refine wpAny_bind (slicePart_none ?_)
  refine wpAny_bind (slicePart_none ?_)
  refine wpAny_bind (wpAny_pure ?_)
  have e : Builtin.Slice.sliceAdjust none none (-1) (n : Int) = ((n : Int) - 1, -1) := rfl
  have e2 : Builtin.Slice.slicePlaces ((n : Int) - 1) (-1) (-1) = n := by
    unfold Builtin.Slice.slicePlaces
    rw [if_neg (by decide)]
    by_cases h0 : (n : Int) - 1 > -1
    · rw [if_pos h0]
      have : ((n : Int) - 1 - -1 - 1) / - -1 + 1 = n := by
        rw [show (- -1 : Int) = 1 by decide, Int.ediv_one]
        omega
      rw [this]
      omega
    · rw [if_neg h0]
      omega
  show wpAny _ _ (pure _) _ _ _
  refine wpAny_pure ?_
  rw [e]
  dsimp only
  rw [e2]
  exact h
theorem pick_rev (xs : Array Value) : (List.filterMap (fun k : Nat => xs[((xs.size : Int) - 1 + k * (-1)).toNat]?) (List.range xs.size)).toArray = xs.toList.reverse.toArray := by
  congr 1
  have h1 : ∀ m, m ≤ xs.size → List.filterMap (fun k : Nat => xs[((xs.size : Int) - 1 + k * (-1)).toNat]?) (List.range m) = xs.toList.reverse.take m := by
    intro m
    induction m with
    | zero => intro _; rfl
    | succ m ih =>
      intro hm
      rw [List.range_succ, List.filterMap_append, ih (by omega)]
      have e : ((xs.size : Int) - 1 + m * (-1)).toNat = xs.size - 1 - m := by omega
      have e2 : List.filterMap (fun k : Nat => xs[((xs.size : Int) - 1 + k * (-1)).toNat]?) [m] = [xs[xs.size - 1 - m]'(by omega)] := by
        simp only [List.filterMap_cons, List.filterMap_nil]
        rw [e, Array.getElem?_eq_getElem (by omega)]
      rw [e2, List.take_succ]
      congr 1
      rw [List.getElem?_reverse (by rw [Array.length_toList]; omega), Array.length_toList, Array.getElem?_toList, Array.getElem?_eq_getElem (by omega)]
      rfl
  have h2 := h1 xs.size (Nat.le_refl _)
  rw [h2]
  refine List.take_of_length_le ?_
  rw [List.length_reverse, Array.length_toList]
  exact Nat.le_refl _
theorem getItem_tuple_rev {prog : Program} {w : World} {A : Around} {E : Value → Shared → Prop} {s : Shared} {t sl : Addr} {items : Array Value} {vs : Value} {Q : Value → Shared → Prop} (ht : IsTup s.heap t items) (hs : s.heap.IsSliceOf sl .none .none vs) (ps : IsPart vs (some (-1)))
    (h : Q (.ref s.heap.objs.size) { s with heap := s.heap.push { cls := .type "tuple", data := .seq items.toList.reverse.toArray } }) (hsz : items.size ≤ sizeLine) : wpAny (model prog w) A (getItem (.ref t) (.ref sl)) Q E s := by
  have htake : sizeOk (Data.seq items.toList.reverse.toArray) := by
    show items.toList.reverse.toArray.size ≤ sizeLine
    rw [List.size_toArray, List.length_reverse, Array.length_toList]
    exact hsz
  have hs0 := hs
  obtain ⟨os, hos, hcs, hds⟩ := hs
  have hTs : s.TypeIs (.ref sl) "slice" := ⟨os, hos, hcs⟩
  unfold getItem
  refine wpAny_holding (wpAny_bind (wpAny_sequenceKey ht.typeIs (by decide) (wpAny_bind (wpAny_callSpecial?_slot ht.typeIs slot_tuple_getitem (wpAny_call_entry slot_tuple_getitem ht.typeIs entry_tuple_getitem ?_ (args_tuple_getitem _ _))))))
  show wpAny _ _ (do
      let xs ← Builtin.Tuple.tupleItemsOf (.ref t)
      _) _ _ _
  refine wpAny_bind (tupleItemsOf_ ht (wpAny_bind (wpAny_typeOf hTs ?_)))
  rw [if_pos (by decide)]
  refine wpAny_bind (sliceApplied_rev hs0 ps ?_)
  dsimp only
  rw [if_neg (by
    intro q
    rw [Bool.and_eq_true, Bool.and_eq_true] at q
    exact absurd q.1.2 (by decide)), pick_rev]
  exact wpAny_bind (wpAny_newObj_type (wpAny_pure ⟨_, rfl, wpAny_pure h⟩) htake)
abbrev tRevT (K : PySem.W.Frag) (te : TE) : TE := fun σ H Q => te σ H fun x H1 => ∃ a xs, x = .ref a ∧ SqT K H1 a xs ∧ ∀ p, H1 p = none → Q (.ref p) (upd H1 p (.tup xs.reverse))
theorem pe_revT {X : Cx} {e : PySem.Expr} {te : TE} {k : Nat} {p1 p2 p3 pos : Pos} (he : PE X e te) : PE X (.Subscript e (.Slice none none (some (.UnaryOp .USub (.Constant (.int 1) k p1) p2)) p3) pos) (tRevT X.K te) := by
  constructor
  intro pins s σ H Q I h
  refine Subscript_ (thn (he.run pins s σ H _ I h) ?_)
  rintro v s1 ⟨x, H1, I1, r1, a, xs, rfl, hx, q⟩
  cases r1
  have hst : PO X (some (.UnaryOp .USub (.Constant (.int 1) k p1) p2)) _ := po_some (pe_un un_neg pe_int)
  refine wpAny_Slice (thn (po_none.run pins s1 σ H1 (fun o H2 => o = none ∧ H2 = H1) I1 ⟨rfl, rfl⟩) ?_)
  rintro vl s2 ⟨l, H2, I2, pl, rfl, rfl⟩
  refine thn (po_none.run pins s2 σ H2 (fun o H3 => o = none ∧ H3 = H2) I2 ⟨rfl, rfl⟩) ?_
  rintro vu s3 ⟨u, H3, I3, pu, rfl, rfl⟩
  refine thn (hst.run pins s3 σ H3 (fun o H4 => o = some (-1) ∧ H4 = H3) I3 ⟨1, rfl, -1, rfl, rfl, rfl⟩) ?_
  rintro vs s4 ⟨o, H4, I4, ps, rfl, rfl⟩
  have I5 := I4.kept (t' := s4.toks) fun b ob q => Heap.get?_push_of_some { cls := .type "slice", data := .fields #[vl, vu, vs] } q
  obtain ⟨its, r, ht, hz⟩ := I5.tuple hx
  have hsl : (s4.heap.push { cls := .type "slice", data := .fields #[vl, vu, vs] }).IsSliceOf s4.heap.objs.size vl vu vs := Heap.IsSliceOf.new _ _ _ _
  cases pl
  cases pu
  refine tail_any ht.typeIs slot_tuple_getitem.lookup (getItem_tuple_rev ht hsl ps ?_ (by rw [List.size_toArray, ← r.length]; exact hz)) rfl
  have lay := I5.laid (t' := s4.toks) (a := (s4.heap.push { cls := .type "slice", data := .fields #[Value.none, Value.none, vs] } : Heap).objs.size) (o := .tup xs.reverse) (h' := (s4.heap.push { cls := .type "slice", data := .fields #[Value.none, Value.none, vs] }).push { cls := .type "tuple", data := .seq its.toArray.toList.reverse.toArray }) (fun b u q => Heap.get?_push_of_some _ q) (Nat.le_refl _)
  have np := I5.hok.fresh (Nat.le_refl _)
  refine ⟨.ref _, _, lay ?_, rfl, q _ np⟩
  unfold ObjOk
  exact ⟨by rw [List.length_reverse]; exact hz, its.reverse, r.reverse, IsTup.new _ _⟩
section
variable {K : PySem.W.Frag} {W : WX} {X : Cx} {e : PySem.Expr} {f : EF} {pos : Pos}
def zRevT : D → ST → Res D := fun d st => match d with
  | .tup xs => .ok (.tup xs.reverse) st
  | _ => .stuck
theorem x_revT {k : Nat} {p1 p2 p3 : Pos} (ha : PX X W e f) : PX X W (.Subscript e (.Slice none none (some (.UnaryOp .USub (.Constant (.int 1) k p1) p2)) p3) pos) (f1 zRevT f) := pe_imp (pe_revT ha) fun σ H Q w => by
  obtain ⟨c, sl, rfl, S, L, P⟩ := w
  refine ⟨c, sl, rfl, S, L, Post.bind P fun v d c1 s1 o1 r1 P1 => ?_⟩
  unfold zRevT at P1
  split at P1
  · next xs =>
    cases r1 with
    | tup h1 h2 => exact ⟨_, _, rfl, o1.ex.t h1, fun p hp => newTup o1 hp (DRs.rev h2) P1⟩
  · exact P1.elim
end
/-! repr of bools too -/
section
variable {K : PySem.W.Frag} {W : WX} {X : Cx} {e : PySem.Expr} {es : List PySem.Expr} {pos p : Pos}
def boolTxt (b : Bool) : Str := if b = true then Str.ofString "True" else Str.ofString "False"
theorem call_repr_bool {X : Cx} : CallR X (.builtin "repr") (fun xs H Q => ∃ b, xs = [V.bl b] ∧ Q (.str (boolTxt b)) H) := by
  intro pins s σ H xs us Q I rx ⟨b, e, q⟩
  subst e
  cases rx with
  | cons r t =>
    cases t
    obtain rfl : _ = Value.bool b := r
    refine call_repr_gives (T := "bool") rfl F.slot_bool_repr F.entry_bool_repr (F.args_bool_repr_1 _) (AutoBoolG0.bool___repr___bool_0 b) ?_ rfl (by cases b <;> decide)
    exact ⟨.str (boolTxt b), H, I.kept (t' := s.toks + 1) fun b o q => q, ⟨s.toks, rfl⟩, q⟩
def reprOkB (d : PyData) : Bool := d.showable && !d.hasDict && isDisplay d && decide (d.depth ≤ 100) && decide (d.shown.length ≤ 8000000)
abbrev rReprB (K : PySem.W.Frag) : List V → Hp → VK → Prop := fun xs H Q => ∃ x d, xs = [x] ∧ Dp K H x d ∧ reprOkB d = true ∧ Q (.str d.shown) H
theorem call_reprB (gd : X.A.guards = some []) (hu : X.A.units + 200 < cLine) : CallR X (.builtin "repr") (rReprB X.K) := by
  intro pins s σ H xs us Q I rx ⟨x, d, e, hd, hk, q⟩
  subst e
  cases rx with
  | cons r t =>
    cases t
    rename_i u
    unfold reprOkB at hk
    simp only [Bool.and_eq_true, decide_eq_true_eq, Bool.not_eq_true'] at hk
    obtain ⟨⟨⟨⟨h1, h2⟩, h3⟩, h4⟩, h5⟩ := hk
    obtain ⟨as, rd⟩ := Dp.reads I d x u hd r
    have hr : ∃ a, u = .ref a := by
      cases rd with
      | list => exact ⟨_, rfl⟩
      | tuple => exact ⟨_, rfl⟩
      | dict => exact ⟨_, rfl⟩
      | _ => cases h3
    obtain ⟨a, rfl⟩ := hr
    refine PySem.repr_of_reads' rd h1 (fun z => by rw [h2] at z; cases z) gd (by omega) (fun b o e => e) (fun h' u tk k => ?_) (Nat.le_trans h5 (by decide))
    exact ⟨.str d.shown, H, I.kept k, ⟨u, rfl⟩, q⟩
def zRepr3 : List D → ST → Res D
  | [.bl b], st => .ok (.str (boolTxt b)) st
  | [.int i], st => if i.natAbs.log2 < 1920 then .ok (.str (toString i)) st else .stuck
  | [x], st => (match toPyS x st with
    | some d => if reprOkB d then .ok (.str d.shown) st else .stuck
    | none => .stuck)
  | _, _ => .stuck
abbrev rRepr3 (K : PySem.W.Frag) : List V → Hp → VK → Prop := fun xs H Q => (∃ b, xs = [V.bl b] ∧ Q (.str (boolTxt b)) H) ∨ ((∃ i, xs = [.int i] ∧ i.natAbs.log2 < 1920 ∧ Q (.str (toString i)) H) ∨ rReprB K xs H Q)
theorem zRepr3_ok : OpA K W (rRepr3 K) zRepr3 := fun c vs ds Q S r P => by
  unfold zRepr3 at P
  split at P
  · next b =>
    cases r with
    | cons r1 t => cases t; cases r1; exact .inl ⟨b, rfl, Post.ok S (.str _) P⟩
  · next i =>
    split at P
    · next h =>
      cases r with
      | cons r1 t => cases t; cases r1; exact .inr (.inl ⟨i, rfl, h, Post.ok S (.str _) P⟩)
    · exact P.elim
  · next x =>
    split at P
    · next d hd =>
      split at P
      · next hk =>
        cases r with
        | cons r1 t => cases t; exact .inr (.inr ⟨_, d, rfl, toPyS_ok S r1 hd, hk, Post.ok S (.str _) P⟩)
      · exact P.elim
    · exact P.elim
  · exact P.elim
theorem reprB_of {x : D} {d : PyData} {deep w : Nat} {st : ST} (e : toPyS x st = some d) (h : Fine d deep w) (hd : isDisplay d = true) (h1 : deep ≤ 100) (h2 : w ≤ 500000) : zRepr3 [x] st = .ok (.str d.shown) st := by
  have h3 := PyData.shown_le 13 (by decide) d h.short
  have h4 := h.small
  have hs : d.shown.length ≤ 8000000 := by omega
  have ok : reprOkB d = true := by
    unfold reprOkB
    rw [h.show1, h.dict, hd, decide_eq_true hs, decide_eq_true (Nat.le_trans h.deep h1)]
    rfl
  have n1 : ∀ b, x ≠ .bl b := by
    intro b hb
    subst hb
    have : toPyS (.bl b) st = some (.bool b) := rfl
    rw [this] at e
    cases e
    simp [isDisplay] at hd
  have n2 : ∀ i, x ≠ .int i := by
    intro i hi
    subst hi
    have : toPyS (.int i) st = some (.int i) := rfl
    rw [this] at e
    cases e
    simp [isDisplay] at hd
  unfold zRepr3
  split
  · next b hh => exact absurd (by cases hh; rfl) (n1 b)
  · next i hh => exact absurd (by cases hh; rfl) (n2 i)
  · next y _ _ hh =>
    cases hh
    simp only [e]
    rw [if_pos ok]
  · next h1 h2 h3 => exact absurd rfl (h3 x)
theorem x_repr3 {g : AF} (gd : X.A.guards = some []) (hu : X.A.units + 200 < cLine) (hm : X.mg "repr" = none) (ha : PXs X W (e :: es) g) (hg : Gl X "repr" := by rfl)
    (hs : starEach (e :: es) X.env = (false, eval e X.env) :: starEach es X.env := by rfl) (hpl : (backTo pos (starEach es X.env)).any (·.1) = false := by rfl) : PX X W (.Call (.Name "repr" p) (e :: es) [] pos) (fA zRepr3 g) :=
  x_bltn (Rq.CallR.or call_repr_bool (Rq.CallR.or SkE.call_repr_int (call_reprB gd hu))) zRepr3_ok hm PyProof.Rows.boot_repr ha hg (by decide) (by decide) hs hpl
end
end Rq
set_option Elab.async false
set_option linter.all false
set_option maxRecDepth 100000
set_option maxHeartbeats 4000000
/-! Rq, part 59: zip of two texts. -/
namespace Rq
open PySem PySem.Spec PyProof.Rows L2
def ItzS (x y : Str) : It where
  go i _ := i < x.cps.size ∧ i < y.cps.size
  yld i H v H' := ∃ T a b, v = .ref T ∧ H T = none ∧ H' = upd H T (.tup [.str ⟨#[a]⟩, .str ⟨#[b]⟩]) ∧ x.cps[i]? = some a ∧ y.cps[i]? = some b
  stop i _ := i ≤ x.cps.size ∧ i ≤ y.cps.size ∧ (i = x.cps.size ∨ i = y.cps.size)
abbrev tnS (x y : Str) (t u : Tok) (z TI TO i1 i2 : Addr) : Nat → Heap → Prop := fun i h => IsZip h z TI TO .none ∧ IsTupOf2 h TI (.ref i1) (.ref i2) ∧ (∃ a b, IsTupOf2 h TO a b) ∧ h.IsStrIter i1 (strIterType x) x t i ∧ h.IsStrIter i2 (strIterType y) y u i
theorem turn_zipS {P : Program} {w : World} {K : PySem.W.Frag} {elts : List Expr} {kk : Nat} {tpos : Pos} {x y : Str} {t u : Tok} {z TI TO i1 i2 : Addr} (hz : ZipSep2 z TI TO i1 i2 [i1] [i2]) : Turn P w K (.Tuple elts kk tpos) (ItzS x y) [z, TI, TO, i1, i2] z (tnS x y t u z TI TO i1 i2) where
  mem := by simp
  obj i h tn b hb := by
    obtain ⟨h1, h2, ⟨a, c, h3⟩, ⟨o4, h4, _, d4⟩, ⟨o5, h5, _, d5⟩⟩ := tn
    simp only [List.mem_cons, List.not_mem_nil, or_false] at hb
    rcases hb with rfl | rfl | rfl | rfl | rfl
    · exact ⟨_, h1, fun v e => by cases e⟩
    · exact ⟨_, h2, fun v e => by cases e⟩
    · exact ⟨_, h3, fun v e => by cases e⟩
    · exact ⟨_, h4, fun v e => by rw [d4] at e; cases e⟩
    · exact ⟨_, h5, fun v e => by rw [d5] at e; cases e⟩
  keep i h h' tn k := by
    obtain ⟨h1, h2, ⟨a, c, h3⟩, ⟨o4, h4, c4, d4⟩, ⟨o5, h5, c5, d5⟩⟩ := tn
    exact ⟨k z (by simp) _ h1, k TI (by simp) _ h2, ⟨a, c, k TO (by simp) _ h3⟩, ⟨o4, k i1 (by simp) _ h4, c4, d4⟩, ⟨o5, k i2 (by simp) _ h5, c5, d5⟩⟩
  item X hP hw hK hc i pins s σ H E I fp tn hgo := by
    subst hP; subst hw; subst hK
    obtain ⟨h1, h2, ⟨a, c, h3⟩, h4, h5⟩ := tn
    have hh : X.A.in1.handled = none := I.ok.hd hc
    refine wpAny_pyNext_zipD2_item hz (Draws.text hh i1 x t) (Draws.text hh i2 y u) h1 h2 h3 h4 h5 hgo.1 hgo.2 fun x1 x2 h' tk p1 p2 iz it s1 s2 iT hsz kp => ?_
    obtain ⟨c1, t1, g1, rfl⟩ := p1
    obtain ⟨c2, t2, g2, rfl⟩ := p2
    have zlt : z < s.heap.objs.size := Heap.lt_size h1
    have fr : H s.heap.objs.size = none := I.hok.fresh (Nat.le_refl _)
    refine ⟨_, rfl, wpAny_letOwnedTupleGo_zip iz fun h'' iz' sb => ?_⟩
    have up : ∀ b o, b ≠ z → h'.get? b = some o → h''.get? b = some o := fun b o hb e => by rw [sb.2 b hb]; exact e
    refine ⟨.ref s.heap.objs.size, upd H s.heap.objs.size (.tup [.str ⟨#[c1]⟩, .str ⟨#[c2]⟩]), I.turnedNew (ch := [z, TO, i1, i2]) (fun b o hb e => ?_) (fun b hb => ?_) (Nat.le_refl _) ?_, rfl, ⟨_, c1, c2, rfl, fr, rfl, g1, g2⟩, ⟨iz', up TI _ hz.TIz (kp TI _ hz.TIz hz.TITO hz.TIi1 hz.TIi2 h2), ⟨_, _, up TO _ hz.TOz it⟩, ?_, ?_⟩, fun b hb => ?_⟩
    · simp only [List.mem_cons, List.not_mem_nil, or_false, not_or] at hb
      exact up b o hb.1 (kp b o hb.1 hb.2.1 hb.2.2.1 hb.2.2.2 e)
    · refine fp b ?_
      simp only [List.mem_cons, List.not_mem_nil, or_false] at hb ⊢
      rcases hb with rfl | rfl | rfl | rfl <;> simp
    · unfold ObjOk
      exact ⟨(by decide : 2 ≤ sizeLine), [_, _], .cons ⟨t1, rfl⟩ (.cons ⟨t2, rfl⟩ .nil), ⟨_, up _ _ (Nat.ne_of_gt zlt) iT, rfl, _, rfl⟩⟩
    · obtain ⟨o, q1, q2, q3⟩ := s1
      exact ⟨o, up i1 _ (fun e => hz.zf1 (by simp [e])) q1, q2, q3⟩
    · obtain ⟨o, q1, q2, q3⟩ := s2
      exact ⟨o, up i2 _ (fun e => hz.zf2 (by simp [e])) q1, q2, q3⟩
    · have hb2 := (fp b hb).1
      rw [upd_ne]
      · exact hb2
      · rintro rfl
        have : ∃ o, s.heap.get? s.heap.objs.size = some o := by
          simp only [List.mem_cons, List.not_mem_nil, or_false] at hb
          rcases hb with e | e | e | e | e
          · exact ⟨_, e ▸ h1⟩
          · exact ⟨_, e ▸ h2⟩
          · exact ⟨_, e ▸ h3⟩
          · obtain ⟨o, q, _⟩ := h4; exact ⟨o, e ▸ q⟩
          · obtain ⟨o, q, _⟩ := h5; exact ⟨o, e ▸ q⟩
        obtain ⟨o, q⟩ := this
        exact absurd (Heap.lt_size q) (Nat.lt_irrefl _)
  done X hP hw hK hc i pins s σ H E I fp tn hst := by
    subst hP; subst hw; subst hK
    obtain ⟨h1, h2, ⟨a, c, h3⟩, h4, h5⟩ := tn
    have hh : X.A.in1.handled = none := I.ok.hd hc
    refine wpAny_pyNext_zipD2_end hz (Draws.text hh i1 x t) (Draws.text hh i2 y u) h1 h2 h3 h4 h5 hst.1 hst.2.1 hst.2.2 fun h' tk kp => ⟨rfl, I.turnedL (ch := [z, TO, i1, i2]) (fun b o hb e => ?_) (fun b hb => ?_)⟩
    · simp only [List.mem_cons, List.not_mem_nil, or_false, not_or] at hb
      exact kp b o hb.1 hb.2.1 hb.2.2.1 hb.2.2.2 e
    · refine fp b ?_
      simp only [List.mem_cons, List.not_mem_nil, or_false] at hb ⊢
      rcases hb with rfl | rfl | rfl | rfl <;> simp
  self A i s Q E tn q := wpAny_pyIter_zip tn.1 q
def iZipS (ta : TA) : TI := fun σ H R => ta σ H fun vs H1 => ∃ x y, vs = [.str x, .str y] ∧ R (ItzS x y) H1
theorem pi_zipS {X : Cx} {e e2 : Expr} {ta : TA} {p pos tpos : Pos} {elts : List Expr} {kk : Nat} (hg : Gl X "zip") (hm : X.mg "zip" = none) (ha : PA X [e, e2] ta) (hs : starEach [e, e2] X.env = (false, eval e X.env) :: starEach [e2] X.env := by rfl) (hpl : (backTo pos (starEach [e2] X.env)).any (fun x => x.1) = false := by rfl) :
    PI X (.Tuple elts kk tpos) (.Call (.Name "zip" p) [e, e2] [] pos) (iZipS ta) := by
  constructor
  intro pins s σ H R I h
  refine Call_ (ld_blt I hg hm boot_zip (callWith_type1 (thn (ha.run pos pins s σ H _ I h) ?_) hs hpl))
  rintro us s1 ⟨vs, H1, I1, r1, x, y, rfl, q⟩
  cases r1 with
  | cons r rr =>
    cases rr with
    | cons r' rr =>
      cases rr
      obtain ⟨t, rfl⟩ := r
      obtain ⟨u, rfl⟩ := r'
      refine zip_begins2 (begins_text x t) (begins_text y u) trivial trivial fun h' iz ti to g1 g2 hsz kp => ?_
      refine wpAny_pyIter_zip iz ⟨s1.heap.objs.size + 4, _, _, ItzS x y, H1, rfl, I1.kept (t' := s1.toks) kp, turn_zipS (x := x) (y := y) (t := t) (u := u) (TI := s1.heap.objs.size + 2) (TO := s1.heap.objs.size + 3) (i1 := s1.heap.objs.size) (i2 := s1.heap.objs.size + 1) ?_, ⟨iz, ti, ⟨_, _, to⟩, ⟨_, g1, rfl, rfl⟩, ⟨_, g2, rfl, rfl⟩⟩, fun b hb => ?_, q⟩
      · have ne5 : ∀ (n a b : Nat), a ≠ b → (n + a : Nat) ≠ n + b := fun n a b h => by omega
        constructor <;> simp
      · have hb' : s1.heap.objs.size ≤ b := by
          simp only [List.mem_cons, List.not_mem_nil, or_false] at hb
          have le : ∀ n k : Nat, n ≤ n + k := fun n k => Nat.le_add_right n k
          rcases hb with rfl | rfl | rfl | rfl | rfl
          · exact le _ _
          · exact le _ _
          · exact le _ _
          · exact Nat.le_refl _
          · exact le _ _
        exact I1.fpOk hb' (I1.hok.fresh hb')
section
variable {K : PySem.W.Frag} {W : WX} {X : Cx} {a b : PySem.Expr} {pos : Pos} {c : Cf}
theorem ylds_zipS {x y : Str} : Ylds K c (ItzS x y) (zipD (signsD x) (signsD y)) := by
  have e : (zipD (signsD x) (signsD y)).length = min x.cps.size y.cps.size := by rw [zipD_length]; simp [signsD]
  refine ⟨fun i H v H' => ∃ T a b, v = .ref T ∧ H T = none ∧ H' = upd H T (.tup [.str ⟨#[a]⟩, .str ⟨#[b]⟩]) ∧ x.cps[i]? = some a ∧ y.cps[i]? = some b, ?_, fun i v H H' d hd ex q => ?_⟩
  · rw [e]
    exact ⟨fun i H hi G => ⟨by omega, by omega⟩, fun H G => ⟨by omega, by omega, by omega⟩, fun i H v H' hi G q => q⟩
  · obtain ⟨T, a, b, rfl, h3, h4, h5, h6⟩ := q
    obtain ⟨u, v, q1, q2, rfl⟩ := zipD_get _ _ i d hd
    unfold signsD at q1 q2
    rw [List.getElem?_map, Array.getElem?_toList, h5] at q1
    rw [List.getElem?_map, Array.getElem?_toList, h6] at q2
    cases q1
    cases q2
    exact .inr ⟨T, _, _, rfl, h3, h4, rfl, .cons (.str _) (.cons (.str _) .nil)⟩
def fZipS (g : AF) : AF := fun sl st => (g sl st).bind fun ds st1 => match ds with
  | [.str x, .str y] => .ok (zipD (signsD x) (signsD y)) st1
  | _ => .stuck
theorem xi_zipS {elts : List PySem.Expr} {kk : Nat} {tpos p : Pos} {g : AF} (hm : X.mg "zip" = none) (ha : PXs X W [a, b] g) (hg : Gl X "zip" := by rfl) (hs : starEach [a, b] X.env = (false, eval a X.env) :: starEach [b] X.env := by rfl) (hpl : (backTo pos (starEach [b] X.env)).any (·.1) = false := by rfl) :
    XI X W (.Tuple elts kk tpos) (.Call (.Name "zip" p) [a, b] [] pos) (fZipS g) := pi_imp (pi_zipS hg hm ha hs hpl) fun σ H R w => by
  obtain ⟨c, sl, rfl, S, L, P⟩ := w
  refine ⟨c, sl, rfl, S, L, Post.bind P fun vs ds c1 s1 o1 r1 P1 => ?_⟩
  split at P1
  · next x y =>
    cases r1 with
    | cons ra t =>
      cases t with
      | cons rb t =>
        cases t
        cases ra
        cases rb
        exact ⟨x, y, rfl, P1 _ c1 (Step.refl _) o1 rfl ylds_zipS⟩
  · exact P1.elim
end
/-! an expression's row, and a list of a name that is only read from there on -/
section
variable {K : PySem.W.Frag} {W : WX} {X : Cx} {e : PySem.Expr} {f : EF} {pos : Pos}
def fExprFz (i : Nat) (f : EF) : SF := fun sl st => (f sl st).bind fun _ st1 => match sl[i]? with
  | some (some (.cel k)) => (match st1[k]? with
    | some (some (.lst xs)) => .ok (.nx (sl.set i (some (.lst xs)))) (st1.set k none)
    | _ => .stuck)
  | _ => .stuck
theorem y_exprFz (i : Nat) (h : PX X W e f) (hs : swapsWith e none pos.line X.env = pure false := by rfl) : PY X W (.Expr e pos) (fExprFz i f) := ps_imp (ps_expr h hs) fun E σ H w => by
  obtain ⟨c, sl, rfl, S, L, P⟩ := w
  refine ⟨c, sl, rfl, S, L, PostS.bind P fun v d c1 s1 o1 r1 P1 => ?_⟩
  have L1 := s1.sl L
  split at P1
  · next k hk =>
    split at P1
    · next xs hx =>
      obtain ⟨v2, h1, h2⟩ := L1.get i _ hk
      obtain ⟨a, q1, q2, vs, q3, q4⟩ := o1.cell k _ hx
      cases h2 with
      | cel q5 =>
        rw [q1] at q5; cases q5
        obtain ⟨z1, z2, _⟩ := Cf.frzO (o := .lst vs) o1 hx q1
        rw [upd_self q3] at z1 z2
        have L2' := (z2.sl L1).set (v := .ref a) (d := .lst xs) (.lst upd_same (q4.mono z2.ex (Pf.refl _))) i
        have e1 : σ.set i (some (.ref a)) = σ := by
          refine List.ext_getElem? fun j => ?_
          by_cases hj : j = i
          · subst hj
            rw [List.getElem?_set_self (List.getElem?_eq_some_iff.mp h1).1, h1]
          · rw [List.getElem?_set_ne (by omega)]
        rw [e1] at L2'
        exact P1 _ z2 z1 rfl σ L2'
    · exact P1.elim
  · exact P1.elim
end
end Rq
set_option Elab.async false
set_option linter.all false
set_option maxRecDepth 100000
set_option maxHeartbeats 4000000
/-! Rq, part 60: an instance made whose __init__ may raise. -/
namespace Rq
open PySem PySem.Spec PyProof.Rows L2
theorem run_makeS {X : Cx} {CX : CXT} {k : Nat} {f C : Addr} {fd : FuncData} {ps : List Str} {sp : Sp} {dvs : List V} {ds : List Value} {E : XK} {pins : List (Addr × Obj)} {σ : L2.St} {H : Hp} {s : Shared} {Q : VK} {us : List Value} {vs : List V}
    (M : Mk X.K C f) (F : FnOk X.prog X.w X.K X.mg X.base CX k f fd ps sp) (hr : Room (k + 1) X.A) (hb : Binds X.K fd ps ds) (hd : Vals dvs ds) (hx : PassesAt CX X σ E) (I : L2.Inv X pins σ H s) (r : Vals vs us)
    (h : ∀ x dx : Addr, H x = none → H dx = none → dx ≠ x → sp (.ref x :: (vs ++ dvs)) (upd (upd H dx (.own x)) x (.ins C dx [])) (fun v H2 => v = .non ∧ Q (.ref x) H2) E) : wpAny (model X.prog X.w) X.A (call (.ref C) us) (EP X pins σ Q) X.xe s := by
  have hq := h (s.heap.objs.size + 1) s.heap.objs.size (HOk.fresh I.hok (Nat.le_succ _)) (HOk.fresh I.hok (Nat.le_refl _)) (Nat.ne_of_lt (Nat.lt_succ_self _))
  have I2 := Inv.made (C := C) I
  have r2 : Vals (.ref (s.heap.objs.size + 1) :: (vs ++ dvs)) (.ref (s.heap.objs.size + 1) :: (us ++ ds)) := .cons rfl (Vals.append r hd)
  have hl : (Value.ref (s.heap.objs.size + 1) :: (us ++ ds)).length = ps.length := by
    rw [← r2.length]
    exact F.len _ _ _ _ hq
  refine wpAny_call (make_map I.kIn M.makes M.init (beq_iff_eq.mp M.fn) (codeAny_mono (F.run (X.A.under (.builtin "type.__call__" { pos := .ref C :: us })) X.stack { s with heap := (s.heap.push W.emptyDict).push (W.instObj C s.heap.objs.size) } _ { pos := .ref (s.heap.objs.size + 1) :: us } _ _ _ E (Room.make hr C us []) (Env0.make I2.env0 C us []) (hb _ (.ref (s.heap.objs.size + 1) :: us) I2.kIn hl) r2 hq) fun r s' hq' => ?_))
  cases r with
  | error e => exact hx pins _ _ e s' I2 hq'
  | ok fl =>
    cases fl with
    | ret u =>
      obtain ⟨v, H', I3, rv, ev, q3⟩ := I2.after hq'
      subst ev
      exact ⟨rv, .ref (s.heap.objs.size + 1), H', I3, rfl, q3⟩
    | next => exact False.elim hq'
    | brk => exact False.elim hq'
    | cont => exact False.elim hq'
theorem pe_makeS {X : Cx} {CX : CXT} {k : Nat} {f C : Addr} {fd : FuncData} {ps : List Str} {sp : Sp} {E : L2.St → XK} {x : Str} {p pos : Pos} {e : Expr} {es : List Expr} {t : TA}
    (M : Mk X.K C f) (F : FnOk X.prog X.w X.K X.mg X.base CX k f fd ps sp) (hr : Room (k + 1) X.A) (hg : Gl X x) (hm : X.mg x = some (.ref C)) (hb : Binds X.K fd ps []) (hx : ∀ σ, PassesAt CX X σ (E σ)) (ha : PA X (e :: es) t) (hdb : (x == ("__debug__" : Str)) = false := by decide)
    (he : starEach (e :: es) X.env = (false, eval e X.env) :: starEach es X.env := by rfl) (hpl : (backTo pos (starEach es X.env)).any (·.1) = false := by rfl) : PE X (.Call (.Name x p) (e :: es) [] pos) (fun σ H Q => tMake C sp [] (E σ) t σ H Q) := by
  constructor
  intro pins s σ H Q I h
  refine wpAny_Call_Name_kw (ld_glob I hg hm ?_ hdb)
  refine PySem.W.callWith_K I.ok.mod.kin M.kp (thn (ha.run pos pins s σ H _ I h) ?_) he hpl
  rintro us s1 ⟨vs, H1, I1, r, q⟩
  exact ⟨I1.kIn, run_makeS M F hr hb .nil (hx σ) I1 r q⟩
/-- a class whose __init__ may raise -/
structure MX (P : Program) (w : World) (K : PySem.W.Frag) (mg : Str → Option Value) (base : Heap) (x : Str) (C : Addr) (k n : Nat) (F : DF) : Prop where
  ex : ∃ (f : Addr) (fd : FuncData) (ps : List Str), Mk K C f ∧ FnOk P w K mg base (L2N.CX P w) k f fd ps (spF K n F) ∧ mg x = some (.ref C) ∧ Binds K fd ps []
def fMakeR (n : Nat) (C : Addr) (F : DF) (g : AF) : EF := fun sl st => (g sl st).bind fun ds st1 => bif ds.length + 1 == n then ((F (.cel st1.length :: ds) (st1 ++ [some (.ins C [])])).at sl).bind (fun r st2 => match r with
  | .non => .ok (.cel st1.length) st2
  | _ => .stuck) else .stuck
section
variable {X : Cx} {W : WX} {e : Expr} {es : List Expr} {pos p : Pos}
theorem x_makeR {x : Str} {C : Addr} {k j n : Nat} {Fn : DF} {g : AF} (tk : L2N.Takes X W) (d : MX X.prog X.w X.K X.mg X.base x C j n Fn) (hr : Room k X.A) (hj : j + 1 ≤ k) (ha : PXs X W (e :: es) g) (hg : Gl X x := by rfl) (hdb : (x == ("__debug__" : Str)) = false := by decide)
    (he : starEach (e :: es) X.env = (false, eval e X.env) :: starEach es X.env := by rfl) (hpl : (backTo pos (starEach es X.env)).any (·.1) = false := by rfl) : PX X W (.Call (.Name x p) (e :: es) [] pos) (fMakeR n C Fn g) := by
  obtain ⟨f, fd, ps, h1, h2, h3, h4⟩ := d.ex
  refine pe_imp (pe_makeS (E := WE W) h1 h2 (hr.mono hj) hg h3 h4 (fun σ => L2N.passAt tk σ) ha hdb he hpl) fun σ H Q w => ?_
  obtain ⟨c, sl, rfl, S, L, P⟩ := w
  refine ⟨c, sl, rfl, S, L, Post.bind P fun vs ds c1 s1 o1 r1 P1 => ?_⟩
  intro x dx hx hdx ne
  cases hn : (ds.length + 1 == n) with
  | false => rw [hn] at P1; exact P1.elim
  | true =>
    rw [hn] at P1
    dsimp only [cond] at P1
    obtain ⟨o2, s2⟩ := Cf.fix (p := dx) (o := .own x) o1 hdx
    have hx2 : upd c1.H dx (.own x) x = none := by rw [upd_ne (fun e => ne e.symm)]; exact hx
    obtain ⟨o3, s3⟩ := Cf.cellNew (c := ⟨upd c1.G dx (.own x), upd c1.H dx (.own x), c1.as, c1.st⟩) (p := x) (d := .ins C []) (o := .ins C dx []) o2 hx2 ⟨dx, [], upd_same, .nil⟩
    have hk : (c1.as ++ [x])[c1.st.length]? = some x := by rw [← o1.len]; simp
    refine ⟨_, .cel c1.st.length :: ds, rfl, o3, .cons (.cel hk) (by rw [List.append_nil]; exact s3.drs (s2.drs r1)), by simpa using eq_of_beq hn, ?_⟩
    have P2 := Post.mono (s2.trans s3) P1
    refine Post.at (((s1.trans s2).trans s3).sl L) ?_
    refine Post.bind P2 fun v d c4 s4 o4 r4 P4 => ?_
    cases d with
    | non =>
      cases r4
      exact ⟨rfl, P4 _ c4 (Step.refl _) o4 rfl (.cel (s4.pf _ _ hk))⟩
    | _ => exact P4.elim
end
section
variable {P : Program} {w : World} {K : PySem.W.Frag} {mg : Str → Option Value} {base : Heap} {C : Addr} {qual x : Str} {st : Stmt} {N ps : List Str} {k n : Nat} {F : SF}
theorem mx_of (T : AtM K C "__init__" qual st) (hmk : PySem.W.makesIn K C = true) (hkp : PySem.W.keepIn K (.ref C) = true) (hx : mg x = some (.ref C)) (S : FnScope N ps (defScope st)) (hn : ps.length = n)
    (hb : ∀ (kV doc pm : Value) (an : Option Addr) (cdv ct : Value) (us : List Value), us.length = ps.length → bindArgs (PySem.W.fnOf "__init__" qual (defArgs st) (defBody st) (defScope st) .none kV doc pm an cdv ct) ⟨us, []⟩ = pure (ps.zip us))
    (h : ∀ (fa : Addr) (cdv : Value) (A : Around) (outer : List Env) (s : Shared) (H : Hp) (E : XK), Room k (A.deeper (envOfC qual (defScope st) s.heap.objs.size fa cdv)) →
      PYs (cxOf (L2N.CX P w) P w K mg base N qual (defScope st) fa cdv A outer s H E) (fun cls d _ H => E cls d H) (defBody st) F) : MX P w K mg base x C (k + 1) n (bodyF N.length F) := by
  obtain ⟨fa, oc, od, an, osl, kV, doc, pm, cdv, ct, h1, h2, h3, h4, h5⟩ := T.ex
  have Fu := fun_mk h3 h4 h5
  refine ⟨fa, _, ps, ⟨hmk, h1, h2, hkp⟩, ?_, hx, Fu.binds hb⟩
  refine okN Fu S (fun vs H Q E h => ?_) (fun cdv A outer s H vs Q E hr hs => ?_)
  · obtain ⟨c, ds, _, _, r, e, _⟩ := h
    rw [r.length, e, hn]
  · obtain ⟨c, ds, rfl, o, r, e, P⟩ := hs
    refine ⟨_, h fa cdv A outer s c.H E hr, c, _, rfl, o, SlR.start r, ?_⟩
    show PostS K _ c _ (F _ c.st)
    unfold bodyF at P
    cases q : F (ds.map some ++ List.replicate (N.length - ds.length) none) c.st with
    | stuck => rw [q] at P; exact P
    | err C d sl st => rw [q] at P; exact fun C0 c' dx v σ' hx s0 o0 e0 l0 g0 r0 => P C0 c' dx v σ' hx s0 o0 e0 l0 g0 r0
    | ok fl st1 =>
      rw [q] at P
      intro c1 s1 o1 e1
      subst e1
      cases fl with
      | nx sl => exact fun σ' L' => P .non c1 s1 o1 rfl .non
      | rt d => exact fun v r => P v c1 s1 o1 rfl r
      | bk sl => exact P.elim
      | ct sl => exact P.elim
end
/-! a def called without arguments -/
section
variable {X : Cx} {W : WX} {pos p : Pos}
theorem x_def0 {x : Str} {k j : Nat} {Fn : DF} (d : Df X.prog X.w X.K X.mg X.base x j 0 Fn) (gd : X.A.guards = some []) (hr : Room k X.A) (hj : j ≤ k) (hg : Gl X x := by rfl) (hdb : (x == ("__debug__" : Str)) = false := by decide)
    (hks : (backToKw pos (keywordEach [] X.env)).filterMap (·.1) = [] := by rfl) (hall : ((backToKw pos (keywordEach [] X.env)).all fun x => x.1.isSome) = true := by rfl)
    (hpl : (((backTo pos (starEach [] X.env)).any fun x => x.1) || (backToKw pos (keywordEach [] X.env)).any fun x => x.1.isNone) = false := by rfl) : PX X W (.Call (.Name x p) [] [] pos) (fCall0 0 Fn fNil) := by
  obtain ⟨fa, fd, ps, h1, h2, h3, h4⟩ := d.ex
  constructor
  intro pins s σ H Q I w
  obtain ⟨c, sl, rfl, S, L, P⟩ := w
  refine wpAny_Call_Name_kw (ld_glob I hg h2 ?_ hdb)
  refine PySem.W.callWith_KW0 (h₀ := X.base) I.ok.mod.kin h3 hall (thn ((ks_nil : PKs X W [] fNil).run pos pins s σ c.H (fun vs H1 => spF X.K 0 Fn vs H1 Q E0) I ⟨c, sl, rfl, S, L, ?_⟩) ?_) hpl
  · refine Post.bind P fun vs ds c1 s1 o1 r1 P1 => ?_
    cases hn : (ds.length == 0) with
    | false => rw [hn] at P1; exact P1.elim
    | true =>
      rw [hn] at P1
      exact ⟨c1, _, rfl, o1, r1, eq_of_beq hn, Post.ne P1⟩
  · rintro ws s1 ⟨vs, H1, I1, r, q⟩
    refine ⟨I1.kIn, ?_⟩
    have hl : vs.length = 0 := by
      obtain ⟨c1, ds, _, _, rr, e, _⟩ := q
      rw [rr.length, e]
    have hv : vs = [] := List.eq_nil_of_length_eq_zero hl
    subst hv
    cases r
    rw [hks]
    exact runG h1 gd (hr.mono hj) h4 .nil pass0 I1 .nil q
end
end Rq
set_option Elab.async false
set_option linter.all false
set_option maxRecDepth 100000
set_option maxHeartbeats 4000000
/-! Rq, part 61: a lambda handed to a def that hands it on. -/
namespace Rq
open PySem PySem.Spec PyProof.Rows L2
/-- what changed in a def, seen from where its caller was -/
theorem un_deep {fs : List Addr} {L : Addr} {H H1 H2 : Hp} {h h1 h2 : Heap} (hL : ∀ o, h.get? L ≠ some o) (a : Un fs [] H H1 h h1) (b : Un (L :: fs) [] H1 H2 h1 h2) : Un fs [] H H2 h h2 := by
  refine ⟨fun x o e hn hf hx => ?_, fun x o e hn hf hx => ?_, fun x o e hn hx => ?_, fun x o e hx => ?_, fun x xs e => b.tups x xs (a.tups x xs e), fun x o u e => b.frzs x o u (a.frzs x o u e), fun x ps e => ?_⟩
  · refine b.keep x o (a.keep x o e hn hf hx) (a.free x o e hn hx) (fun m => ?_) hx
    rcases List.mem_cons.mp m with rfl | m
    · exact hL o e
    · exact hf m
  · obtain ⟨sl, e1⟩ := a.slot x o e hn hf hx
    have q := b.slot x _ e1 (a.free x o e hn hx) (List.mem_cons_of_mem _ hf) hx
    exact q
  · obtain ⟨o1, e1⟩ := a.there x o e hx
    exact b.free x o1 e1 (a.free x o e hn hx) hx
  · obtain ⟨o1, e1⟩ := a.there x o e hx
    exact b.there x o1 e1 hx
  · obtain ⟨m1, e1⟩ := a.tbls x ps e
    obtain ⟨m2, e2⟩ := b.tbls x _ e1
    exact ⟨m1 ++ m2, by rw [e2, Array.append_assoc]⟩
section
variable {X : Cx} {pins : List (Addr × Obj)} {σ : L2.St} {H : Hp} {s : Shared}
/-- the call, in a def called anywhere behind the one that made the lambda -/
theorem px_act2 {CXg : CXT} {Eg : XK} {Ng : List Str} {qg : Str} {sg : Scope} {g f c' : Addr} {cdg pm ctv : Value} {params : Arguments} {body : PySem.Expr} {scope : Scope} {k : Nat} {a : Str} {pn : List (Addr × Obj)} {xe : Value → Shared → Prop} {W : WX} {fb : EF} {chk : Chk} {p1 p2 : Pos} {A2 : Around} {outer2 : List Env} {s2 : Shared} {H2 : Hp}
    (I : L2.Inv X pins σ H s) (L : LamX.LamS X.env.scope scope) (hf : s.heap.get? f = some (PySem.W.kla_obj "<lambda>" (X.env.qual ++ "<lambda>") params body scope (cloFrom X.env.cells scope.names []) pm c' ctv)) (hfn : H f = none) (hfr : f ∉ frs X.stack)
    (grow : ∀ (HZ : Hp) (sZ : Shared), Un (frs outer2) [] H2 HZ s2.heap sZ.heap → Un (frs X.stack) [] H HZ s.heap sZ.heap)
    (hbind : bindArgs (PySem.W.kla_fn "<lambda>" (X.env.qual ++ "<lambda>") params body scope (cloFrom X.env.cells scope.names []) pm (.ref c') ctv) ⟨[], []⟩ = pure [])
    (tk : L2N.Takes ((cxOf CXg X.prog X.w X.K X.mg X.base Ng qg sg g cdg A2 outer2 s2 H2 Eg).tr pn xe) W) (hr : Room (k + 1) (A2.deeper (envOfC qg sg s2.heap.objs.size g cdg)))
    (gd : (A2.deeper (envOfC qg sg s2.heap.objs.size g cdg)).guards = some [])
    (hbody : ∀ (A : Around) (outer : List Env) (s : Shared) (H : Hp) (E : XK), (A.deeper (LamX.lamEnv X scope s.heap.objs.size f c')).guards = some [] → Room k (A.deeper (LamX.lamEnv X scope s.heap.objs.size f c')) → PX (lamCxN X A outer s H E scope f c') (fun cl d _ H => E cl d H) body fb)
    (hchk : ∀ f1 c1 q1 σ1, chk f1 c1 q1 σ1 = true → f1 = f ∧ c1 = c' ∧ q1 = X.env.qual ++ "<lambda>" ∧ σ1 = σ)
    (hN : Ng[0]? = some a) (hv : Vis sg a) (hd : (a == ("__debug__" : Str)) = false) (hcd : (a == ("__classdict__" : Str)) = false) :
    PX ((cxOf CXg X.prog X.w X.K X.mg X.base Ng qg sg g cdg A2 outer2 s2 H2 Eg).tr pn xe) W (.Call (.Name a p1) [] [] p2) (fAct fb chk) := by
  refine ⟨fun pinsZ sZ σZ HZ Q IZ w => ?_⟩
  obtain ⟨c, slZ, rfl, S, LZ, P⟩ := w
  unfold fAct at P
  split at P
  · next f1 c1 q1 σ1 sl1 h0 =>
    split at P
    · next hck =>
      obtain ⟨e1, e2, e3, e4⟩ := hchk _ _ _ _ hck
      subst e1 e2 e3 e4
      obtain ⟨v0, hv1, hv2⟩ := LZ.get 0 _ h0
      cases hv2 with
      | fn g1 g2 =>
        have hco := S.ex _ _ g1
        have P2 := Post.at LZ P
        refine wpAny_Call_Name_kw (thn ((pe_var (pos := p1) (i := 0) hN hv hd hcd).run pinsZ sZ σZ c.H (fun v H1 => v = .ref f1 ∧ H1 = c.H) IZ ⟨.ref f1, hv1, rfl, rfl⟩) fun u s1 ⟨v, H1, I1, r1, q2⟩ => ?_)
        obtain ⟨ev, eH⟩ := q2
        subst ev
        rw [eH] at I1
        obtain rfl : u = Value.ref f1 := r1
        have grown : Un (frs X.stack) [] H c.H s.heap s1.heap := grow _ _ I1.base
        have atF : s1.heap.get? f1 = some (PySem.W.kla_obj "<lambda>" (X.env.qual ++ "<lambda>") params body scope (cloFrom X.env.cells scope.names []) pm c1 ctv) := grown.keep f1 _ hf hfn hfr (fun z => nomatch (show f1 ∈ ([] : List Addr) from z))
        refine PySem.W.callWith_F0 ⟨_, _, _, _, atF⟩ ?_
        obtain ⟨⟨ocd, vcd, tcd, ecd, dcd, ncd⟩, _, _⟩ := I1.hok c1 _ hco
        have ran : codeAny (model X.prog X.w) (A2.deeper (envOfC qg sg s2.heap.objs.size g cdg)) (.call (.ref f1) ⟨[], []⟩) (CR (L2N.CX X.prog X.w) (envOfC qg sg s2.heap.objs.size g cdg :: outer2) X.prog X.w c.H s1 Q (WE W σZ)) s1 := by
          refine PySem.W.kla_callFunE hr.depth atF rfl L.co L.gen rfl ⟨c1, ocd, vcd, tcd, rfl, ecd, dcd, ncd⟩ ?_
          rw [hbind]
          refine wpAny_pure (wpAny_newFunctionEnv (fun y hy => (L.own y hy).2) (fun y hy => absurd hy (by simp)) (fun hN1 hns1 hsb1 => ⟨I1.nolimit.fresh _ hsb1, ?_⟩) L.kind)
          show codeAny _ _ (.expr body (LamX.lamEnv X scope s1.heap.objs.size f1 c1)) _ _
          have kept : ∀ b o, s1.heap.get? b = some o → hN1.get? b = some o := fun b o e => hsb1.extBut b o (Nat.ne_of_lt (Heap.lt_size e)) (Heap.get?_push_of_some _ e)
          have J := (LamX.lam_start2 (A := A2.deeper (envOfC qg sg s2.heap.objs.size g cdg)) (outer := envOfC qg sg s2.heap.objs.size g cdg :: outer2) (E := WE W σZ) (f := f1) (c' := c1) (tk := s1.toks + ([] : List (Str × Value)).length) I L I1.env0 hr.hd grown hns1 kept).wish (fun e s' => wpAny (model X.prog X.w) ((A2.deeper (envOfC qg sg s2.heap.objs.size g cdg)).deeper (LamX.lamEnv X scope s1.heap.objs.size f1 c1)) (leaving (LamX.lamEnv X scope s1.heap.objs.size f1 c1) e) (fun _ s'' => L2N.CX X.prog X.w (envOfC qg sg s2.heap.objs.size g cdg :: outer2) c.H s1 (WE W σZ) e s'') (fun e' s'' => L2N.CX X.prog X.w (envOfC qg sg s2.heap.objs.size g cdg :: outer2) c.H s1 (WE W σZ) e' s'') s')
          refine PySem.W.kla_codeExpr (wpAny_mono ((hbody _ _ s1 c.H _ (by first | exact gd | (unfold Around.deeper at *; exact gd)) (hr.deeper _)).run [] _ _ c.H Q J ⟨c, sl1, rfl, S, g2.slr, P2⟩) (fun v s' hq => ?_) fun er s' hq => hq)
          obtain ⟨w', H', J', rv, q⟩ := hq
          exact ⟨w', H', J'.os, J'.bare, J'.base, J'.hok, rv, q⟩
        refine wpAny_call (codeAny_mono ran fun r s' hq => ?_)
        cases r with
        | error er => exact L2N.passAt tk σZ pinsZ c.H s1 er s' I1 hq
        | ok fl =>
          cases fl with
          | ret u => exact I1.after hq
          | next => exact False.elim hq
          | brk => exact False.elim hq
          | cont => exact False.elim hq
    · exact P.elim
  · exact P.elim
/-- the call of a def that calls what it gets, handed on what stands in the first slot -/
def fOn (n : Nat) (B : EF → Chk → SF) (fb : EF) (chk : Chk) : EF := fun sl st => match sl[0]? with
  | some (some (D.fn f c q σ sl1)) => if chk f c q σ then (bodyF n (B fb chk1) [.fn 0 0 "" [] sl1] st).ne else .stuck
  | _ => .stuck
theorem px_on {Ei : XK} {Ni Ng : List Str} {qi xh a ah : Str} {si : Scope} {st : Stmt} {B : EF → Chk → SF} {fi f c' : Addr} {cdi pm ctv : Value} {params : Arguments} {body : PySem.Expr} {scope : Scope} {j : Nat} {W : WX} {fb : EF} {chk : Chk} {p p1 pos : Pos} {A2 : Around} {outer2 : List Env} {s2 : Shared} {H2 : Hp}
    (hh : HeardOk X.prog X.w X.K X.mg X.base xh st ah Ng B)
    (I : L2.Inv X pins σ H s) (L : LamX.LamS X.env.scope scope) (hf : s.heap.get? f = some (PySem.W.kla_obj "<lambda>" (X.env.qual ++ "<lambda>") params body scope (cloFrom X.env.cells scope.names []) pm c' ctv)) (hfn : H f = none) (hfr : f ∉ frs X.stack)
    (grow : ∀ (HZ : Hp) (sZ : Shared), Un (frs outer2) [] H2 HZ s2.heap sZ.heap → Un (frs X.stack) [] H HZ s.heap sZ.heap)
    (hbind : bindArgs (PySem.W.kla_fn "<lambda>" (X.env.qual ++ "<lambda>") params body scope (cloFrom X.env.cells scope.names []) pm (.ref c') ctv) ⟨[], []⟩ = pure [])
    (hr : Room (j + 2) (A2.deeper (envOfC qi si s2.heap.objs.size fi cdi)))
    (gd : (A2.deeper (envOfC qi si s2.heap.objs.size fi cdi)).guards = some [])
    (hbody : ∀ (A : Around) (outer : List Env) (s : Shared) (H : Hp) (E : XK), (A.deeper (LamX.lamEnv X scope s.heap.objs.size f c')).guards = some [] → Room j (A.deeper (LamX.lamEnv X scope s.heap.objs.size f c')) → PX (lamCxN X A outer s H E scope f c') (fun cl d _ H => E cl d H) body fb)
    (hchk : ∀ f1 c1 q1 σ1, chk f1 c1 q1 σ1 = true → f1 = f ∧ c1 = c' ∧ q1 = X.env.qual ++ "<lambda>" ∧ σ1 = σ)
    (hN : Ni[0]? = some a) (hv : Vis si a) (hd : (a == ("__debug__" : Str)) = false) (hcd : (a == ("__classdict__" : Str)) = false)
    (hg : Gl (cxOf CX0 X.prog X.w X.K X.mg X.base Ni qi si fi cdi A2 outer2 s2 H2 Ei).nox xh) (hdb : (xh == ("__debug__" : Str)) = false) :
    PX (cxOf CX0 X.prog X.w X.K X.mg X.base Ni qi si fi cdi A2 outer2 s2 H2 Ei).nox W (.Call (.Name xh p) [.Name a p1] [] pos) (fOn Ng.length B fb chk) := by
  obtain ⟨fa, oc, od, an, osl, kV, doc, pm0, cdv, ct, h1, h2, h3, h4⟩ := hh.T.ex
  have hb := (fun_mk h2 h3 h4).binds hh.b
  refine ⟨fun pinsZ sZ σZ HZ Q IZ w => ?_⟩
  obtain ⟨c, slZ, rfl, S, LZ, P⟩ := w
  unfold fOn at P
  split at P
  · next f1 c1 q1 σ1 sl1 h0 =>
    split at P
    · next hck =>
      obtain ⟨e1, e2, e3, e4⟩ := hchk _ _ _ _ hck
      subst e1 e2 e3 e4
      obtain ⟨v0, hv1, hv2⟩ := LZ.get 0 _ h0
      cases hv2 with
      | fn g1 g2 =>
        refine wpAny_Call_Name_kw (ld_glob IZ hg h1 ?_ hdb)
        refine PySem.W.callWith_K (h₀ := X.base) IZ.ok.mod.kin h4 ?_ (by rfl) (by rfl)
        refine Calls.spliced_cons (thn ((pe_var (pos := p1) (i := 0) hN hv hd hcd).run pinsZ sZ σZ c.H (fun v H1 => v = .ref f1 ∧ H1 = c.H) IZ ⟨.ref f1, hv1, rfl, rfl⟩) fun u s1 ⟨v, H1, I1, r1, q2⟩ => ?_)
        obtain ⟨ev, eH⟩ := q2
        subst ev
        rw [eH] at I1
        obtain rfl : u = Value.ref f1 := r1
        refine Calls.spliced_nil ⟨I1.kIn, ?_⟩
        have grow2 : ∀ (HZ : Hp) (sZ : Shared), Un (frs (envOfC qi si s2.heap.objs.size fi cdi :: outer2)) [] c.H HZ s1.heap sZ.heap → Un (frs X.stack) [] H HZ s.heap sZ.heap := fun HZ sZ u => grow _ _ (un_deep (L := s2.heap.objs.size) (fun o e => absurd (Heap.lt_size e) (Nat.lt_irrefl _)) I1.base u)
        have ran : codeAny (model X.prog X.w) (A2.deeper (envOfC qi si s2.heap.objs.size fi cdi)) (.call (.ref fa) ⟨[.ref f1], []⟩) (CR CX0 (envOfC qi si s2.heap.objs.size fi cdi :: outer2) X.prog X.w c.H s1 Q E0) s1 := by
          refine LamX.run_ofS (N := Ng) (ps := [ah]) (us := [.ref f1]) (vs := [.ref f1]) h2 h3 hh.S hr I1.env0 (by simpa using hb s1 [.ref f1] I1.kIn rfl) (.cons rfl .nil) rfl fun hr' => ?_
          have bd := hh.body fb chk fa cdv (A2.deeper (envOfC qi si s2.heap.objs.size fi cdi)) (envOfC qi si s2.heap.objs.size fi cdi :: outer2) s1 c.H E0 fun W' pn xe p1 p2 tk => px_act2 I L hf hfn hfr grow2 hbind tk hr' (by first | exact gd | (unfold Around.deeper at *; exact gd)) hbody hchk hh.at0 hh.vis hh.nd hh.nc
          refine ⟨_, PSs.nox bd, c, _, rfl, S, SlR.start (ds := [.fn f1 c1 (X.env.qual ++ "<lambda>") σ1 sl1]) (.cons (.fn g1 g2) .nil), ?_⟩
          have P1 : Post X.K W c (RlD X.K) Q ((bodyF Ng.length (B fb chk1) [.fn 0 0 "" [] sl1] c.st).ne) := P
          rw [← hh.ind fb chk f1 c1 (X.env.qual ++ "<lambda>") σ1 sl1 c.st hck] at P1
          have P2 : Post X.K W0 c (RlD X.K) Q (bodyF Ng.length (B fb chk) [.fn f1 c1 (X.env.qual ++ "<lambda>") σ1 sl1] c.st) := Post.ne P1
          unfold bodyF at P2
          show PostS X.K W0 _ _ (B fb chk _ c.st)
          cases q : B fb chk ([D.fn f1 c1 (X.env.qual ++ "<lambda>") σ1 sl1].map some ++ List.replicate (Ng.length - [D.fn f1 c1 (X.env.qual ++ "<lambda>") σ1 sl1].length) none) c.st with
          | stuck => rw [q] at P2; exact P2
          | err C d sl st => rw [q] at P2; exact P2
          | ok fl st1 =>
            rw [q] at P2
            intro c2 s3 o2 e2
            subst e2
            cases fl with
            | nx sl => exact fun σ' L' => P2 .non c2 s3 o2 rfl .non
            | rt d => exact fun v r => P2 v c2 s3 o2 rfl r
            | bk sl => exact P2.elim
            | ct sl => exact P2.elim
        refine wpAny_call (codeAny_mono ran fun r s2 hq => ?_)
        cases r with
        | error er => exact (show False from hq).elim
        | ok fl =>
          cases fl with
          | ret u => exact I1.after hq
          | next => exact False.elim hq
          | brk => exact False.elim hq
          | cont => exact False.elim hq
    · exact P.elim
  · exact P.elim
end
end Rq
set_option Elab.async false
set_option linter.all false
set_option maxRecDepth 100000
set_option maxHeartbeats 4000000
/-! Rq, part 62: a def that gets a lambda and more, and hands the lambda on. -/
namespace Rq
open PySem PySem.Spec PyProof.Rows L2
structure IsOk (P : Program) (w : World) (K : PySem.W.Frag) (mg : Str → Option Value) (base : Heap) (x : Str) (st : Stmt) (a : Str) (ps : List Str) (xh : Str) (Ni : List Str) (kb : Nat) (Bi : EF → SF) : Prop where
  T : At K mg x st
  S : FnScope Ni (a :: ps) (defScope st)
  b : ∀ (kV doc pm : Value) (an : Option Addr) (cdv ct : Value) (us : List Value), us.length = (a :: ps).length → bindArgs (PySem.W.fnOf x x (defArgs st) (defBody st) (defScope st) .none kV doc pm an cdv ct) ⟨us, []⟩ = pure ((a :: ps).zip us)
  at0 : Ni[0]? = some a
  vis : Vis (defScope st) a
  nd : (a == ("__debug__" : Str)) = false
  nc : (a == ("__classdict__" : Str)) = false
  ndh : (xh == ("__debug__" : Str)) = false
  gl : ∀ (fa : Addr) (cdv : Value) (A : Around) (outer : List Env) (s : Shared) (H : Hp) (E : XK), Gl (cxOf CX0 P w K mg base Ni x (defScope st) fa cdv A outer s H E).nox xh
  body : ∀ (on : EF) (fa : Addr) (cdv : Value) (A : Around) (outer : List Env) (s : Shared) (H : Hp) (E : XK), (A.deeper (envOfC x (defScope st) s.heap.objs.size fa cdv)).guards = some [] → Room kb (A.deeper (envOfC x (defScope st) s.heap.objs.size fa cdv)) →
    (∀ (W : WX) (p p1 pos : Pos), PX (cxOf CX0 P w K mg base Ni x (defScope st) fa cdv A outer s H E).nox W (.Call (.Name xh p) [.Name a p1] [] pos) on) →
    PYs (cxOf CX0 P w K mg base Ni x (defScope st) fa cdv A outer s H E).nox W0 (defBody st) (Bi on)
  ind : ∀ (n : Nat) (B : EF → Chk → SF) (fb : EF) (chk : Chk) f c q σ sl ds st, chk f c q σ = true → (bodyF Ni.length (Bi (fOn n B fb chk)) (.fn f c q σ sl :: ds) st).ne = (bodyF Ni.length (Bi (fOn n B fb chk1)) (.fn 0 0 "" [] sl :: ds) st).ne
def fIs (n m : Nat) (Bi : EF → SF) (nh : Nat) (Bh : EF → Chk → SF) (fb : EF) (g : AF) : EF := fun sl st => (g sl st).bind fun ds st1 => bif ds.length + 1 == m then (bodyF n (Bi (fOn nh Bh fb chk1)) (.fn 0 0 "" [] sl :: ds) st1).ne else .stuck
open Classical in
theorem x_is {X : Cx} {W : WX} {x a xh ah : Str} {ps Ni Ng : List Str} {st sth : Stmt} {kb : Nat} {Bi : EF → SF} {B : EF → Chk → SF} {fb : EF} {g : AF} {c0 P0 : Addr} {k j : Nat} {params : Arguments} {body : PySem.Expr} {scope : Scope} {p lpos pos : Pos} {es : List PySem.Expr}
    (hi : IsOk X.prog X.w X.K X.mg X.base x st a ps xh Ni kb Bi) (hh : HeardOk X.prog X.w X.K X.mg X.base xh sth ah Ng B) (lt : LamT X.K X.base X.mg c0 P0 (X.env.qual ++ "<lambda>"))
    (hcode : X.env.code = .ref c0) (gd : X.A.guards = some []) (hr : Room k X.A) (hj : j + 3 ≤ k) (hkb : kb ≤ j + 2) (L : LamX.LamS X.env.scope scope)
    (hbody : ∀ (A : Around) (outer : List Env) (s : Shared) (H : Hp) (E : XK) (f c' : Addr), (A.deeper (LamX.lamEnv X scope s.heap.objs.size f c')).guards = some [] → Room j (A.deeper (LamX.lamEnv X scope s.heap.objs.size f c')) → PX (lamCxN X A outer s H E scope f c') (fun cl d _ H => E cl d H) body fb)
    (ha : PXs X W es g) (hst : X.stack = X.env :: X.outer := by rfl) (hfrm : X.env.frame = some X.env.locals := by rfl)
    (hbind : ∀ (q : Str) (cl : List (Str × Addr)) (pm cv ctv : Value), bindArgs (PySem.W.kla_fn "<lambda>" q params body scope cl pm cv ctv) ⟨[], []⟩ = pure [] := by intros; rfl)
    (hdef : defaultsOf params X.env = ([], []) := by rfl) (hg : Gl X x := by rfl) (hdb : (x == ("__debug__" : Str)) = false := by decide)
    (he : starEach (.Lambda params body scope lpos :: es) X.env = (false, eval (.Lambda params body scope lpos) X.env) :: starEach es X.env := by rfl) (hpl : (backTo pos (starEach es X.env)).any (·.1) = false := by rfl) :
    PX X W (.Call (.Name x p) (.Lambda params body scope lpos :: es) [] pos) (fIs Ni.length (ps.length + 1) Bi Ng.length B fb g) := by
  obtain ⟨fa, oc, od, an, osl, kV, doc, pm0, cdv, ct, h1, h2, h3, h4⟩ := hi.T.ex
  have hb := (fun_mk h2 h3 h4).binds hi.b
  refine ⟨fun pins s σ H Q I w => ?_⟩
  obtain ⟨c, sl, rfl, S, L0, P⟩ := w
  refine wpAny_Call_Name_kw (ld_glob I hg h1 ?_ hdb)
  refine PySem.W.callWith_K (h₀ := X.base) I.ok.mod.kin h4 ?_ he hpl
  rw [he]
  show wpAny _ _ (spliced ((false, eval (.Lambda params body scope lpos) X.env) :: backTo pos (starEach es X.env))) _ _ s
  refine Calls.spliced_cons (LamX.lam_make2 I lt.tb hcode lt.mem lt.one (S.tab.tabs S.ex) hdef (L.has I.ok) fun f c' pm' ctv H1 s' I1 eN T1 hf hfn hfr hco => ?_)
  obtain ⟨G1, o1, s1, g1⟩ := lam_cf S eN T1 hco
  have nl : f ≠ X.env.locals := fun e => hfr (by
    rw [hst]
    show f ∈ List.filterMap (fun x => x.frame) (X.env :: X.outer)
    rw [List.filterMap_cons, hfrm, e]
    exact List.mem_cons_self)
  have nf : f ∉ X.fs := fun m => hfr (by
    rw [hst]
    show f ∈ List.filterMap (fun x => x.frame) (X.env :: X.outer)
    rw [List.filterMap_cons, hfrm]
    exact List.mem_cons_of_mem _ m)
  let pf : Addr × Obj := (f, PySem.W.kla_obj "<lambda>" (X.env.qual ++ "<lambda>") params body scope (cloFrom X.env.cells scope.names []) pm' c' ctv)
  have Ip : L2.Inv X (pf :: pins) σ H1 s' := by
    refine ⟨I1.ok, I1.os, I1.bare, I1.base, I1.loc, I1.cell, I1.free, I1.freeC, fun q hq => ?_, I1.hok, I1.len⟩
    rcases List.mem_append.mp hq with hq | hq
    · exact I1.pin q (List.mem_append_left _ hq)
    · rcases List.mem_cons.mp hq with rfl | hq
      · exact ⟨hf, hfn, nl, nf, fun v z => by cases z⟩
      · exact I1.pin q (List.mem_append_right _ hq)
  have hr2 : Room (j + 3) X.A := hr.mono hj
  let chk : Chk := fun f1 c1 q1 σ1 => decide (f1 = f ∧ c1 = c' ∧ q1 = X.env.qual ++ "<lambda>" ∧ σ1 = σ)
  have hchk : ∀ f1 c1 q1 σ1, chk f1 c1 q1 σ1 = true → f1 = f ∧ c1 = c' ∧ q1 = X.env.qual ++ "<lambda>" ∧ σ1 = σ := fun f1 c1 q1 σ1 z => of_decide_eq_true z
  refine thn (ha.run pos (pf :: pins) s' σ H1 (fun vs H2 => ∃ c2 ds, Step ⟨G1, H1, c.as, c.st⟩ c2 ∧ c2.ok X.K ∧ H2 = c2.H ∧ c2.DRs X.K vs ds ∧ Post X.K W c2 (RlD X.K) Q (bif ds.length + 1 == ps.length + 1 then (bodyF Ni.length (Bi (fOn Ng.length B fb chk1)) (.fn 0 0 "" [] sl :: ds) c2.st).ne else .stuck)) Ip ⟨⟨G1, H1, c.as, c.st⟩, sl, rfl, o1, s1.sl L0, ?_⟩) ?_
  · have P1 := Post.mono s1 P
    exact Post.bind P1 fun vs ds c2 s2 o2 r2 P2 => ⟨c2, ds, s2, o2, rfl, r2, P2⟩
  rintro us s2 ⟨vs, H2, I2p, rv, c2, ds, st2, o2, rfl, r2, P2⟩
  obtain ⟨hf2, hfn2, _⟩ := I2p.pin pf (List.mem_append_right _ List.mem_cons_self)
  have I2 : L2.Inv X pins σ c2.H s2 := by
    refine ⟨I2p.ok, I2p.os, I2p.bare, I2p.base, I2p.loc, I2p.cell, I2p.free, I2p.freeC, fun q hq => I2p.pin q ?_, I2p.hok, I2p.len⟩
    rcases List.mem_append.mp hq with hq | hq
    · exact List.mem_append_left _ hq
    · exact List.mem_append_right _ (List.mem_cons_of_mem _ hq)
  refine ⟨I2.kIn, ?_⟩
  cases hlen : (ds.length + 1 == ps.length + 1) with
  | false => rw [hlen] at P2; exact P2.elim
  | true =>
    rw [hlen] at P2
    dsimp only [cond] at P2
    have hdl : ds.length = ps.length := by have := eq_of_beq hlen; omega
    have hvl : vs.length = ds.length := r2.length
    have hul : us.length = vs.length := rv.length.symm
    have hbt := hb s2 (.ref f :: us) I2.kIn (by
      show (Value.ref f :: us ++ []).length = (a :: ps).length
      rw [List.append_nil, List.length_cons, List.length_cons]
      omega)
    rw [List.append_nil] at hbt
    have ran : codeAny (model X.prog X.w) X.A (.call (.ref fa) ⟨.ref f :: us, []⟩) (CR CX0 X.stack X.prog X.w c2.H s2 Q E0) s2 := by
      refine LamX.run_ofS (N := Ni) (ps := a :: ps) (us := .ref f :: us) (vs := .ref f :: vs) h2 h3 hi.S hr2 I2.env0 hbt (.cons rfl rv) (by rw [List.length_cons, List.length_cons]; omega) fun hr' => ?_
      have gd' : (X.A.deeper (envOfC x (defScope st) s2.heap.objs.size fa cdv)).guards = some [] := by
        first
          | exact gd
          | (unfold Around.deeper; exact gd)
          | (simp [Around.deeper, gd])
      have bd := hi.body (fOn Ng.length B fb chk) fa cdv X.A X.stack s2 c2.H E0 gd' (hr'.mono hkb) fun W1 p p1 pos => px_on hh I2 L hf2 hfn2 hfr (fun _ _ u => u) (hbind _ _ _ _ _) hr' gd' (fun A outer s H E gd3 hr3 => hbody A outer s H E f c' gd3 hr3) hchk hi.at0 hi.vis hi.nd hi.nc (hi.gl _ _ _ _ _ _ _) hi.ndh
      refine ⟨_, PSs.nox bd, c2, _, rfl, o2, SlR.start (ds := .fn f c' (X.env.qual ++ "<lambda>") σ sl :: ds) (.cons (.fn (st2.ex _ _ g1) (st2.sl (s1.sl L0)).dro) r2), ?_⟩
      rw [← hi.ind Ng.length B fb chk f c' (X.env.qual ++ "<lambda>") σ sl ds c2.st (decide_eq_true ⟨rfl, rfl, rfl, rfl⟩)] at P2
      have P3 : Post X.K W0 c2 (RlD X.K) Q (bodyF Ni.length (Bi (fOn Ng.length B fb chk)) (.fn f c' (X.env.qual ++ "<lambda>") σ sl :: ds) c2.st) := Post.ne P2
      unfold bodyF at P3
      show PostS X.K W0 _ _ (Bi (fOn Ng.length B fb chk) _ c2.st)
      cases q : Bi (fOn Ng.length B fb chk) ((D.fn f c' (X.env.qual ++ "<lambda>") σ sl :: ds).map some ++ List.replicate (Ni.length - (D.fn f c' (X.env.qual ++ "<lambda>") σ sl :: ds).length) none) c2.st with
      | stuck => rw [q] at P3; exact P3
      | err C d sl st => rw [q] at P3; exact P3
      | ok fl st1 =>
        rw [q] at P3
        intro c3 s3 o3 e3
        subst e3
        cases fl with
        | nx sl => exact fun σ' L' => P3 .non c3 s3 o3 rfl .non
        | rt d => exact fun v r => P3 v c3 s3 o3 rfl r
        | bk sl => exact P3.elim
        | ct sl => exact P3.elim
    refine wpAny_call (codeAny_mono ran fun r s3 hq => ?_)
    cases r with
    | error er => exact (show False from hq).elim
    | ok fl =>
      cases fl with
      | ret u => exact I2.after hq
      | next => exact False.elim hq
      | brk => exact False.elim hq
      | cont => exact False.elim hq
/-! the same body over two first slots -/
def SR (v v' : Option D) (F F' : SF) : Prop := ∀ t st, FlR v v' (F (v :: t) st).ne (F' (v' :: t) st).ne
theorem SR.of {v v' : Option D} {F : SF} (h : SB F) : SR v v' F F := fun t st => h v v' t st
theorem SR.seq {v v' : Option D} {F F' G G' : SF} (h : SR v v' F F') (h2 : SR v v' G G') : SR v v' (fSeq F G) (fSeq F' G') := fun t st => by
  unfold fSeq
  rw [ne_bind, ne_bind]
  have q := h t st
  revert q
  generalize (F (v :: t) st).ne = a
  generalize (F' (v' :: t) st).ne = b
  intro q
  cases q with
  | stuck => exact .stuck
  | nx t st => exact h2 t st
  | bk t st => exact .bk t st
  | ct t st => exact .ct t st
  | rt d st => exact .rt d st
theorem SR.set {v v' : Option D} {i : Nat} {f f' : EF} (h : ∀ t st, (f (v :: t) st).ne = (f' (v' :: t) st).ne) : SR v v' (fSet (i + 1) f) (fSet (i + 1) f') := fun t st => by
  unfold fSet
  rw [ne_bind, ne_bind, h t st]
  rcases ne_cases (f' (v' :: t) st) with ⟨d, s, e⟩ | e
  · rw [e]
    exact .nx (t.set i (some d)) s
  · rw [e]
    exact .stuck
theorem on_same {n : Nat} {B : EF → Chk → SF} {fb : EF} {chk : Chk} {f c : Addr} {q : Str} {σ : List (Option V)} {sl : SL} (h : chk f c q σ = true) : ∀ t st, (fOn n B fb chk (some (.fn f c q σ sl) :: t) st).ne = (fOn n B fb chk1 (some (.fn 0 0 "" [] sl) :: t) st).ne := fun t st => by
  unfold fOn
  simp only [List.getElem?_cons_zero, h, if_true]
theorem SR.body {N : Nat} {F F' : SF} {d d' : D} {ds : List D} {st : ST} (h : SR (some d) (some d') F F') : (bodyF N F (d :: ds) st).ne = (bodyF N F' (d' :: ds) st).ne := by
  rw [body_ne, body_ne]
  have k := h (ds.map some ++ List.replicate (N - (ds.length + 1)) none) st
  show (match (F (some d :: (ds.map some ++ List.replicate (N - (ds.length + 1)) none)) st).ne with | .ok (.rt d) st1 => Res.ok d st1 | .ok (.nx _) st1 => .ok .non st1 | _ => .stuck) = (match (F' (some d' :: (ds.map some ++ List.replicate (N - (ds.length + 1)) none)) st).ne with | .ok (.rt d) st1 => Res.ok d st1 | .ok (.nx _) st1 => .ok .non st1 | _ => .stuck)
  revert k
  generalize (F (some d :: (ds.map some ++ List.replicate (N - (ds.length + 1)) none)) st).ne = a
  generalize (F' (some d' :: (ds.map some ++ List.replicate (N - (ds.length + 1)) none)) st).ne = b
  intro k
  cases k <;> rfl
end Rq
set_option Elab.async false
set_option linter.all false
set_option maxRecDepth 100000
set_option maxHeartbeats 4000000
/-! Rq, part 63: repr of anything that is data: None, texts, dicts of scalars too. -/
namespace Rq
open PySem PySem.Spec PyProof.Rows L2
def scP : V → Option PyData
  | .non => some .none
  | .bl b => some (.bool b)
  | .int i => some (.int i)
  | .str x => some (.str x)
  | _ => none
def keyP : Key → PyData
  | .inl i => .int i
  | .inr x => .str x
def kvP : List (Key × V) → Option (List (PyData × PyData))
  | [] => some []
  | (k, v) :: r => (scP v).bind fun p => (kvP r).map fun t => (keyP k, p) :: t
theorem sc_reads {h : Heap} {v : V} {d : PyData} {u : Value} (e : scP v = some d) (r : L2.RelV v u) : Reads h u d [] := by
  cases v with
  | non => cases e; obtain rfl : u = Value.none := r; exact .none
  | bl b => cases e; obtain rfl : u = Value.bool b := r; exact .bool b
  | int i => cases e; obtain ⟨t, rfl⟩ : ∃ t, u = Value.int i t := r; exact .int i t
  | str x => cases e; obtain ⟨t, rfl⟩ : ∃ t, u = Value.str x t := r; exact .str x t
  | _ => cases e
theorem key_reads {h : Heap} {k : Key} {u : Value} (e : keyIs k u = true) : Reads h u (keyP k) [] := by
  rcases keyIs_shape e with ⟨i, t, rfl, rfl⟩ | ⟨x, t, rfl, rfl⟩
  · exact .int i t
  · exact .str x t
theorem kv_reads {P : Program} {w : World} {h : Heap} : ∀ {es : List DictEntry} {vs : List (Key × Value)} {kvs : List (Key × V)} {ps : List (PyData × PyData)}, Pairs (mixKind P w) es vs → KV kvs vs → kvP kvs = some ps →
    ReadsAll h (es.map (·.key)) (ps.map (·.1)) [] ∧ ReadsAll h (es.map (·.val)) (ps.map (·.2)) []
  | _, _, _, ps, .nil, kv, e => by
    cases kv
    cases e
    exact ⟨.nil, .nil⟩
  | _, _, _, ps, .cons h1 h2 t, kv, e => by
    cases kv with
    | cons q kv =>
      next kx kvs =>
      obtain ⟨k, v⟩ := kx
      unfold kvP at e
      obtain ⟨p, e1, e2⟩ := Option.bind_eq_some_iff.mp e
      obtain ⟨tl, e3, rfl⟩ := Option.map_eq_some_iff.mp e2
      obtain ⟨i1, i2⟩ := kv_reads t kv e3
      obtain ⟨q1, q2⟩ := q
      dsimp only at q1 q2
      subst q1
      have r2 : L2.RelV v _ := q2
      rw [← h2] at r2
      exact ⟨.cons (key_reads h1) i1, .cons (sc_reads e1 r2) i2⟩
def reprOkK (d : PyData) : Bool := d.showable && decide (d.depth ≤ 100) && decide (d.shown.length ≤ 1000000)
abbrev rReprK (K : PySem.W.Frag) : List V → Hp → VK → Prop := fun xs H Q => ∃ (a : Addr) (kvs : List (Key × V)) (ps : List (PyData × PyData)), xs = [.ref a] ∧ L2.Rd H a (.dK kvs) ∧ kvP kvs = some ps ∧ reprOkK (.dict ps) = true ∧ Q (.str (PyData.dict ps).shown) H
section
variable {K : PySem.W.Frag} {W : WX} {c : Cf} {X : Cx} {e : PySem.Expr} {es : List PySem.Expr} {pos p : Pos}
theorem call_reprK (gd : X.A.guards = some []) (hu : X.A.units + 200 < cLine) : CallR X (.builtin "repr") (rReprK X.K) := by
  intro pins s σ H xs us Q I rx ⟨a, kvs, ps, e, hd, hp, hk, q⟩
  subst e
  cases rx with
  | cons r t =>
    cases t
    obtain rfl : _ = Value.ref a := r
    unfold reprOkK at hk
    simp only [Bool.and_eq_true, decide_eq_true_eq] at hk
    obtain ⟨⟨h1, h4⟩, h5⟩ := hk
    obtain ⟨hz, hs, vs, kv, o, es, ep, ho, hx, hdt, _, pr, _⟩ := dk_rd I.hok hd
    obtain ⟨r1, r2⟩ := kv_reads (h := s.heap) pr kv hp
    have rd : Reads s.heap (.ref a) (.dict ps) (a :: [] ++ []) := .dict ho hx.1 hdt r1 r2
    refine PySem.repr_of_reads' rd h1 (fun _ m => ?_) gd (by omega) (fun b o e => e) (fun h' u tk k => ?_) (Nat.le_trans h5 (by decide))
    · rcases List.mem_cons.mp m with z | z
      · rw [z] at hs
        simp at hs
      · cases z
    · exact ⟨.str (PyData.dict ps).shown, H, I.kept k, ⟨u, rfl⟩, q⟩
theorem call_repr_none {X : Cx} : CallR X (.builtin "repr") (fun xs H Q => xs = [V.non] ∧ Q (.str "None") H) := by
  intro pins s σ H xs us Q I rx ⟨e, q⟩
  subst e
  cases rx with
  | cons r t =>
    cases t
    obtain rfl : _ = Value.none := r
    exact PySem.P.repr_of_none ⟨.str "None", H, I.tok _, ⟨_, rfl⟩, q⟩
theorem call_repr_text {X : Cx} : CallR X (.builtin "repr") (fun xs H Q => ∃ x, xs = [V.str x] ∧ (reprText x).length ≤ 1000000 ∧ Q (.str (reprText x)) H) := by
  intro pins s σ H xs us Q I rx ⟨x, e, hz, q⟩
  subst e
  cases rx with
  | cons r t =>
    cases t
    obtain ⟨tk, rfl⟩ : ∃ tk, _ = Value.str x tk := r
    exact PySem.P.repr_of_str ⟨.str (reprText x), H, I.tok _, ⟨_, rfl⟩, q⟩ (Nat.le_trans hz (by decide))
def scD : D → Option PyData
  | .non => some .none
  | .bl b => some (.bool b)
  | .int i => some (.int i)
  | .str x => some (.str x)
  | _ => none
def kvD : List (Key × D) → Option (List (PyData × PyData))
  | [] => some []
  | (k, v) :: r => (scD v).bind fun p => (kvD r).map fun t => (keyP k, p) :: t
theorem sc_dr {G : Hp} {as : List Addr} {v : V} {d : D} {p : PyData} (r : DR K G as v d) (h : scD d = some p) : scP v = some p := by
  cases r <;> first | (cases h; done) | exact h
def showK (kvs : List (Key × D)) (st : ST) : Res D := match kvD kvs with
  | some ps => if reprOkK (.dict ps) then .ok (.str (PyData.dict ps).shown) st else .stuck
  | none => .stuck
def zRepr4 : List D → ST → Res D
  | [.non], st => .ok (.str "None") st
  | [.str x], st => if (reprText x).length ≤ 1000000 then .ok (.str (reprText x)) st else .stuck
  | [.dct kvs], st => showK kvs st
  | [.cel k], st => (match st[k]? with
    | some (some (.dct kvs)) => showK kvs st
    | _ => zRepr3 [.cel k] st)
  | ds, st => zRepr3 ds st
theorem kv_dr {G : Hp} {as : List Addr} : ∀ {vs : List (Key × V)} {ds : List (Key × D)} {ps : List (PyData × PyData)}, DRk K G as vs ds → kvD ds = some ps → kvP vs = some ps
  | _, _, _, .nil, h => by cases h; rfl
  | _, _, _, .cons r t, h => by
    unfold kvD at h
    obtain ⟨p, e1, e2⟩ := Option.bind_eq_some_iff.mp h
    obtain ⟨tl, e3, rfl⟩ := Option.map_eq_some_iff.mp e2
    unfold kvP
    rw [sc_dr r e1, kv_dr t e3]
    rfl
abbrev rRepr4 (K : PySem.W.Frag) : List V → Hp → VK → Prop := fun xs H Q => (xs = [V.non] ∧ Q (.str "None") H) ∨ ((∃ x, xs = [V.str x] ∧ (reprText x).length ≤ 1000000 ∧ Q (.str (reprText x)) H) ∨ (rReprK K xs H Q ∨ rRepr3 K xs H Q))
theorem showK_ok {kvs : List (Key × D)} {ws : List (Key × V)} {a : Addr} {Q : VK} (S : c.ok K) (hr : L2.Rd c.H a (.dK ws)) (r : DRk K c.G c.as ws kvs) (P : Post K W c (RlD K) Q (showK kvs c.st)) : rReprK K [.ref a] c.H Q := by
  unfold showK at P
  split at P
  · next ps hps =>
    split at P
    · next hk => exact ⟨a, ws, ps, rfl, hr, kv_dr r hps, hk, Post.ok S (.str _) P⟩
    · exact P.elim
  · exact P.elim
theorem zRepr4_ok : OpA K W (rRepr4 K) zRepr4 := fun c vs ds Q S r P => by
  unfold zRepr4 at P
  split at P
  · cases r with
    | cons r1 t => cases t; cases r1; exact .inl ⟨rfl, Post.ok S (.str _) P⟩
  · next x =>
    split at P
    · next h =>
      cases r with
      | cons r1 t => cases t; cases r1; exact .inr (.inl ⟨x, rfl, h, Post.ok S (.str _) P⟩)
    · exact P.elim
  · next kvs =>
    cases r with
    | cons r1 t =>
      cases t
      cases r1 with
      | dct h1 h2 => exact .inr (.inr (.inl (showK_ok S (.inr ⟨_, S.ex _ _ h1⟩) h2 P)))
  · next k =>
    split at P
    · next kvs hk =>
      cases r with
      | cons r1 t =>
        cases t
        cases r1 with
        | cel hc =>
          obtain ⟨a, z1, z2, z3⟩ := S.cell k _ hk
          rw [hc] at z1
          cases z1
          obtain ⟨ws, q1, q2⟩ := z3
          exact .inr (.inr (.inl (showK_ok S (.inl q1) q2 P)))
    · exact .inr (.inr (.inr (zRepr3_ok c vs _ Q S r P)))
  · exact .inr (.inr (.inr (zRepr3_ok c vs _ Q S r P)))
theorem x_repr4 {g : AF} (gd : X.A.guards = some []) (hu : X.A.units + 200 < cLine) (hm : X.mg "repr" = none) (ha : PXs X W (e :: es) g) (hg : Gl X "repr" := by rfl)
    (hs : starEach (e :: es) X.env = (false, eval e X.env) :: starEach es X.env := by rfl) (hpl : (backTo pos (starEach es X.env)).any (·.1) = false := by rfl) : PX X W (.Call (.Name "repr" p) (e :: es) [] pos) (fA zRepr4 g) :=
  x_bltn (Rq.CallR.or call_repr_none (Rq.CallR.or call_repr_text (Rq.CallR.or (call_reprK gd hu) (Rq.CallR.or call_repr_bool (Rq.CallR.or SkE.call_repr_int (call_reprB gd hu)))))) zRepr4_ok hm PyProof.Rows.boot_repr ha hg (by decide) (by decide) hs hpl
end
end Rq
set_option Elab.async false
set_option linter.all false
set_option maxRecDepth 100000
set_option maxHeartbeats 4000000
/-! Rq, part 64: in, for a list, a tuple or a dict among texts. -/
namespace Rq
open PySem PySem.Spec PyProof.Rows L2
open PySem.SeqAt
theorem str_eq_declines_dict (b : Str) (u : Tok) (l : Addr) (c : Value) (es : Array DictEntry) (n : Nat) (dd : Option Addr) (sl : Array (Option Value)) :
    Meets (Builtin.«str.__eq__» ⟨[.str b u, .ref l], []⟩) (fun _ R s => s.heap.get? l = some { cls := c, dict := dd, data := .dict es n, slots := sl } ∧ R (.ok (.ret .notImplemented)) s) :=
  .of_wp fun prog w A R s h => by obtain ⟨hp, g, d, tk, os⟩ := s; obtain ⟨hl, h⟩ := h; wp_walk using AutoSeq1.wpAny_loadPart' hl, wpAny_load hl; exact ⟨_, rfl, h⟩
theorem dict_eq_declines_str (b : Str) (u : Tok) (l : Addr) (es : Array DictEntry) (n : Nat) (dd : Option Addr) (sl : Array (Option Value)) :
    Meets (Builtin.«dict.__eq__» ⟨[.ref l, .str b u], []⟩) (fun _ R s => s.heap.get? l = some { cls := .type "dict", dict := dd, data := .dict es n, slots := sl } ∧ R (.ok (.ret .notImplemented)) s) :=
  .of_wp fun prog w A R s h => by
    obtain ⟨hp, g, d, tk, os⟩ := s
    obtain ⟨hl, h⟩ := h
    wp_walk using AutoSeq1.wpAny_loadPart' hl, wpAny_load hl
    refine wpAny_of_eq PySem.F.sub_str_dict ?_
    wp_walk using AutoSeq1.wpAny_loadPart' hl, wpAny_load hl
    exact ⟨_, rfl, h⟩
theorem rc_str_dict {A : Around} {s : Shared} {l : Addr} {o : Obj} {es : Array DictEntry} {n : Nat} (b : Str) (u : Tok) (ho : s.heap.get? l = some o) (hx : o.ExactDict) (hd : o.data = .dict es n) (hu : A.units < cLine) : RcAt A s (.str b u) (.ref l) false := fun prog w E Q h => by
  obtain ⟨cls, dd, data, sl⟩ := o
  obtain ⟨h1, h2, h3⟩ := hx
  simp only at h1 h2 h3 hd
  subst h1 h2 h3 hd
  exact rc_eq_decline_or (k := false) (typeIs_str s b u) ⟨_, ho, rfl⟩ (by decide) PySem.F.sub_dict_str PySem.F.slot_str_eq PySem.F.slot_dict_eq_refl
    (fun _ hq => call_meets PySem.F.slot_str_eq (typeIs_str s b u) PySem.F.entry_str_eq (PySem.F.args_str_eq_2 _ _) (str_eq_declines_dict b u l (.type "dict") es n none #[]) ⟨ho, hq⟩)
    (fun _ hq => call_meets PySem.F.slot_dict_eq_refl ⟨_, ho, rfl⟩ PySem.F.entry_dict_eq (PySem.F.args_dict_eq_2 _ _) (dict_eq_declines_str b u l es n none #[]) ⟨ho, hq⟩)
    (fun _ hq => wpAny_of_eq (rfl : isSame (.str b u) (.ref l) = pure false) hq) (.inr hu) h
theorem eq_str_dict {A : Around} {s : Shared} {l : Addr} {o : Obj} {es : Array DictEntry} {n : Nat} (b : Str) (u : Tok) (ho : s.heap.get? l = some o) (hx : o.ExactDict) (hd : o.data = .dict es n) (hu : A.units < cLine) : EqAt A s (.str b u) (.ref l) false := fun prog w E Q h => by
  unfold eqBool
  refine wpAny_holding ?_
  refine wpAny_ite_split (fun hab => absurd (eq_of_beq hab) nofun) (fun _ => ?_)
  exact wpAny_bind (rc_str_dict b u ho hx hd hu prog w E _ (wpAny_truthy_bool h))
/-- a list, a tuple or a dict -/
def BoxV (K : PySem.W.Frag) (H : Hp) (a : Addr) : Prop := (∃ xs, SqL K H a xs) ∨ (∃ xs, SqT K H a xs) ∨ ∃ kvs : List (Key × V), L2.Rd H a (.dK kvs)
theorem box_eqAt {X : Cx} {pins : List (Addr × Obj)} {σ : L2.St} {H : Hp} {s : Shared} {A : Around} {a : Addr} (I : L2.Inv X pins σ H s) (h : BoxV X.K H a) (hu : A.units < cLine) (b : Str) (u : Tok) : EqAt A s (.str b u) (.ref a) false := by
  rcases h with ⟨xs, h⟩ | ⟨xs, h⟩ | ⟨kvs, h⟩
  · obtain ⟨its, r, pl, hz⟩ := I.list h
    exact EqAt.str_list b u pl.isList hu
  · obtain ⟨its, r, pl, hz⟩ := I.tuple h
    exact EqAt.str_tuple b u pl hu
  · obtain ⟨hz, hs, vs, kv, o, es, ep, ho, hx, hdt, _⟩ := dk_rd I.hok h
    exact eq_str_dict b u ho hx hdt hu
theorem strs_vals : ∀ {ns : List Str} {its : List Value}, Vals (ns.map V.str) its → ∀ y ∈ its, ∃ x t, y = .str x t
  | [], _, .nil, y, h => by cases h
  | n :: ns, _, .cons r t, y, h => by
    rcases List.mem_cons.mp h with rfl | h
    · obtain ⟨tk, e⟩ : ∃ tk, y = Value.str n tk := r
      exact ⟨n, tk, e⟩
    · exact strs_vals t y h
abbrev rInBox (K : PySem.W.Frag) (neg : Bool) : R2 := fun x y H Q => ∃ (a p : Addr) (ns : List Str), x = .ref a ∧ y = .ref p ∧ (SqL K H p (ns.map V.str) ∨ SqT K H p (ns.map V.str)) ∧ BoxV K H a ∧ Q (.bl neg) H
theorem any_false {α : Type} (l : List α) : l.toArray.any (fun _ => false) = false := by simp
theorem op_inBox {X : Cx} (hu : X.A.units + 1 < cLine) : OpR X (compareOp .In) (rInBox X.K false) := by
  intro pins s σ H x y v u Q I rx ry ⟨a, p, ns, e1, e2, hq, hb, q⟩
  subst e1 e2
  cases rx
  cases ry
  have at_ : ∀ {its : List Value}, Vals (ns.map V.str) its → ∀ w, w ∈ its.toArray → EqAt X.A.in1 s w (.ref a) false := fun r w hw => by
    obtain ⟨z, t, rfl⟩ := strs_vals r w (by simpa using hw)
    exact box_eqAt I hb (by show X.A.units + 1 < cLine; exact hu) z t
  rcases hq with hq | hq
  · obtain ⟨its, r, pl, hz⟩ := I.list hq
    refine in_listAt (fun _ => false) pl.isList (at_ r) ⟨.bl _, H, I, rfl, ?_⟩
    rw [any_false]
    exact q
  · obtain ⟨its, r, pl, hz⟩ := I.tuple hq
    refine in_tupleAt (fun _ => false) pl (at_ r) ⟨.bl _, H, I, rfl, ?_⟩
    rw [any_false]
    exact q
theorem op_notInBox {X : Cx} (hu : X.A.units + 1 < cLine) : OpR X (compareOp .NotIn) (rInBox X.K true) := by
  intro pins s σ H x y v u Q I rx ry ⟨a, p, ns, e1, e2, hq, hb, q⟩
  subst e1 e2
  cases rx
  cases ry
  have at_ : ∀ {its : List Value}, Vals (ns.map V.str) its → ∀ w, w ∈ its.toArray → EqAt X.A.in1 s w (.ref a) false := fun r w hw => by
    obtain ⟨z, t, rfl⟩ := strs_vals r w (by simpa using hw)
    exact box_eqAt I hb (by show X.A.units + 1 < cLine; exact hu) z t
  rcases hq with hq | hq
  · obtain ⟨its, r, pl, hz⟩ := I.list hq
    refine notIn_listAt (fun _ => false) pl.isList (at_ r) ⟨.bl _, H, I, rfl, ?_⟩
    rw [any_false]
    exact q
  · obtain ⟨its, r, pl, hz⟩ := I.tuple hq
    refine notIn_tupleAt (fun _ => false) pl (at_ r) ⟨.bl _, H, I, rfl, ?_⟩
    rw [any_false]
    exact q
section
variable {K : PySem.W.Frag} {W : WX} {X : Cx} {a b : PySem.Expr} {f g : EF} {pos : Pos}
def isBox (x : D) (st : ST) : Bool := (asL x st).isSome || (asDct x st).isSome || match x with
  | .tup _ => true
  | _ => false
theorem isBox_ok {c : Cf} {v : V} {d : D} (S : c.ok K) (r : c.DR K v d) (h : isBox d c.st = true) : ∃ a, v = .ref a ∧ BoxV K c.H a := by
  unfold isBox at h
  rw [Bool.or_eq_true, Bool.or_eq_true] at h
  rcases h with (h | h) | h
  · obtain ⟨xs, hx⟩ := Option.isSome_iff_exists.mp h
    obtain ⟨a, vs, e, q, _⟩ := asL_ok S r hx
    exact ⟨a, e, .inl ⟨vs, q⟩⟩
  · obtain ⟨xs, hx⟩ := Option.isSome_iff_exists.mp h
    obtain ⟨a, vs, e, q, _⟩ := asDct_ok S r hx
    exact ⟨a, e, .inr (.inr ⟨vs, q⟩)⟩
  · cases r with
    | tup h1 h2 => exact ⟨_, rfl, .inr (.inl ⟨_, S.ex.t h1⟩)⟩
    | _ => cases h
def zInBox (neg : Bool) (x y : D) (st : ST) : Res D := match asSeq y st with
  | some xs => if (texts xs).isSome && isBox x st then .ok (.bl neg) st else .stuck
  | none => .stuck
theorem zInBox_ok {neg : Bool} : Op2 K W (rInBox K neg) (zInBox neg) := by
  intro c v w x y Q S r1 r2 P
  unfold zInBox at P
  split at P
  · next xs hx =>
    split at P
    · next hf =>
      rw [Bool.and_eq_true] at hf
      obtain ⟨ns, hns⟩ := Option.isSome_iff_exists.mp hf.1
      obtain ⟨p, vs, rfl, h1, h2⟩ := asSeq_ok S r2 hx
      obtain ⟨rfl, _⟩ := texts_ok hns h2
      obtain ⟨a, rfl, hb⟩ := isBox_ok S r1 hf.2
      exact ⟨a, p, ns, rfl, rfl, h1, hb, Post.ok S (.bl _) P⟩
    · exact P.elim
  · exact P.elim
def zIn4 (neg : Bool) (x y : D) (st : ST) : Res D := if isBox x st then zInBox neg x y st else zIn2 neg x y st
theorem zIn4_or (neg : Bool) (x y : D) (st : ST) : zIn4 neg x y st = zInBox neg x y st ∨ zIn4 neg x y st = zIn2 neg x y st := by
  unfold zIn4
  split
  · exact .inl rfl
  · exact .inr rfl
theorem x_in4 (hu : X.A.units + 1 < cLine) (ha : PX X W a f) (hb : PX X W b g) (hm : behindInMarks .In b = false := by rfl) : PX X W (.Compare a [.In] [b] pos) (f2 (zIn4 false) f g) := px_or2 (zIn4_or false) (x_cmp (op_inBox hu) zInBox_ok ha hb hm) (x_in2 hu ha hb hm)
theorem x_notIn4 (hu : X.A.units + 1 < cLine) (ha : PX X W a f) (hb : PX X W b g) (hm : behindInMarks .NotIn b = false := by rfl) : PX X W (.Compare a [.NotIn] [b] pos) (f2 (zIn4 true) f g) := px_or2 (zIn4_or true) (x_cmp (op_notInBox hu) zInBox_ok ha hb hm) (x_notIn2 hu ha hb hm)
end
end Rq
set_option Elab.async false
set_option linter.all false
set_option maxRecDepth 100000
set_option maxHeartbeats 400000
/-! Rq, part 65: more that does not look at the first slot. -/
namespace Rq
open PySem PySem.Spec PyProof.Rows L2
theorem eb_test {f : EF} {k : Bool → EF} (h : EB f) (h2 : ∀ b, EB (k b)) : EB (fTest f k) := fun v v' t st => by
  unfold fTest
  rw [ne_bind, ne_bind, h v v' t st]
  congr 1
  funext a s
  cases a <;> first | rfl | skip
  next b => exact h2 b v v' t s
theorem eb_and {f g : EF} (h : EB f) (h2 : EB g) : EB (fAnd f g) := eb_test h fun b => by
  cases b
  · exact fun _ _ _ _ => rfl
  · exact h2
theorem eb_or {f g : EF} (h : EB f) (h2 : EB g) : EB (fOr f g) := eb_test h fun b => by
  cases b
  · exact h2
  · exact fun _ _ _ _ => rfl
theorem eb_dnew : EB fDNew := fun _ _ _ _ => rfl
theorem eb_disp {ks : List Key} {g : AF} (h : AB g) : EB (fDisp ks g) := fun v v' t st => by
  unfold fDisp
  rw [ne_bind, ne_bind, h v v' t _]
theorem eb_md {f : EF} {g : AF} (h : EB f) (h2 : AB g) : EB (fMd f g) := fun v v' t st => by
  unfold fMd
  rw [ne_bind, ne_bind, h v v' t st]
  congr 1
  funext a s
  cases a <;> first | rfl | skip
  next k =>
    dsimp only
    split
    · rw [ne_bind, ne_bind, h2 v v' t s]
    · rfl
section
variable {W : WX} {X : Cx} {a b : PySem.Expr} {f g : EF} {pos : Pos}
theorem xt_in4 (hu : X.A.units + 1 < cLine) (ha : PX X W a f) (hb : PX X W b g) (hm : behindInMarks .In b = false := by rfl) : XT X W (.Compare a [.In] [b] pos) (f2 (zIn4 false) f g) := xt_or2 (zIn4_or false) (xt_cmp (op_inBox hu) zInBox_ok ha hb hm) (xt_in2 hu ha hb hm)
theorem xt_notIn4 (hu : X.A.units + 1 < cLine) (ha : PX X W a f) (hb : PX X W b g) (hm : behindInMarks .NotIn b = false := by rfl) : XT X W (.Compare a [.NotIn] [b] pos) (f2 (zIn4 true) f g) := xt_or2 (zIn4_or true) (xt_cmp (op_notInBox hu) zInBox_ok ha hb hm) (xt_notIn2 hu ha hb hm)
end
/-! a row behind which the dict of a slot is only read -/
section
variable {K : PySem.W.Frag} {W : WX} {X : Cx} {e : PySem.Expr} {f : EF} {pos : Pos} {te : TE}
theorem ps_exprFz (he : PE X e te) (hs : swapsWith e none pos.line X.env = pure false := by rfl) : PS X (.Expr e pos) (fun D σ H => te σ H fun _ H1 => ∃ a u, H1 a = some u ∧ Mut (some u) ∧ ∀ od, D.nx σ (upd H1 a (.frz od u))) := by
  refine ⟨fun pins s σ H D I h => ?_⟩
  refine wpAny_Expr_any (thn (he.run pins s σ H _ I h) fun v s1 ⟨x, H1, I1, r1, a, u, h1, h2, h3⟩ => ?_) I.quiet hs
  obtain ⟨od, I2⟩ := I1.lock h1 h2
  exact ⟨σ, _, I2, h3 od⟩
def fExprFzD (i : Nat) (f : EF) : SF := fun sl st => (f sl st).bind fun _ st1 => match sl[i]? with
  | some (some (.cel k)) => (match st1[k]? with
    | some (some (.dct xs)) => .ok (.nx (sl.set i (some (.dct xs)))) (st1.set k none)
    | _ => .stuck)
  | _ => .stuck
theorem y_exprFzD (i : Nat) (h : PX X W e f) (hs : swapsWith e none pos.line X.env = pure false := by rfl) : PY X W (.Expr e pos) (fExprFzD i f) := ps_imp (ps_exprFz h hs) fun E σ H w => by
  obtain ⟨c, sl, rfl, S, L, P⟩ := w
  refine ⟨c, sl, rfl, S, L, PostS.bind P fun v d c1 s1 o1 r1 P1 => ?_⟩
  have L1 := s1.sl L
  split at P1
  · next k hk =>
    split at P1
    · next xs hx =>
      obtain ⟨v2, h1, h2⟩ := L1.get i _ hk
      obtain ⟨a, q1, q2, vs, q3, q4⟩ := o1.cell k _ hx
      cases h2 with
      | cel q5 =>
        rw [q1] at q5; cases q5
        refine ⟨a, _, q3, trivial, fun od => ?_⟩
        obtain ⟨z1, z2, _⟩ := Cf.frzO (o := .frz od (.dK vs)) o1 hx q1
        have L2' := (z2.sl L1).set (v := .ref a) (d := .dct xs) (.dct upd_same (q4.mono z2.ex (Pf.refl _))) i
        have e1 : σ.set i (some (.ref a)) = σ := by
          refine List.ext_getElem? fun j => ?_
          by_cases hj : j = i
          · subst hj
            rw [List.getElem?_set_self (List.getElem?_eq_some_iff.mp h1).1, h1]
          · rw [List.getElem?_set_ne (by omega)]
        rw [e1] at L2'
        exact P1 _ z2 z1 rfl σ L2'
    · exact P1.elim
  · exact P1.elim
theorem sb_exprFzD {i : Nat} {f : EF} (h : EB f) : SB (fExprFzD (i + 1) f) := fun v v' t st => by
  unfold fExprFzD
  rw [ne_bind, ne_bind, h v v' t st]
  rcases ne_cases (f (v' :: t) st) with ⟨d, s, e⟩ | e
  · rw [e]
    show FlR v v' (Res.ne (match t[i]? with | some (some (.cel k)) => _ | _ => _)) (Res.ne (match t[i]? with | some (some (.cel k)) => _ | _ => _))
    split
    · split
      · exact .nx _ _
      · exact .stuck
    · exact .stuck
  · rw [e]
    exact .stuck
end
end Rq
set_option Elab.async false
set_option linter.all false
set_option maxRecDepth 100000
set_option maxHeartbeats 4000000
/-! Rq, part 66: errors as values: E(v) made and kept, QueueError itself, isinstance with the classes above. -/
namespace Rq
open PySem PySem.Spec PyProof.Rows L2
/-- QueueError and the classes below it, EQ -/
structure ErrsQ (K : PySem.W.Frag) (mg : Str → Option Value) (EQ : List Str) : Prop where
  all : ∀ x ∈ EQ, ∃ C, ErrD K x C ∧ mg x = some (.ref C)
  sub : ∀ x ∈ EQ, ∀ y ∈ EQ, x ≠ y → ∀ Cx Cy : Addr, PySem.W.nsIn K mainGlobals x = some (some (.ref Cx)) → PySem.W.nsIn K mainGlobals y = some (some (.ref Cy)) → PySem.W.subIn K (.ref Cx) (.ref Cy) = some (y == ("QueueError" : Str))
  ve : ∀ x ∈ EQ, ∀ C : Addr, PySem.W.nsIn K mainGlobals x = some (some (.ref C)) → PySem.W.subIn K (.ref C) (.type "ValueError") = some true
  cn : PySem.W.specialIn K (.builtin "object.__class__") "__get__" = some (some (.builtin "getset_descriptor.__get__"))
  ct : PySem.W.takesIn K (.builtin "object.__class__") = some true
section
variable {K : PySem.W.Frag} {mg : Str → Option Value} {EQ : List Str}
theorem kit_twoQ (H : ErrsQ K mg EQ) {x y : Str} {C Cy : Addr} (hx : x ∈ EQ) (hy : y ∈ EQ) (dx : ErrD K x C) (dy : ErrD K y Cy) : PySem.W.kitOne K (.ref C) (.ref Cy) = some (x == y || y == ("QueueError" : Str)) := by
  by_cases e : x = y
  · subst e
    have := dx.e.ns.symm.trans dy.e.ns
    cases this
    rw [kit_same, beq_self_eq_true, Bool.true_or]
  · have s := H.sub x hx y hy e C Cy dx.e.ns dy.e.ns
    have ne : (x == y) = false := beq_false_of_ne e
    rw [ne, Bool.false_or]
    by_cases ec : C = Cy
    · subst ec
      have z := dx.e.oex.cls
      obtain ⟨nm, qq, N, bs, bm, sn, sub, ab, col, dd, k0, k1', k2, k3, k5, hC, hbm⟩ := z
      have hcl : PySem.W.clsIn K C = some { name := nm, bases := bs, mro := .ref C :: bm, ns := N, qualname := qq, hasDict := true, slotNames := sn, subclasses := sub, abstract := ab, collection := col, hasDel := false } := by unfold PySem.W.clsIn; rw [hC] <;> rfl
      have : PySem.W.subIn K (.ref C) (.ref C) = some true := by
        unfold PySem.W.subIn PySem.W.mroIn
        simp [hcl]
      rw [this] at s
      rw [kit_same, s]
    · exact kit_err dy (by simpa using ec) s
theorem kit_ve (H : ErrsQ K mg EQ) {x : Str} {C : Addr} (hx : x ∈ EQ) (dx : ErrD K x C) : PySem.W.kitOne K (.ref C) (.type "ValueError") = some true := by
  have e1 : (Value.ref C == Value.type "ValueError") = false := rfl
  have e2 : PySem.W.kitCls K (.ref C) (.type "ValueError") = if PySem.W.kitMeta "ValueError" = true then PySem.W.subIn K (.ref C) (.type "ValueError") else none := rfl
  have e3 : PySem.W.kitMeta "ValueError" = true := by decide +kernel
  unfold PySem.W.kitOne
  rw [e1, if_neg Bool.false_ne_true, e2, if_pos e3]
  exact H.ve x hx C dx.e.ns
end
section
variable {K : PySem.W.Frag} {W : WX} {c : Cf} {X : Cx} {a b e o : PySem.Expr} {es : List PySem.Expr} {f g h : EF} {pos apos cpos p : Pos} {EQ : List Str}
/-! e.value -/
theorem x_excVQ (q : ErrsQ X.K X.mg EQ) (ha : PX X W a f) (hb : attributeBase a "value" X.env (eval a X.env) = eval a X.env := by rfl) : PX X W (.Attribute a "value" pos) (f1 (zExcV EQ) f) := by
  refine ⟨fun pins s σ H Q I w => ?_⟩
  obtain ⟨c, sl, rfl, S, L, P⟩ := w
  refine attr_of hb (thn (ha.run pins s σ c.H (fun v H1 => ∃ (a C dx : Addr) (x : Str) (v2 : V), v = .ref a ∧ ErrD X.K x C ∧ H1 a = some (exv a C dx) ∧ H1 dx = some (.xd [("value", v2)]) ∧ Q v2 H1) I ⟨c, sl, rfl, S, L, ?_⟩) fun u s1 hh => ?_)
  · refine Post.bind P fun v d c1 s1 o1 r1 P1 => ?_
    unfold zExcV at P1
    split at P1
    · next x d =>
      split at P1
      · next hx =>
        cases r1 with
        | exc h1 h2 h3 h4 =>
          obtain ⟨C0, e0, _⟩ := q.all x (List.contains_iff_mem.mp hx)
          have ec := h1.symm.trans e0.e.ns
          cases ec
          exact ⟨_, _, _, x, _, rfl, e0, o1.ex _ _ h2, o1.ex _ _ h3, Post.ok o1 h4 P1⟩
      · exact P1.elim
    · exact P1.elim
  · obtain ⟨v, H1, I1, rv, a0, C, dx, x, v2, rfl, e0, h1, h2, q2⟩ := hh
    obtain rfl : u = Value.ref a0 := rv
    obtain ⟨oe, od, J, hod, mA, hns, hr⟩ := inst_exc I1 h1 h2
    obtain ⟨od', ho', hl⟩ := lookIn_ns hns
    rw [hod] at ho'; cases ho'
    have l1 : ([("value", v2)] : List (Str × V)).lookup ("value" : Str) = some v2 := rfl
    obtain ⟨u2, hu, ru⟩ := RelO.some_of (v := v2) (o := mA "value") (by rw [← l1]; exact hr "value")
    exact HandSPX.exc_get I1.kIn J e0.ga e0.gg e0.e.oex.exC (PySem.W.findObj_own e0.hd e0.e.noV rfl (by rw [hl, hu])) (handed_of ru) ⟨v2, H1, I1.tok _, ru, q2⟩
/-! isinstance(e, C) -/
def rIsQ (K : PySem.W.Frag) : List V → Hp → VK → Prop := fun xs H Q => ∃ (a C dx : Addr) (x : Str) (fs : List (Str × V)) (t : V) (cv : Value) (b : Bool), xs = [.ref a, t] ∧ (∀ u, L2.RelV t u → u = cv) ∧ ErrD K x C ∧ H a = some (exv a C dx) ∧ H dx = some (.xd fs) ∧ PySem.W.kitOne K (.ref C) cv = some b ∧ Q (.bl b) H
theorem call_isQ (cn : PySem.W.specialIn X.K (.builtin "object.__class__") "__get__" = some (some (.builtin "getset_descriptor.__get__"))) (ct : PySem.W.takesIn X.K (.builtin "object.__class__") = some true) : CallR X (.builtin "isinstance") (rIsQ X.K) := by
  intro pins s σ H xs us Q I r hh
  obtain ⟨a0, C, dx, x, fs, t, cv, b, rfl, ht, ex, h1, h2, hk, q2⟩ := hh
  obtain ⟨u1, u2, rfl, r1, r2⟩ := vals2 r
  obtain rfl : u1 = Value.ref a0 := r1
  obtain rfl : u2 = cv := ht _ r2
  obtain ⟨oe, od, J, _⟩ := inst_exc I h1 h2
  have ki : PySem.W.kitCls X.K (.type "int") (.ref C) = some false := by
    have k0 := kit_err ex (t := .type "int") rfl ex.s3
    have e1 : (Value.type "int" == Value.ref C) = false := rfl
    unfold PySem.W.kitOne at k0
    rw [e1, if_neg Bool.false_ne_true] at k0
    exact k0
  have Z : PySem.W.KitX X.K (.ref a0) (.ref C) (fun hp => ∃ od, PySem.W.InstAt hp a0 oe C (some od)) := {
    ty := fun _ _ _ ⟨_, J⟩ => J.type
    it := fun _ _ kk _ => (PySem.W.kit_cls kk ki).2.1
    ne := fun hp tp dd its n sl kk htp => by
      refine Bool.eq_false_iff.mpr fun z => ?_
      have z2 : C = tp := Value.ref.inj (beq_iff_eq.mp z)
      subst z2
      obtain ⟨nm, qq, N, bs, bm, sn, sub, ab, col, dd2, k0, k1', k2, k3, k5, hC, hbm⟩ := ex.e.oex.cls
      have z3 := congrArg Obj.data (Option.some.inj ((kk _ _ hC).symm.trans htp))
      cases z3
    ca := fun kk ⟨_, J⟩ k => PySem.W.rq_classE ex.ga ex.gg ex.e.oex.exC ex.hd ex.cl cn ct ex.mo kk J k }
  exact PySem.W.kia_one Z I.kIn ⟨od, J⟩ hk (fun z => nomatch z) fun tk => ⟨.bl b, H, I.tok tk, rfl, q2⟩
def zIsiQ (EQ : List Str) (y : Str) (d : D) (st : ST) : Res D := match d with
  | .exc x _ => if EQ.contains x then .ok (.bl (x == y || y == ("QueueError" : Str))) st else .stuck
  | _ => .stuck
def zIsiV (EQ : List Str) (d : D) (st : ST) : Res D := match d with
  | .exc x _ => if EQ.contains x then .ok (.bl true) st else .stuck
  | _ => .stuck
theorem x_isiQ {y : Str} {p2 : Pos} (q : ErrsQ X.K X.mg EQ) (hy : EQ.contains y = true) (hm : X.mg "isinstance" = none) (ha : PX X W a f) (hgy : Gl X y := by rfl) (hdy : (y == ("__debug__" : Str)) = false := by decide) (hg : Gl X "isinstance" := by rfl) (hv : bootBuiltins "isinstance" = some (.builtin "isinstance") := by exact PyProof.Rows.boot_isinstance)
    (hs0 : starEach (a :: [.Name y p2]) X.env = (false, eval a X.env) :: starEach [.Name y p2] X.env := by rfl) (hs1 : starEach [.Name y p2] X.env = (false, eval (.Name y p2) X.env) :: starEach [] X.env := by rfl)
    (hpl : (backTo pos (starEach [.Name y p2] X.env)).any (·.1) = false := by rfl) : PX X W (.Call (.Name "isinstance" p) [a, .Name y p2] [] pos) (f1 (zIsiQ EQ y) f) := by
  obtain ⟨Cy, ey, my⟩ := q.all y (List.contains_iff_mem.mp hy)
  refine pe_imp (pe_callB (call_isQ q.cn q.ct) hg hm hv (xs_cons ha (xs_cons (x_cls my hgy hdy) xs_nil hs1) hs0) (by decide) (by decide) hs0 hpl) fun σ H Q w => ?_
  obtain ⟨c, sl, rfl, S, L, P⟩ := w
  refine ⟨c, sl, rfl, S, L, ?_⟩
  have e1 : (fCons f (fCons (fCls Cy) fNil)) sl c.st = (f sl c.st).bind fun d st1 => .ok [d, .raw (.ref Cy)] st1 := rfl
  rw [e1]
  unfold f1 at P
  cases hq : f sl c.st with
  | stuck => rw [hq] at P; exact P.elim
  | err x' d sl' st' => rw [hq] at P; exact P
  | ok d st1 =>
    rw [hq] at P
    intro vs c1 s1 o1 e2 r1
    subst e2
    have P1 : Post X.K W c1 (RlD X.K) Q (zIsiQ EQ y d c1.st) := Post.mono s1 P
    unfold zIsiQ at P1
    split at P1
    · next x d' =>
      split at P1
      · next hx =>
        cases r1 with
        | cons ra t1 =>
          cases t1 with
          | cons rb t2 =>
            cases t2
            cases rb
            cases ra with
            | exc h1 h2 h3 h4 =>
              obtain ⟨C0, e0, _⟩ := q.all x (List.contains_iff_mem.mp hx)
              have ec := h1.symm.trans e0.e.ns
              cases ec
              exact ⟨_, _, _, x, _, _, .ref Cy, _, rfl, fun u hu => hu, e0, o1.ex _ _ h2, o1.ex _ _ h3, kit_twoQ q (List.contains_iff_mem.mp hx) (List.contains_iff_mem.mp hy) e0 ey, Post.ok o1 (.bl _) P1⟩
      · exact P1.elim
    · exact P1.elim
theorem x_isiV {p2 : Pos} (q : ErrsQ X.K X.mg EQ) (hm : X.mg "isinstance" = none) (ha : PX X W a f) (hv2 : PX X W (.Name "ValueError" p2) (fC (.raw (.ty "ValueError")))) (hg : Gl X "isinstance" := by rfl) (hv : bootBuiltins "isinstance" = some (.builtin "isinstance") := by exact PyProof.Rows.boot_isinstance)
    (hs0 : starEach (a :: [.Name "ValueError" p2]) X.env = (false, eval a X.env) :: starEach [.Name "ValueError" p2] X.env := by rfl) (hs1 : starEach [.Name "ValueError" p2] X.env = (false, eval (.Name "ValueError" p2) X.env) :: starEach [] X.env := by rfl)
    (hpl : (backTo pos (starEach [.Name "ValueError" p2] X.env)).any (·.1) = false := by rfl) : PX X W (.Call (.Name "isinstance" p) [a, .Name "ValueError" p2] [] pos) (f1 (zIsiV EQ) f) := by
  refine pe_imp (pe_callB (call_isQ q.cn q.ct) hg hm hv (xs_cons ha (xs_cons hv2 xs_nil hs1) hs0) (by decide) (by decide) hs0 hpl) fun σ H Q w => ?_
  obtain ⟨c, sl, rfl, S, L, P⟩ := w
  refine ⟨c, sl, rfl, S, L, ?_⟩
  have e1 : (fCons f (fCons (fC (.raw (.ty "ValueError"))) fNil)) sl c.st = (f sl c.st).bind fun d st1 => .ok [d, .raw (.ty "ValueError")] st1 := rfl
  rw [e1]
  unfold f1 at P
  cases hq : f sl c.st with
  | stuck => rw [hq] at P; exact P.elim
  | err x' d sl' st' => rw [hq] at P; exact P
  | ok d st1 =>
    rw [hq] at P
    intro vs c1 s1 o1 e2 r1
    subst e2
    have P1 : Post X.K W c1 (RlD X.K) Q (zIsiV EQ d c1.st) := Post.mono s1 P
    unfold zIsiV at P1
    split at P1
    · next x d' =>
      split at P1
      · next hx =>
        cases r1 with
        | cons ra t1 =>
          cases t1 with
          | cons rb t2 =>
            cases t2
            cases rb
            cases ra with
            | exc h1 h2 h3 h4 =>
              obtain ⟨C0, e0, _⟩ := q.all x (List.contains_iff_mem.mp hx)
              have ec := h1.symm.trans e0.e.ns
              cases ec
              exact ⟨_, _, _, x, _, _, .type "ValueError", _, rfl, fun u hu => hu, e0, o1.ex _ _ h2, o1.ex _ _ h3, kit_ve q (List.contains_iff_mem.mp hx) e0, Post.ok o1 (.bl _) P1⟩
      · exact P1.elim
    · exact P1.elim
/-! E(v), kept -/
def fMkE (x : Str) (f : EF) : EF := fun sl st => (f sl st).bind fun d st1 => .ok (.exc x d) st1
theorem x_mkE {x : Str} {C : Addr} {j k : Nat} (q : ErrC X.K x C) (i : InitE X.prog X.w X.K X.mg X.base C j) (hr : Room k X.A) (hj : j + 1 ≤ k) (hm : X.mg x = some (.ref C)) (hex : X.ex = []) (ha : PX X W e f) (hg : Gl X x := by rfl)
    (hdb : (x == ("__debug__" : Str)) = false := by decide) (he : starEach [e] X.env = [(false, eval e X.env)] := by rfl) (hpl : (backTo pos (starEach [] X.env)).any (·.1) = false := by rfl) :
    PX X W (.Call (.Name x p) [e] [] pos) (fMkE x f) := by
  obtain ⟨fI, fd, ps, i1, i2, i3, i4⟩ := i.ex
  refine ⟨fun pins s σ H Q I w => ?_⟩
  obtain ⟨c, sl, rfl, S, L, P⟩ := w
  have mk := (pmk_oexN (p := p) (pos := pos) (ds := []) (dvs := []) q.oex i1 i2 i3 (hr.mono hj) i4 .nil pass0 hg hm (xs_cons ha xs_nil he) hdb he hpl) pins s σ c.H (fun cls d H' => ∃ dx, cls = .ref C ∧ d = some dx ∧ ∀ a, H' a = none → Q (.ref a) (upd H' a (exv a C dx))) I ?_
  · refine wpAny_mono mk (fun u s' hh => ?_) fun er s' hq => hq
    obtain ⟨a, oe, vs, sI, H', cls, d, rfl, J, ext, hn, hoe, z, hd, _, na, os, ag, _, dx, rfl, rfl, hQ⟩ := hh
    have J2 : L2.Inv X pins σ H' s' := J.landed (B := s'.heap) (fun b o e _ => ext b o e) (fun b o e => e) (fun b o e _ => ⟨o.slots, ext b o e⟩) os ag
    have n0 : X.s_0.heap.get? a = none := by
      cases q0 : X.s_0.heap.get? a with
      | none => rfl
      | some oo =>
        obtain ⟨o1, q1⟩ := J.base.there a oo q0 (by rw [hex]; simp)
        rw [hn] at q1; cases q1
    refine ⟨.ref a, _, track J2 na n0 (fun z2 => ?_) (fun v ⟨oc, ec, dc⟩ => ?_) (fun p hp z2 => ?_) (exv_ok hoe z hd), rfl, hQ a na⟩
    · obtain ⟨m, hns, _⟩ := J.loc
      obtain ⟨od, _, _, hod, _⟩ := hns
      rw [← z2, hn] at hod; cases hod
    · rw [hoe] at ec; cases ec; rw [hd] at dc; cases dc
    · have w1 := (J.pin p hp).1
      rw [z2, hn] at w1; cases w1
  · unfold tMkO
    refine ⟨c, sl, rfl, S, L, ?_⟩
    unfold fMkE at P
    unfold fCons fNil
    cases hq : f sl c.st with
    | stuck => rw [hq] at P; exact P.elim
    | err x' d sl' st' => rw [hq] at P; exact P
    | ok d st1 =>
      rw [hq] at P
      intro vs c1 s1 o1 e1 r1
      cases r1 with
      | cons r1 t =>
        cases t
        rename_i v
        refine ⟨by simp, fun a ha => ⟨a, C, v, rfl, q.oex, q.noV, upd_same, fun dx hdx ne => ?_⟩⟩
        have hdx1 : c1.H dx = none := by rw [upd_ne ne] at hdx; exact hdx
        refine ⟨rfl, dx, [("value", v)], upd_same, by rw [upd_ne ne, upd_same], hdx1, ?_⟩
        obtain ⟨o2, s2⟩ := Cf.fix (p := dx) (o := .xd [("value", v)]) o1 hdx1
        have eH : upd (del (upd (upd (upd c1.H a (exo a C none)) dx (exd dx [("value", v)])) a (exo a C (some dx))) a) dx (.xd [("value", v)]) = upd c1.H dx (.xd [("value", v)]) := by
          funext b
          by_cases hb : b = dx
          · rw [hb, upd_same, upd_same]
          · rw [upd_ne hb, upd_ne hb]
            by_cases hb2 : b = a
            · rw [hb2, del_same, ha]
            · rw [del_ne hb2, upd_ne hb2, upd_ne hb, upd_ne hb2]
        rw [eH]
        refine ⟨dx, rfl, rfl, fun a' ha' => ?_⟩
        obtain ⟨o3, s3⟩ := Cf.fix (p := a') (o := exv a' C dx) o2 ha'
        have nd : dx ≠ a' := fun z => by rw [← z, upd_same] at ha'; cases ha'
        exact P (.ref a') _ (s1.trans (s2.trans s3)) o3 e1 (.exc q.ns upd_same (s3.ex _ _ upd_same) (s3.dr (s2.dr r1)))
end
end Rq
set_option Elab.async false
set_option linter.all false
set_option maxRecDepth 100000
set_option maxHeartbeats 4000000
/-! Rq, part 67: xs.count(b) of a list of bools; != of a dict and itself. -/
namespace Rq
open PySem PySem.Spec PyProof.Rows L2
section
variable {K : PySem.W.Frag} {W : WX} {c : Cf} {X : Cx} {a b e o : PySem.Expr} {es : List PySem.Expr} {f g h : EF} {pos apos cpos p : Pos}
theorem bools_vals : ∀ {bs : List Bool} {its : List Value}, Vals (bs.map V.bl) its → its = bs.map Value.bool
  | [], _, .nil => rfl
  | k :: bs, _, .cons r t => by
    obtain rfl : _ = Value.bool k := r
    rw [bools_vals t]
    rfl
def isBv (b : Bool) : Value → Bool
  | .bool k => k == b
  | _ => false
theorem countP_bools (b : Bool) : ∀ bs : List Bool, List.countP (isBv b) (bs.map Value.bool) = bs.count b
  | [] => rfl
  | k :: bs => by
    rw [List.map_cons, List.countP_cons, List.count_cons, countP_bools b bs]
    rfl
abbrev rCountB (K : PySem.W.Frag) : V → List V → Hp → VK → Prop := fun x xs H Q => ∃ (a : Addr) (bs : List Bool) (b : Bool), x = .ref a ∧ xs = [.bl b] ∧ SqL K H a (bs.map V.bl) ∧ Q (.int (bs.count b : Nat)) H
theorem mt_countB : MtR X "list.count" (rCountB X.K) := by
  intro pins s σ H x xs v us Q I rx rxs h
  obtain ⟨a, bs, b, rfl, rfl, hs, q⟩ := h
  obtain rfl : v = Value.ref a := rx
  cases rxs with
  | cons ry rt =>
    cases rt
    obtain rfl : _ = Value.bool b := ry
    obtain ⟨its, rv, pl, hz⟩ := I.list hs
    have hi := bools_vals rv
    obtain ⟨⟨cls, dd, data, sl⟩, n, e1, e2, e3, e4⟩ := pl
    simp only at e2 e3 e4
    subst e2 e4
    refine call_meets PySem.F.slot_list_count ⟨_, e1, rfl⟩ PySem.F.entry_list_count (PySem.F.args_list_count_2 _ _) (SeqAt.list_countAt a its.toArray n dd sl (.bool b) (isBv b)) ⟨e1, fun y hy => ?_, ?_⟩
    · rw [hi] at hy
      have hy : y ∈ bs.map Value.bool := by simpa using hy
      obtain ⟨k, _, rfl⟩ := List.mem_map.mp hy
      exact SeqAt.EqAt.bool_bool k b
    · refine ⟨.int (bs.count b : Nat), H, I.tok _, ⟨s.toks, ?_⟩, q⟩
      rw [hi]
      show Value.int ((List.countP (isBv b) (bs.map Value.bool) : Nat) : Int) s.toks = _
      rw [countP_bools]
def boolsL : List D → Option (List Bool)
  | [] => some []
  | .bl b :: r => (boolsL r).map (b :: ·)
  | _ :: _ => none
theorem boolsL_map : ∀ bs : List Bool, boolsL (bs.map D.bl) = some bs
  | [] => rfl
  | b :: bs => by
    show (boolsL (bs.map D.bl)).map (b :: ·) = _
    rw [boolsL_map bs]
    rfl
theorem boolsL_ok {G : Hp} {as : List Addr} : ∀ {vs : List V} {ds : List D} {bs : List Bool}, DRs K G as vs ds → boolsL ds = some bs → vs = bs.map V.bl
  | _, _, _, .nil, h => by cases h; rfl
  | _, _, _, .cons r t, h => by
    unfold boolsL at h
    split at h
    · rename_i ne
      cases ne
    · rename_i ne
      cases ne
      obtain ⟨bs', h2, rfl⟩ := Option.map_eq_some_iff.mp h
      cases r
      rw [boolsL_ok t h2]
      rfl
    · cases h
def zCountB (x : D) (ds : List D) (st : ST) : Res D := match asL x st, ds with
  | some xs, [.bl b] => (match boolsL xs with
    | some bs => .ok (.int (bs.count b : Nat)) st
    | none => .stuck)
  | _, _ => .stuck
theorem zCountB_ok : OpM K W (rCountB K) zCountB := by
  intro c v vs x ds Q S r1 r2 P
  unfold zCountB at P
  split at P
  · next xs b hx =>
    split at P
    · next bs hb =>
      cases r2 with
      | cons r3 r4 =>
        cases r4
        cases r3
        obtain ⟨a, us, rfl, h1, h2⟩ := asL_ok S r1 hx
        exact ⟨a, bs, b, rfl, rfl, by rw [← boolsL_ok h2 hb]; exact h1, Post.ok S (.int _) P⟩
    · exact P.elim
  · exact P.elim
theorem x_countB {g : AF} (ho : PX X W o f) (ha : PXs X W [e] g) (hbase : attributeBase o "count" X.env (eval o X.env) = eval o X.env := by rfl)
    (hfew : ((backTo cpos (starEach (e :: []) X.env)).all (fun x => !x.1) && (backToKw cpos (keywordEach [] X.env)).all (fun x => x.1.isSome)
      && decide ((e :: []).length + ([] : List Keyword).length + (if ([] : List Keyword).isEmpty then 0 else 1) < 30)) = true := by rfl)
    (hline : (apos.endLine == cpos.line) = true := by rfl) (hs : starEach (e :: []) X.env = (false, eval e X.env) :: starEach [] X.env := by rfl) (hplain : (backTo cpos (starEach [] X.env)).any (·.1) = false := by rfl) :
    PX X W (.Call (.Attribute o "count" apos) [e] [] cpos) (fM zCountB f g) := x_lmeth PySem.F.slot_list_count PySem.F.type_list_count mt_countB zCountB_ok ho ha hbase hfew hline hs hplain
end
/-! != of a dict and itself -/
section
variable {prog : Program} {w : World} {A : Around}
theorem find_self {α β : Type} [DecidableEq α] : ∀ {all : List (α × β)} {k : α} {v : β}, (all.map Prod.fst).Nodup → (k, v) ∈ all → (all.find? (fun kv => decide (kv.1 = k))).map (·.2) = some v
  | [], _, _, _, h => by cases h
  | (k0, v0) :: r, k, v, hn, h => by
    rw [List.map_cons, List.nodup_cons] at hn
    rcases List.mem_cons.mp h with h | h
    · cases h
      rw [List.find?_cons_of_pos (by simp)]
      rfl
    · have ne : k0 ≠ k := fun z => hn.1 (z ▸ List.mem_map.mpr ⟨(k, v), h, rfl⟩)
      rw [List.find?_cons_of_neg (by simpa using ne)]
      exact find_self hn.2 h
theorem hits_self {K : Type} [DecidableEq K] {s : Shared} {all : List (K × Value)} (hn : (all.map Prod.fst).Nodup) : ∀ {kvs : List (K × Value)}, (∀ p ∈ kvs, p ∈ all) → PySem.W.KeqHitsP prog w A s all kvs true
  | [], _ => .nil
  | (k, v) :: r, h => by
    have hv : valueAt all k = some v := find_self hn (h _ List.mem_cons_self)
    have := PySem.W.KeqHitsP.hit (prog := prog) (w := w) (A := A) (s := s) (r := r) (k := k) (v := v) (y := v) (e := true) (b := true) hv (fun E Q q => SeqAt.EqAt.same v prog w E Q q) (hits_self hn fun p hp => h p (List.mem_cons_of_mem _ hp))
    exact this
theorem meets_dict_ne_self {K : Type} [DecidableEq K] (knd : PySem.KeyKind prog w K) (a : Addr) (ha : (a == sysModules) = false) : MeetsIn prog w (Builtin.«dict.__ne__» ⟨[.ref a, .ref a], []⟩) (fun _ R s => ∃ kvs, Heap.DictOf knd s.heap a kvs ∧ R (.ok (.ret (.bool false))) s) :=
  .of_wp fun A R s h => by
    obtain ⟨hp, g, d, tk, os⟩ := s
    obtain ⟨kvs, h, q⟩ := h
    have h0 := h
    obtain ⟨⟨cls, dd, data, sl⟩, es, ep, ho, hx, hd, _⟩ := h0
    obtain ⟨h1, h2, h3⟩ := hx
    simp only at h1 h2 h3 hd
    subst h1 h2 h3 hd
    wp_walk using AutoSeq1.wpAny_loadPart' ho, wpAny_load ho
    refine wpAny_of_eq (show isSubtype (Value.type "dict") (Value.type "dict") = pure true from by rfl) ?_
    simp only [Bool.not_true, Bool.false_eq_true, if_false]
    unfold Builtin.Dict.addrOf
    refine wpAny_bind (wpAny_pure ?_)
    refine wpAny_bind (wpAny_pure ?_)
    refine wpAny_bind (PySem.W.samePairsP (r := true) ha ha h h (fun _ => hits_self h.choose_spec.choose_spec.choose_spec.2.2.2.2.2 fun p hp => hp) ?_)
    refine wpAny_pure ⟨_, rfl, ?_⟩
    simpa using q
theorem dict_ne_self {K : Type} [DecidableEq K] {knd : PySem.KeyKind prog w K} {s : Shared} {a : Addr} {kvs : List (K × Value)} {E Q : Value → Shared → Prop} (ha : (a == sysModules) = false) (h : Heap.DictOf knd s.heap a kvs) (hu : A.units < cLine) (q : Q (.bool false) s) :
    wpAny (model prog w) A (richCompare .NotEq (.ref a) (.ref a)) Q E s := by
  have ty : s.TypeIs (.ref a) "dict" := h.typeIs
  exact wpAny_richCompare_same_room ty ty PySem.F.slot_dict_ne (call_meetsIn PySem.F.slot_dict_ne ty PySem.F.entry_dict_ne (PySem.F.args_dict_ne_2 _ _) (meets_dict_ne_self knd a ha) ⟨kvs, h, (fun z => nomatch z), q⟩) hu
end
section
variable {K : PySem.W.Frag} {W : WX} {c : Cf} {X : Cx} {a b e o : PySem.Expr} {es : List PySem.Expr} {f g h : EF} {pos apos cpos p : Pos}
abbrev rNeK : R2 := fun x y H Q => ∃ (a : Addr) (kvs : List (Key × V)), x = .ref a ∧ y = .ref a ∧ L2.Rd H a (.dK kvs) ∧ Q (.bl false) H
theorem op_neK (hu : X.A.units < cLine) : OpR X (compareOp .NotEq) rNeK := by
  intro pins s σ H x y v u Q I rx ry ⟨a, kvs, e1, e2, hd, q⟩
  subst e1 e2
  cases rx
  cases ry
  obtain ⟨hz, hs, vs, kv, dd⟩ := dk_rd I.hok hd
  exact dict_ne_self hs dd hu ⟨.bl false, H, I, rfl, q⟩
/-- != where a dict may be asked against itself -/
def zNe5 (x y : D) (st : ST) : Res D := match x, y with
  | .cel i, .cel j => if i = j then (match st[i]? with
    | some (some (.dct _)) => .ok (.bl false) st
    | _ => zNe x y st) else zNe x y st
  | x, y => zNe x y st
theorem zNe5_ok : Op2 K W (fun x y H Q => (rNe x y H Q ∨ rNeD K x y H Q) ∨ rNeK x y H Q) zNe5 := by
  intro c v w x y Q S r1 r2 P
  unfold zNe5 at P
  split at P
  · next i j =>
    split at P
    · next hij =>
      subst hij
      split at P
      · next kvs hk =>
        obtain ⟨a, z1, _, vs, z3, z4⟩ := S.cell _ _ hk
        cases r1 with
        | cel h1 =>
          cases r2 with
          | cel h2 =>
            rw [z1] at h1 h2
            cases h1
            cases h2
            exact .inr ⟨a, vs, rfl, rfl, .inl z3, Post.ok S (.bl _) P⟩
      · exact .inl (zNe_ok c v w _ _ Q S r1 r2 P)
    · exact .inl (zNe_ok c v w _ _ Q S r1 r2 P)
  · exact .inl (zNe_ok c v w _ _ Q S r1 r2 P)
theorem x_ne5 (hu : X.A.units + 64 < cLine) (ha : PX X W a f) (hb : PX X W b g) : PX X W (.Compare a [.NotEq] [b] pos) (f2 zNe5 f g) := x_cmp ((op_ne.or (op_neD hu)).or (op_neK (by omega))) zNe5_ok ha hb (nomark _)
end
section
variable {W : WX} {X : Cx} {a b : PySem.Expr} {f g : EF} {pos : Pos}
theorem xt_ne5 (hu : X.A.units + 64 < cLine) (ha : PX X W a f) (hb : PX X W b g) : XT X W (.Compare a [.NotEq] [b] pos) (f2 zNe5 f g) := xt_cmp ((op_ne.or (op_neD hu)).or (op_neK (by omega))) zNe5_ok ha hb (nomark _)
end
/-! the error classes, made -/
structure ErrsI (P : Program) (w : World) (K : PySem.W.Frag) (mg : Str → Option Value) (base : Heap) (EQ : List Str) : Prop where
  i : ∀ x ∈ EQ, ∃ C, ErrI P w K mg base x C
theorem x_mkQ {X : Cx} {W : WX} {e : PySem.Expr} {p pos : Pos} {f : EF} {EQ : List Str} {x : Str} {k : Nat} (q : ErrsI X.prog X.w X.K X.mg X.base EQ) (hx : EQ.contains x = true) (hr : Room k X.A) (hj : 2 ≤ k) (hex : X.ex = []) (ha : PX X W e f) (hg : Gl X x := by rfl)
    (hdb : (x == ("__debug__" : Str)) = false := by decide) (he : starEach [e] X.env = [(false, eval e X.env)] := by rfl) (hpl : (backTo pos (starEach [] X.env)).any (·.1) = false := by rfl) :
    PX X W (.Call (.Name x p) [e] [] pos) (fMkE x f) := by
  obtain ⟨C, i⟩ := q.i x (List.contains_iff_mem.mp hx)
  exact x_mkE i.e i.i hr hj i.m hex ha hg hdb he hpl
end Rq
set_option Elab.async false
set_option linter.all false
set_option maxRecDepth 100000
set_option maxHeartbeats 4000000
/-! Rq, part 68: the facts of many error classes as one check over what is written. -/
namespace Rq
open PySem PySem.Spec PyProof.Rows L2
def errB (K : PySem.W.Frag) (C fI : Addr) : Bool :=
  excB K C && PySem.W.findIn K (.ref C) "__setattr__" == some (some (.builtin "object.__setattr__")) && PySem.W.subIn K (.ref C) (.type "BaseException") == some true && PySem.W.typeIn K (.ref C) == some (.type "type") && PySem.W.keepIn K (.ref C)
  && PySem.W.findIn K (.ref C) "value" == some none && PySem.W.findIn K (.ref C) "__getattribute__" == some (some (.builtin "BaseException.__getattribute__")) && PySem.W.findIn K (.ref C) "__getattr__" == some none && PySem.W.hasDictIn K C
  && PySem.W.findIn K (.ref C) "__class__" == some (some (.builtin "object.__class__")) && PySem.W.mroIn K C (.type "object") == some true
  && PySem.W.subIn K (.type "NoneType") (.ref C) == some false && PySem.W.subIn K (.type "bool") (.ref C) == some false && PySem.W.subIn K (.type "int") (.ref C) == some false && PySem.W.subIn K (.type "str") (.ref C) == some false
  && PySem.W.subIn K (.type "list") (.ref C) == some false && PySem.W.subIn K (.type "tuple") (.ref C) == some false && PySem.W.subIn K (.type "dict") (.ref C) == some false
  && PySem.W.findIn K (.ref C) "__init__" == some (some (.ref fI)) && PySem.W.subIn K (.ref C) (.type "ValueError") == some true
theorem errB_ok {K : PySem.W.Frag} {C fI : Addr} {x : Str} (hn : PySem.W.nsIn K mainGlobals x = some (some (.ref C))) (h : errB K C fI = true) : ErrD K x C ∧ PySem.W.findIn K (.ref C) "__init__" = some (some (.ref fI)) ∧ PySem.W.subIn K (.ref C) (.type "ValueError") = some true := by
  unfold errB at h
  simp only [Bool.and_eq_true, beq_iff_eq] at h
  obtain ⟨⟨⟨⟨⟨⟨⟨⟨⟨⟨⟨⟨⟨⟨⟨⟨⟨⟨⟨h1, h2⟩, h3⟩, h4⟩, h5⟩, h6⟩, h7⟩, h8⟩, h9⟩, h10⟩, h11⟩, h12⟩, h13⟩, h14⟩, h15⟩, h16⟩, h17⟩, h18⟩, h19⟩, h20⟩ := h
  exact ⟨⟨⟨hn, ⟨excB_ok h1, h2, h3, h4, h5⟩, h6⟩, h7, h8, h9, h10, h11, h12, h13, h14, h15, h16, h17, h18⟩, h19, h20⟩
def errsB (K : PySem.W.Frag) (fI : Addr) (EQ : List Str) : Bool := EQ.all fun x => match PySem.W.nsIn K mainGlobals x with
  | some (some (.ref C)) => errB K C fI && EQ.all fun y => x == y || (match PySem.W.nsIn K mainGlobals y with
    | some (some (.ref Cy)) => PySem.W.subIn K (.ref C) (.ref Cy) == some (y == ("QueueError" : Str))
    | _ => false)
  | _ => false
theorem errsB_ok {K : PySem.W.Frag} {fI : Addr} {EQ : List Str} (h : errsB K fI EQ = true) : ∀ x ∈ EQ, ∃ C, PySem.W.nsIn K mainGlobals x = some (some (.ref C)) ∧ errB K C fI = true ∧ ∀ y ∈ EQ, x ≠ y → ∀ Cy : Addr, PySem.W.nsIn K mainGlobals y = some (some (.ref Cy)) → PySem.W.subIn K (.ref C) (.ref Cy) = some (y == ("QueueError" : Str)) := by
  intro x hx
  have h1 := List.all_eq_true.mp h x hx
  split at h1
  · next C hn =>
    rw [Bool.and_eq_true] at h1
    refine ⟨C, hn, h1.1, fun y hy ne Cy hc => ?_⟩
    have h2 := List.all_eq_true.mp h1.2 y hy
    rw [hc] at h2
    dsimp only at h2
    rw [beq_false_of_ne ne, Bool.false_or] at h2
    exact beq_iff_eq.mp h2
  · cases h1
theorem errsQ_of {K : PySem.W.Frag} {mg : Str → Option Value} {fI : Addr} {EQ : List Str} (h : errsB K fI EQ = true) (hm : ∀ (x : Str) (C : Addr), PySem.W.nsIn K mainGlobals x = some (some (.ref C)) → mg x = some (.ref C))
    (cn : PySem.W.specialIn K (.builtin "object.__class__") "__get__" = some (some (.builtin "getset_descriptor.__get__"))) (ct : PySem.W.takesIn K (.builtin "object.__class__") = some true) : ErrsQ K mg EQ where
  all := fun x hx => by
    obtain ⟨C, hn, hb, _⟩ := errsB_ok h x hx
    exact ⟨C, (errB_ok hn hb).1, hm x C hn⟩
  sub := fun x hx y hy ne Cx Cy e1 e2 => by
    obtain ⟨C, hn, hb, hs⟩ := errsB_ok h x hx
    cases hn.symm.trans e1
    exact hs y hy ne Cy e2
  ve := fun x hx C e => by
    obtain ⟨C', hn, hb, hs⟩ := errsB_ok h x hx
    cases hn.symm.trans e
    exact (errB_ok hn hb).2.2
  cn := cn
  ct := ct
theorem errsI_of {P : Program} {w : World} {K : PySem.W.Frag} {mg : Str → Option Value} {base : Heap} {fI : Addr} {EQ : List Str} (h : errsB K fI EQ = true) (hm : ∀ (x : Str) (C : Addr), PySem.W.nsIn K mainGlobals x = some (some (.ref C)) → mg x = some (.ref C))
    (hi : ∀ C : Addr, PySem.W.findIn K (.ref C) "__init__" = some (some (.ref fI)) → InitE P w K mg base C 1) : ErrsI P w K mg base EQ where
  i := fun x hx => by
    obtain ⟨C, hn, hb, _⟩ := errsB_ok h x hx
    have z := errB_ok hn hb
    exact ⟨C, z.1.e, hi C z.2.1, hm x C hn⟩
end Rq
set_option Elab.async false
set_option linter.all false
set_option maxRecDepth 100000
set_option maxHeartbeats 4000000
/-! Rq, part 69: sorted(t, key=lambda x: x[0]) of a tuple of tuples that begin with an int. -/
namespace Rq
open PySem PySem.Spec PyProof.Rows L2
section
variable {prog : Program} {w : World} {A : Around} {E : Value → Shared → Prop} {s : Shared}
/-- sorted of a tuple by a key -/
theorem sorted_tup_key {β : Type} {vs : List Value} {bs : List β} {R : Value → β → Prop} {l g : Addr} {Q : Value → Shared → Prop} (k : β → PyData)
    (hl : IsTup s.heap l vs.toArray) (hv : PySem.W.EachIs R vs bs) (ha : PySem.W.AllAlike (bs.map k)) (hs : PySem.W.Sortable (bs.map k)) (hz : bs.length ≤ sizeLine) (hlen : vs.length = bs.length) (hu : ∀ x ∈ bs, A.units + 2 + (k x).depth < cLine)
    (hk : ∀ (v : Value) (x : β), R v x → x ∈ bs → ∀ (h : Heap) (tk : Nat), (∀ b o, s.heap.get? b = some o → h.get? b = some o) → wpAny (model prog w) A.in1.in1 (call (.ref g) [v]) (PySem.W.KeyPure (k x) { heap := h, gens := s.gens, drawn := s.drawn, toks := tk, os := s.os }) (fun _ _ => False) { heap := h, gens := s.gens, drawn := s.drawn, toks := tk, os := s.os })
    (hQ : ∀ (hM : Heap) (D : Addr) (out : List Value) (c : Nat) (h' : Heap) (tk : Nat), (∀ b o, s.heap.get? b = some o → h'.get? b = some o) → (∀ b o, s.heap.get? b = some o → hM.get? b = some o) → D = hM.objs.size → h'.get? D = some (seqObj "list" out.toArray c) → out.length = bs.length → PySem.W.EachIs R out (bs.mergeSort (PySem.W.dataLe false k)) → Q (.ref D) { heap := h', gens := s.gens, drawn := s.drawn, toks := tk, os := s.os }) :
    wpAny (model prog w) A (call (.builtin "sorted") [.ref l] [("key", .ref g)]) Q E s := by
  refine call_function_entry_kw kind_sorted (by decide +kernel) entry_sorted (ksk_s1 _ _) ?_
  unfold Builtin.sorted
  refine wpAny_bind ?_
  unfold checkCount
  refine wpAny_pure ?_
  obtain ⟨o, h1, h2, n, h3⟩ := hl
  refine wpAny_bind (wpAny_collect_seq l (.inr rfl) h1 h2 h3 (fun h' hh => ?_) (by simpa using (hlen ▸ hz : vs.length ≤ sizeLine)))
  refine wpAny_bind (wpAny_newList ?_ (by simpa using (hlen ▸ hz : vs.length ≤ sizeLine)))
  have nb : ∀ b o, s.heap.get? b = some o → b ≠ h'.objs.size := fun b o e => Nat.ne_of_lt (Heap.lt_size (hh b o e))
  have up : ∀ b o, s.heap.get? b = some o → (h'.push { cls := Value.type "list", data := Data.seq vs.toArray.toList.toArray }).get? b = some o := fun b o e => Heap.get?_push_of_some _ (hh b o e)
  refine wpAny_bind (wpAny_holding (PySem.W.list_sort_key_data (a := h'.objs.size) (vs := vs) (bs := bs) (R := R) (n := 0) (f := .ref g) (b := false) k ?_ hv ha hs hz (fun x hx => ?_) (ksk_l1 _ _) (ksk_t1 _ _) (fun v x r hx h tk kb => ?_) (fun out c h2' tk kb e el ei => ?_)))
  · exact Heap.get?_push_size _ rfl
  · have := hu x hx
    show A.units + 1 + 1 + (k x).depth < cLine
    omega
  · exact hk v x r hx h tk fun b o e => kb b o (nb b o e) (up b o e)
  · exact wpAny_pure ⟨_, rfl, hQ h' h'.objs.size out c h2' tk (fun b o e => kb b o (nb b o e) (up b o e)) hh rfl e el ei⟩
/-- lambda x: x[0], called with a tuple -/
theorem key0_call {f a c' : Addr} {qual x : Str} {params : Arguments} {scope : Scope} {cl : List (Str × Addr)} {pm ctv : Value} {p1 p2 p3 : Pos} {kd : Nat} {its : Array Value} {b : Int} {tk0 : Tok}
    (hf : s.heap.get? f = some (PySem.W.kla_obj "<lambda>" qual params (.Subscript (.Name x p1) (.Constant (.int 0) kd p2) p3) scope cl pm c' ctv)) (hc : s.heap.CodeRec (.ref c') qual) (hn : s.heap.NoLimit) (hd : A.depth < recursionLimit)
    (hk : scope.kind = .function) (hco : scope.isCoroutine = false) (hg : scope.isGenerator = false) (hnc : ∀ y ∈ scope.names, y.2 ≠ NameKind.cell) (hx : scope.names.lookup x = some .local) (hdb : (x == ("__debug__" : Str)) = false)
    (hb : bindArgs (PySem.W.kla_fn "<lambda>" qual params (.Subscript (.Name x p1) (.Constant (.int 0) kd p2) p3) scope cl pm (.ref c') ctv) ⟨[.ref a], []⟩ = pure [(x, .ref a)])
    (ht : IsTup s.heap a its) (h0 : its[0]? = some (.int b tk0)) : wpAny (model prog w) A (call (.ref f) [.ref a]) (PySem.W.KeyPure (.int b) s) E s := by
  refine wpAny_call (PySem.W.kla_callFunE hd hf rfl hco hg rfl hc ?_)
  rw [hb]
  refine wpAny_pure (wpAny_newFunctionEnv hnc (fun y hy => ?_) (fun hN1 hns1 hsb1 => ⟨hn.fresh _ hsb1, ?_⟩) hk)
  · rw [List.mem_singleton] at hy
    subst hy
    exact hx
  · have kept : ∀ b o, s.heap.get? b = some o → hN1.get? b = some o := fun b o e => hsb1.extBut b o (Nat.ne_of_lt (Heap.lt_size e)) (Heap.get?_push_of_some _ e)
    refine PySem.W.kla_codeExpr (wpAny_Subscript_Constant_late (wpAny_Name (wpAny_loadName_local (v := .ref a) hk ?_ hns1 (by show List.lookup x [(x, Value.ref a)] = _; simp [List.lookup]) ?_) hdb))
    · exact hx
    · refine wpAny_eval_const rfl fun v tk hv => ?_
      obtain ⟨tk2, rfl⟩ : ∃ tk2, v = .int 0 tk2 := by
        exact hv
      obtain ⟨o, g1, g2, g3⟩ := ht
      refine ⟨"tuple", "tuple.__getitem__", ?_, ⟨o, kept _ _ g1, g2⟩, getItem_tuple (j := 0) (k := 0) ⟨o, kept _ _ g1, g2, g3⟩ (by decide) (by decide) ?_ h0 ?_⟩
      · exact PySem.F.slot_tuple_getitem.lookup
      · have lt := (Array.getElem?_eq_some_iff.mp h0).1
        simp [seqIndex?, lt]
      · exact ⟨hN1, _, rfl, kept, .int b tk0⟩
end
theorem callWith_bltK {M : Model} {A : Around} {E : Value → Shared → Prop} {s : Shared} {pos : Pos} {T : String} {env : Env} {e : PySem.Expr} {kws : List Keyword} {Q : Value → Shared → Prop} (hall : ((backToKw pos (keywordEach kws env)).all fun x => x.1.isSome) = true)
    (h : wpAny M A (spliced (backTo pos (starEach [e] env))) (fun vs s₁ => wpAny M A (evalAll (List.map (fun x => x.2) (backToKw pos (keywordEach kws env)))) (fun ks s₂ => wpAny M A (call (.builtin T) vs ((List.filterMap (fun x => x.1) (backToKw pos (keywordEach kws env))).zip ks)) Q E s₂) E s₁) E s)
    (hst : ((((backTo pos (starEach [e] env)).any fun x => x.1) || (backToKw pos (keywordEach kws env)).any fun x => x.1.isNone) = false)) (he : starEach [e] env = [(false, eval e env)] := by rfl) :
    wpAny M A (callWith pos (.builtin T) [] (backTo pos (starEach [e] env)) (backToKw pos (keywordEach kws env))) Q E s := by
  refine PySem.W.callWith_of (P := fun _ => True) hst (fun h _ => ⟨.machine, .inr (.inl rfl), fun A Q E s _ q => ?_⟩) (PyProof.Rows.evalArgs_kw2 hall (thn h fun vs s1 q => thn q fun ks s2 q2 => ⟨trivial, q2⟩) he)
  unfold keeperOf
  exact wpAny_pure q
def firstI : D → Option Int
  | .tup (.int b :: _) => some b
  | _ => none
def firstIs : List D → Option (List Int)
  | [] => some []
  | x :: r => (firstI x).bind fun b => (firstIs r).map (b :: ·)
def zSortK0 (x : D) (st : ST) : Res D := match x with
  | .tup xs => (match firstIs xs with
    | some ns => .ok (.lst (sortD xs (ns.map PyData.int))) st
    | none => .stuck)
  | _ => .stuck
theorem firstIs_len : ∀ {xs : List D} {ns : List Int}, firstIs xs = some ns → ns.length = xs.length
  | [], _, h => by cases h; rfl
  | x :: r, _, h => by
    unfold firstIs at h
    obtain ⟨b, _, h2⟩ := Option.bind_eq_some_iff.mp h
    obtain ⟨t, h3, rfl⟩ := Option.map_eq_some_iff.mp h2
    rw [List.length_cons, List.length_cons, firstIs_len h3]
theorem sortable_ints (ns : List Int) : PySem.W.Sortable (ns.map PyData.int) := .inr fun d hd => by
  obtain ⟨n, _, rfl⟩ := List.mem_map.mp hd
  exact ⟨(fun z => nomatch z), fun _ z => nomatch z⟩
section
variable {X : Cx} {W : WX} {e : PySem.Expr} {f : EF} {pos p : Pos}
/-- the pairs of values and keys, at a heap -/
def RK (h : Heap) (v : Value) (b : V × PyData) : Prop := L2.RelV b.1 v ∧ ∃ (a : Addr) (its : Array Value) (n : Int) (tk : Tok), v = .ref a ∧ IsTup h a its ∧ its[0]? = some (.int n tk) ∧ b.2 = .int n
theorem rk_each {pins : List (Addr × Obj)} {σ : L2.St} {H : Hp} {s : Shared} {G : Hp} {as : List Addr} (I : L2.Inv X pins σ H s) (gH : Ex G H) : ∀ {us : List V} {its : List Value} {xs : List D} {ns : List Int}, Vals us its → DRs X.K G as us xs → firstIs xs = some ns → PySem.W.EachIs (RK s.heap) its (us.zip (ns.map PyData.int))
  | [], _, [], ns, .nil, .nil, h => by cases h; exact .nil
  | u :: us, v :: its, x :: xs, ns, .cons r t, .cons d t2, h => by
    unfold firstIs at h
    obtain ⟨b, h1, h2⟩ := Option.bind_eq_some_iff.mp h
    obtain ⟨ns', h3, rfl⟩ := Option.map_eq_some_iff.mp h2
    refine .cons ⟨r, ?_⟩ (rk_each I gH t t2 h3)
    unfold firstI at h1
    split at h1
    · next b0 r0 =>
      cases h1
      cases d with
      | tup g1 g2 =>
        next a ws =>
        obtain ⟨its2, rv, it, _⟩ := I.tuple (gH.t g1)
        cases g2 with
        | cons g3 g4 =>
          cases g3
          cases rv with
          | cons q1 q2 =>
            obtain ⟨tk, rfl⟩ := q1
            exact ⟨a, _, b, tk, r, it, by simp, rfl⟩
    · cases h1
theorem allAlike_ints (ns : List Int) : PySem.W.AllAlike (ns.map PyData.int) := fun d hd d' hd' => by
  obtain ⟨n, _, rfl⟩ := List.mem_map.mp hd
  obtain ⟨m, _, rfl⟩ := List.mem_map.mp hd'
  rfl
theorem rk_vals {h : Heap} : ∀ {us : List Value} {bs : List (V × PyData)}, PySem.W.EachIs (RK h) us bs → Vals (bs.map Prod.fst) us
  | _, _, .nil => .nil
  | _, _, .cons r t => .cons r.1 (rk_vals t)
theorem x_sortK0 {c0 P0 : Addr} {k : Nat} {params : Arguments} {scope : Scope} {lpos kp p1 p2 p3 : Pos} {kd : Nat} {x : Str} (lt : LamT X.K X.base X.mg c0 P0 (X.env.qual ++ "<lambda>"))
    (hcode : X.env.code = .ref c0) (hr : Room k X.A) (hm : X.mg "sorted" = none) (ha : PX X W e f)
    (hk : scope.kind = .function) (hcr : scope.isCoroutine = false) (hgn : scope.isGenerator = false) (hnc : ∀ y ∈ scope.names, y.2 ≠ NameKind.cell) (hnf : ∀ y ∈ scope.names, y.2 ≠ NameKind.free) (hx : scope.names.lookup x = some .local) (hdx : (x == ("__debug__" : Str)) = false := by decide)
    (hbind : ∀ (q : Str) (cl : List (Str × Addr)) (pm cv ctv u : Value), bindArgs (PySem.W.kla_fn "<lambda>" q params (.Subscript (.Name x p1) (.Constant (.int 0) kd p2) p3) scope cl pm cv ctv) ⟨[u], []⟩ = pure [(x, u)] := by intros; rfl)
    (hdef : defaultsOf params X.env = ([], []) := by rfl) (hg : Gl X "sorted" := by rfl) (he : starEach [e] X.env = [(false, eval e X.env)] := by rfl)
    (hall : ((backToKw pos (keywordEach [⟨some "key", .Lambda params (.Subscript (.Name x p1) (.Constant (.int 0) kd p2) p3) scope lpos, kp⟩] X.env)).all fun x => x.1.isSome) = true := by rfl)
    (hst : ((((backTo pos (starEach [e] X.env)).any fun x => x.1) || (backToKw pos (keywordEach [⟨some "key", .Lambda params (.Subscript (.Name x p1) (.Constant (.int 0) kd p2) p3) scope lpos, kp⟩] X.env)).any fun x => x.1.isNone) = false) := by rfl)
    (hfm : List.filterMap (fun x => x.1) (backToKw pos (keywordEach [⟨some "key", .Lambda params (.Subscript (.Name x p1) (.Constant (.int 0) kd p2) p3) scope lpos, kp⟩] X.env)) = [("key" : Str)] := by rfl)
    (hfs : List.map (fun x => x.2) (backToKw pos (keywordEach [⟨some "key", .Lambda params (.Subscript (.Name x p1) (.Constant (.int 0) kd p2) p3) scope lpos, kp⟩] X.env)) = [do let v ← eval (.Lambda params (.Subscript (.Name x p1) (.Constant (.int 0) kd p2) p3) scope lpos) X.env; standAt pos; pure v] := by rfl) :
    PX X W (.Call (.Name "sorted" p) [e] [⟨some "key", .Lambda params (.Subscript (.Name x p1) (.Constant (.int 0) kd p2) p3) scope lpos, kp⟩] pos) (f1 zSortK0 f) := by
  refine ⟨fun pins s σ H Q I w => ?_⟩
  obtain ⟨c, sl, rfl, S, L0, P⟩ := w
  refine wpAny_Call_Name_kw (ld_blt I hg hm PyProof.Rows.boot_sorted ?_)
  refine callWith_bltK hall (thn ((xs_cons ha xs_nil he).run pos pins s σ c.H (fun vs H1 => ∃ u, vs = [u] ∧ ∃ (a : Addr) (xs : List D) (ns : List Int) (c1 : Cf), u = .ref a ∧ H1 = c1.H ∧ c1.ok X.K ∧ c1.DR X.K (.ref a) (.tup xs) ∧ firstIs xs = some ns ∧ Post X.K W c1 (RlD X.K) Q (.ok (.lst (sortD xs (ns.map PyData.int))) c1.st)) I ⟨c, sl, rfl, S, L0, ?_⟩) fun us s1 ⟨vs, H1, I1, r1, u, e1, a, xs, ns, c1, e2, e3, o1, r2, hn, P1⟩ => ?_) hst he
  · unfold f1 at P
    unfold fCons fNil
    cases hq : f sl c.st with
    | stuck => rw [hq] at P; exact P.elim
    | err x' d sl' st' => rw [hq] at P; exact P
    | ok d st1 =>
      rw [hq] at P
      intro vs c1 s1 o1 e1 r1
      subst e1
      have P1 : Post X.K W c1 (RlD X.K) Q (zSortK0 d c1.st) := Post.mono s1 P
      cases r1 with
      | cons ra t =>
        cases t
        unfold zSortK0 at P1
        split at P1
        · next xs =>
          split at P1
          · next ns hn =>
            cases ra with
            | tup h t => exact ⟨_, rfl, _, xs, ns, c1, rfl, rfl, o1, .tup h t, hn, P1⟩
          · exact P1.elim
        · exact P1.elim
  · subst e1 e2 e3
    obtain rfl := vals_ref1 r1
    rw [hfs, hfm]
    refine wpAny_evalAll_cons ?_
    refine wpAny_bind (LamX.lam_make2 I1 lt.tb hcode lt.mem lt.one (o1.tab.tabs o1.ex) hdef (fun y hy hfz => absurd hfz (hnf y hy)) fun fa c' pm' ctv H2 s2 I2 eN T2 hfa hfn hfr hco => wpAny_bind (wpAny_standAt (wpAny_pure ?_)))
    refine wpAny_evalAll_nil ?_
    obtain ⟨G2, o2, st2, g2⟩ := lam_cf o1 eN T2 hco
    have r3 := st2.dr r2
    cases r3 with
    | tup h3 t3 =>
      next us =>
      obtain ⟨its, rv, it, hz⟩ := I2.tuple (o2.ex.t h3)
      have RR := rk_each I2 o2.ex rv t3 hn
      have l1 : us.length = xs.length := DRs.length t3
      have l2 := firstIs_len hn
      have lz : (us.zip (ns.map PyData.int)).length = us.length := by rw [List.length_zip, List.length_map]; omega
      have em : (us.zip (ns.map PyData.int)).map Prod.snd = ns.map PyData.int := by rw [List.map_snd_zip]; rw [List.length_map]; omega
      obtain ⟨⟨ocd, vcd, tcd, ecd, dcd, ncd⟩, _, _⟩ := I2.hok c' _ hco
      show wpAny _ _ (call (.builtin "sorted") [.ref a] [("key", .ref fa)]) _ _ _
      refine sorted_tup_key (R := RK s2.heap) (bs := us.zip (ns.map PyData.int)) Prod.snd it RR (by rw [em]; exact allAlike_ints ns) (by rw [em]; exact sortable_ints ns) (by rw [lz]; exact hz) (by rw [lz, rv.length]) (fun x hx => ?_) (fun v x rx hx' h tk up => ?_) fun hM D out cc h' tk k1 k2 eD hD ho hE => ?_
      · obtain ⟨n, _, en⟩ := List.mem_map.mp (List.of_mem_zip hx).2
        have := hr.un
        rw [← en]
        show X.A.units + 2 + (PyData.int n).depth < cLine
        have : (PyData.int n).depth ≤ 1 := by simp [PyData.depth]
        omega
      · obtain ⟨_, a2, its2, n, tk0, rfl, ⟨o, z1, z2, z3⟩, i0, ex⟩ := rx
        rw [ex]
        exact key0_call (s := { heap := h, gens := s2.gens, drawn := s2.drawn, toks := tk, os := s2.os }) (up _ _ hfa) ⟨c', ocd, vcd, tcd, rfl, up _ _ ecd, dcd, ncd⟩ (I2.nolimit.keeps up) hr.depth hk hcr hgn hnc hx hdx (hbind _ _ _ _ _ _) ⟨o, up _ _ z1, z2, z3⟩ i0
      · subst eD
        have J := I2.kept (t' := tk) k2
        have hp : H2 hM.objs.size = none := J.hok.fresh (Nat.le_refl _)
        have n2 : s2.heap.get? hM.objs.size = none := by
          cases q : s2.heap.get? hM.objs.size with
          | none => rfl
          | some o =>
            exact absurd (Heap.lt_size (k2 _ _ q)) (Nat.lt_irrefl _)
        refine ⟨.ref hM.objs.size, upd H2 hM.objs.size (.lst (((us.zip (ns.map PyData.int)).mergeSort (PySem.W.dataLe false Prod.snd)).map Prod.fst)), I2.laidN k1 n2 hp ⟨?_, out, cc, rk_vals hE, by simpa using hD⟩, rfl, ?_⟩
        · rw [List.length_map, List.length_mergeSort, lz]
          exact hz
        · exact newTree (c := ⟨G2, H2, c1.as, c1.st⟩) o2 hp (sortD_drs t3) (Post.mono st2 P1)
end
/-! a def of the package that makes a lambda -/
theorem d0l_of {P : Program} {w : World} {K : PySem.W.Frag} {mg : Str → Option Value} {base : Heap} {x : Str} {st : Stmt} {N ps : List Str} {k n : Nat} {F : SF} {c : Addr} (T : AtL K mg x st c) (S : FnScope N ps (defScope st)) (hn : ps.length = n)
    (hb : ∀ (kV doc pm : Value) (an : Option Addr) (cdv ct : Value) (us : List Value), us.length = ps.length → bindArgs (PySem.W.fnOf x x (defArgs st) (defBody st) (defScope st) .none kV doc pm an cdv ct) ⟨us, []⟩ = pure (ps.zip us))
    (h : ∀ (fa : Addr) (A : Around) (outer : List Env) (s : Shared) (H : Hp) (E : XK), Room k (A.deeper (envOfC x (defScope st) s.heap.objs.size fa (.ref c))) →
      PYs (cxOf CX0 P w K mg base N x (defScope st) fa (.ref c) A outer s H E).nox W0 (defBody st) F) : D0 P w K mg base x st ps (k + 1) n fun ds st => (bodyF N.length F ds st).ne := by
  obtain ⟨fa, oc, od, an, osl, kV, doc, pm, ct, h1, h2, h3, h4⟩ := T.ex
  have Fu := fun_mk h2 h3 h4
  have len : ∀ vs H Q E, spF K n (fun ds st => (bodyF N.length F ds st).ne) vs H Q E → vs.length = ps.length := fun vs H Q E z => by
    obtain ⟨c0, ds, _, _, r, e, _⟩ := z
    rw [r.length, e, hn]
  refine ⟨fa, kV, doc, pm, an, .ref c, ct, ⟨len, fun A outer s H args us vs Q E hr e0 bi rv hsp => ?_⟩, h1, h4, Fu.binds hb⟩
  refine LamX.run_ofS h2 h3 S hr e0 bi rv (len _ _ _ _ hsp) fun hr' => ?_
  obtain ⟨c0, ds, rfl, o, r, e, P0⟩ := hsp
  refine ⟨_, PSs.nox (h fa A outer s c0.H E hr'), c0, _, rfl, o, SlR.start r, ?_⟩
  show PostS K W0 c0 _ (F _ c0.st)
  unfold bodyF at P0
  dsimp only at P0
  cases q : F (ds.map some ++ List.replicate (N.length - ds.length) none) c0.st with
  | stuck => rw [q] at P0; exact P0
  | err C d sl st => rw [q] at P0; exact P0.elim
  | ok fl st1 =>
    rw [q] at P0
    intro c1 s1 o1 e1
    subst e1
    cases fl with
    | nx sl => exact fun σ' L' => P0 .non c1 s1 o1 rfl .non
    | rt d => exact fun v r => P0 v c1 s1 o1 rfl r
    | bk sl => exact P0.elim
    | ct sl => exact P0.elim
end Rq
set_option Elab.async false
set_option linter.all false
set_option maxRecDepth 100000
set_option maxHeartbeats 4000000
/-! Rq, part 70: x, y, z = a, b, c. -/
namespace Rq
open PySem PySem.Spec PyProof.Rows L2
section
variable {K : PySem.W.Frag} {W : WX} {X : Cx} {a b c : PySem.Expr} {f g h : EF} {pos : Pos}
def fPar3 (i j l : Nat) (f g h : EF) : SF := fun sl st => (f sl st).bind fun x st1 => (g sl st1).bind fun y st2 => (h sl st2).bind fun z st3 => .ok (.nx (((sl.set i (some x)).set j (some y)).set l (some z))) st3
theorem y_par3 {i j l : Nat} {x y z : Str} {px py pz pt : Pos} {kt k2 pt2} (hc : X.calm = true) (hN : X.N.Nodup) (ha : PX X W a f) (hb : PX X W b g) (hcc : PX X W c h) (hw : swappedStores [.Tuple [.Name x px, .Name y py, .Name z pz] kt pt] (.Tuple [a, b, c] k2 pt2) X.env = pure (some [x, y, z])) (hi : X.N[i]? = some x := by rfl) (hj : X.N[j]? = some y := by rfl) (hl : X.N[l]? = some z := by rfl) (hij : i ≠ j := by decide) (hil : i ≠ l := by decide) (hjl : j ≠ l := by decide)
    (hx : X.env.scope.names.lookup x = some .local := by rfl) (hy : X.env.scope.names.lookup y = some .local := by rfl) (hz : X.env.scope.names.lookup z = some .local := by rfl)
    (hs : swapsWithSole [.Tuple [.Name x px, .Name y py, .Name z pz] kt pt] (.Tuple [a, b, c] k2 pt2) pos.line X.env = pure false := by rfl) (s1 : starEach [a, b, c] X.env = (false, eval a X.env) :: starEach [b, c] X.env := by rfl) (s2 : starEach [b, c] X.env = (false, eval b X.env) :: starEach [c] X.env := by rfl) (s3 : starEach [c] X.env = (false, eval c X.env) :: starEach [] X.env := by rfl) :
    PY X W (.Assign [.Tuple [.Name x px, .Name y py, .Name z pz] kt pt] (.Tuple [a, b, c] k2 pt2) pos) (fPar3 i j l f g h) :=
  ps_imp (ps_par3 hc hN hi hj hl hij hil hjl hx hy hz (pa_cons ha (pa_cons hb (pa_cons hcc pa_nil s3) s2) s1) hw hs) fun E σ H w => by
  obtain ⟨c, sl, rfl, S, L, P⟩ := w
  refine ⟨c, sl, rfl, S, L, PostS.bind P fun v d c1 s1 o1 r1 P1 => ?_⟩
  refine ⟨c1, sl, rfl, o1, s1.sl L, PostS.bind P1 fun v2 d2 c2 s2 o2 r2 P2 => ?_⟩
  refine ⟨c2, sl, rfl, o2, s2.sl (s1.sl L), PostS.bind P2 fun v3 d3 c3 s3 o3 r3 P3 => ?_⟩
  exact ⟨v, v2, v3, rfl, P3 c3 (Step.refl _) o3 rfl _ ((((s3.sl (s2.sl (s1.sl L))).set (s3.dr (s2.dr r1)) i).set (s3.dr r2) j).set r3 l)⟩
/-! x, y = a list -/
def tLstT (n : Nat) (u : TFs) : TF := fun d sl => match d with
  | .lst ds => if ds.length = n then u ds sl else none
  | _ => none
theorem gt_lst {es : List PySem.Expr} {k n : Nat} {ts : List Nat} {g : TGs} {u : TFs} (hc : X.calm = true) (h : GTs X es ts g u) (hn : (assignEach es X.env).length = n := by rfl) (hst : (assignEach es X.env).findIdx? (·.1) = none := by rfl) : GT X (.Tuple es k pos) ts (gLst X.K n g) (tLstT n u) := by
  obtain ⟨pg, hg⟩ := h
  refine ⟨pg_lst hc pg hn hst, fun G H as v d σ sl sl' Q e r L q kk => ?_⟩
  cases r with
  | lst h1 h2 =>
    unfold tLstT at q
    dsimp only at q
    split at q
    · next hl => exact ⟨_, _, rfl, .inl (.inl (e _ _ h1)), by rw [h2.length]; exact hl, hg G H as _ _ σ sl sl' Q e h2 L q kk⟩
    · cases q
  | _ => cases q
end
end Rq
set_option Elab.async false
set_option linter.all false
set_option maxRecDepth 100000
set_option maxHeartbeats 4000000
/-! Rq, part 71: where an exception is handled: the ends of lists and tuples, tuples taken apart. -/
namespace Rq
open PySem PySem.Spec PyProof.Rows L2 HotX
section
variable {prog : Program} {w : World} {A : Around} {E : Value → Shared → Prop} {s : Shared} {x1 it l t : Addr}
/-- the iterator ends: StopIteration is made and linked to the handled one -/
theorem stop_hot {α : Type} {o : Obj} {vs : Array Value} {Q : α → Shared → Prop} {E : Value → Shared → Prop} (hot : HotAt A x1 s.heap) (ho : s.heap.get? it = some o) (hd : o.data = .fields vs) (h0 : 0 < vs.size) (hne : x1 ≠ it)
    (hQ : ∀ a h', Heap.ExtBut it s.heap h' → ({ s with heap := h' } : Shared).TypeIs (.ref a) "StopIteration" → E (.ref a) { s with heap := h' }) :
    wpAny (model prog w) A (setField (.ref it) 0 .none >>= fun _ => newExc (.type "StopIteration") [] >>= fun e => (raiseNew e : Sem α)) Q E s := by
  obtain ⟨hh, o1, vs1, h1, d1, c1⟩ := hot
  refine wpAny_bind (wpAny_setField ho hd h0 ?_)
  have g1 : (s.heap.update it (Obj.mapFields (·.setIfInBounds 0 Value.none))).get? x1 = some o1 := by rw [Heap.get?_update_other _ _ (Ne.symm hne)]; exact h1
  refine wpAny_bind ?_
  simp only [newExc, newTuple]
  refine wpAny_bind (wpAny_newObj_type ?_ (by size_fits))
  refine wpAny_bind (m := firstArgMember _ _) (wpAny_of_eq (a := Value.none) (by first | rfl | (simp only [firstArgMember]; rfl)) ?_)
  refine wpAny_newObj_type ?_ (by size_fits)
  refine raiseNew_hot ⟨hh, o1, vs1, Heap.get?_push_of_some _ (Heap.get?_push_of_some _ g1), d1, c1⟩ (Nat.ne_of_lt (Heap.lt_size (Heap.get?_push_of_some _ g1))) (Heap.get?_push_size _ rfl) rfl (by first | (simp; done) | (simp; omega) | (simp only [Array.size_append]; simp; omega)) ?_
  refine hQ _ _ (fun b u hb e => ?_) ⟨_, Heap.get?_update_self _ (Heap.get?_push_size _ rfl) rfl, rfl⟩
  have e1 : (s.heap.update it (Obj.mapFields (·.setIfInBounds 0 Value.none))).get? b = some u := by rw [Heap.get?_update_other _ _ (Ne.symm hb)]; exact e
  rw [Heap.get?_update_other _ _ (Nat.ne_of_gt (Heap.lt_size (Heap.get?_push_of_some _ e1)))]
  exact Heap.get?_push_of_some _ (Heap.get?_push_of_some _ e1)
theorem next_list_end_hot {i : Nat} {items : Array Value} {Q : Option Value → Shared → Prop} (hot : HotAt A x1 s.heap) (hne : x1 ≠ it) (hit : s.heap.IsListIter it l i) (hl : s.heap.IsList l items) (hx : items[i]? = none)
    (hQ : ∀ h', Heap.ExtBut it s.heap h' → Q none { s with heap := h' }) : wpAny (model prog w) A (pyNext (.ref it)) Q E s := by
  obtain ⟨o, ho, hc, hd⟩ := id hit
  obtain ⟨ol, hol, _, nl, hdl⟩ := hl
  unfold pyNext
  refine wpAny_bind (wpAny_attempt (wpAny_callSpecial?_slot (name := Str.ofString "__next__") hit.typeIs slot_listiter_next
    (wpAny_call_entry slot_listiter_next hit.typeIs entry_listiter_next ?_ (args_listiter_next _))))
  show wpAny _ _ (field (.ref it) 0 >>= _) _ _ s
  refine wpAny_bind (wpAny_field ho hd (x := .ref l) rfl ?_)
  show wpAny _ _ (if (Value.ref l == Value.none) = true then _ else _) _ _ s
  rw [if_neg (show ¬ ((Value.ref l == Value.none) = true) from Bool.false_ne_true)]
  show wpAny _ _ (field (.ref it) 1 >>= _) _ _ s
  refine wpAny_bind (wpAny_field ho hd (x := .int i 0) rfl ?_)
  show wpAny _ _ (seqItems? (.ref l) >>= _) _ _ s
  refine wpAny_bind (wpAny_seqItems hol hdl ?_)
  simp only [Int.toNat_natCast, hx]
  refine wpAny_bind (wpAny_rule ?_)
  refine stop_hot (A := A.in1) hot ho hd (by simp) hne fun a h' eb ty => ?_
  exact wpAny_bind (wpAny_isInstance (T := "StopIteration") (b := true) ty isSubtype_stop (wpAny_pure (hQ h' eb)))
theorem next_tup_end_hot {i : Nat} {items : Array Value} {Q : Option Value → Shared → Prop} (hot : HotAt A x1 s.heap) (hne : x1 ≠ it) (hit : IsTupIter s.heap it t i) (ht : IsTup s.heap t items) (hx : items[i]? = none)
    (hQ : ∀ h', Heap.ExtBut it s.heap h' → Q none { s with heap := h' }) : wpAny (model prog w) A (pyNext (.ref it)) Q E s := by
  obtain ⟨o, ho, hc, hd⟩ := id hit
  obtain ⟨ol, hol, _, nl, hdl⟩ := ht
  unfold pyNext
  refine wpAny_bind (wpAny_attempt (wpAny_callSpecial?_slot (name := Str.ofString "__next__") hit.typeIs slot_tupleiter_next
    (wpAny_call_entry slot_tupleiter_next hit.typeIs entry_tupleiter_next ?_ (args_tupleiter_next _))))
  show wpAny _ _ (field (.ref it) 0 >>= _) _ _ s
  refine wpAny_bind (wpAny_field ho hd (x := .ref t) rfl ?_)
  show wpAny _ _ (if (Value.ref t == Value.none) = true then _ else _) _ _ s
  rw [if_neg (show ¬ ((Value.ref t == Value.none) = true) from Bool.false_ne_true)]
  show wpAny _ _ (field (.ref it) 1 >>= _) _ _ s
  refine wpAny_bind (wpAny_field ho hd (x := .int i 0) rfl ?_)
  show wpAny _ _ (seqItems? (.ref t) >>= _) _ _ s
  refine wpAny_bind (wpAny_seqItems hol hdl ?_)
  simp only [Int.toNat_natCast, hx]
  refine wpAny_bind (wpAny_rule ?_)
  refine stop_hot (A := A.in1) hot ho hd (by simp) hne fun a h' eb ty => ?_
  exact wpAny_bind (wpAny_isInstance (T := "StopIteration") (b := true) ty isSubtype_stop (wpAny_pure (hQ h' eb)))
/-- a tuple taken apart there -/
theorem assign_tup_hot {env : Env} {elts : List Expr} {k : Nat} {pos : Pos} {items : Array Value} {Q : Unit → Shared → Prop} (hot : HotAt A x1 s.heap) (ht : IsTup s.heap t items)
    (hn : (assignEach elts env).length = items.size) (hstar : (assignEach elts env).findIdx? (·.1) = none)
    (h : ∀ h', Heap.ExtBut s.heap.objs.size s.heap h' → wpAny (model prog w) A (assignInOrder ((assignEach elts env).map (·.2)) items.toList) Q E { s with heap := h' }) :
    wpAny (model prog w) A (assign (.Tuple elts k pos) env (.ref t)) Q E s := by
  have hlt : t ≠ s.heap.objs.size := by obtain ⟨o, ho, _⟩ := ht; exact Nat.ne_of_lt (Heap.lt_size ho)
  obtain ⟨hh, o1, vs1, h1, d1, c1⟩ := hot
  have hx1 : x1 ≠ s.heap.objs.size := Nat.ne_of_lt (Heap.lt_size h1)
  rw [assign_Tuple]
  refine wpAny_bind (wpAny_standAt ?_)
  unfold unpack
  rw [hn, hstar]
  refine wpAny_bind (wpAny_holding ?_)
  unfold unpackItems
  refine wpAny_bind ?_
  unfold notIterableAtAll
  refine wpAny_bind (wpAny_specialOf ht.typeIs slot_tuple_iter.lookup ?_)
  refine wpAny_pure ?_
  simp only [Bool.false_eq_true, if_false]
  refine wpAny_bind (wpAny_holding (iter_tuple ht ?_))
  refine wpAny_bind (wpAny_holding (draw_tuple hlt items.size 0 _ _ ⟨_, Heap.get?_push_size _ rfl, rfl, rfl⟩ (ht.push _) (by omega) fun h₁ hit₁ hs₁ => ?_))
  have hall : List.take items.size (List.drop 0 items.toList) = items.toList := by
    rw [List.drop_zero]; exact List.take_of_length_le (by simp)
  rw [hall]
  rw [if_neg (by simp)]
  have ht₁ : IsTup h₁ t items := (ht.push _).extBut hs₁.extBut hlt
  refine wpAny_bind (wpAny_holding (next_tup_end_hot (x1 := x1) ⟨hh, o1, vs1, hs₁.extBut x1 o1 hx1 (Heap.get?_push_of_some _ h1), d1, c1⟩ hx1 hit₁ ht₁ (by simp) fun h₂ he₂ => ?_))
  simp only [Option.isSome_none, Bool.false_eq_true, if_false]
  exact wpAny_pure (h h₂ fun b o hb e => he₂ b o hb (hs₁.extBut b o hb (Heap.get?_push_of_some _ e)))
end
end Rq
set_option Elab.async false
set_option linter.all false
set_option maxRecDepth 100000
set_option maxHeartbeats 4000000
/-! Rq, part 72: a list comprehension over a list, where an exception is handled. -/
namespace Rq
open PySem PySem.Spec PyProof.Rows L2 HotX
/-- the handled exception is tracked -/
def HotH (A : Around) (H : Hp) : Prop := ∃ x1 C dx : Addr, A.handled = some (.ref x1) ∧ H x1 = some (exv x1 C dx)
section
variable {X : Cx} {pins : List (Addr × Obj)} {σ : L2.St} {H : Hp} {s : Shared}
theorem HotH.at (h : HotH X.A H) (I : L2.Inv X pins σ H s) : ∃ x1 u, HotAt X.A x1 s.heap ∧ H x1 = some u := by
  obtain ⟨x1, C, dx, hh, hx⟩ := h
  have k := I.hok x1 _ hx
  unfold exv at k
  unfold ObjOk at k
  obtain ⟨⟨oe, vs, g1, z, d⟩, _⟩ := k
  exact ⟨x1, _, ⟨hh, oe, vs, g1, d, z.2.2 vs d⟩, hx⟩
/-- (a, b, ..) = a tuple of that length, there -/
def gTupH (A : Around) (K : PySem.W.Frag) (n : Nat) (t : TGs) : TG := fun v σ H Q => HotH A H ∧ gTup K n t v σ H Q
theorem pg_tupH {es : List Expr} {k : Nat} {t : TGs} {n : Nat} {pos : Pos} (h : PGs X es t) (hn : (assignEach es X.env).length = n := by rfl) (hst : (assignEach es X.env).findIdx? (·.1) = none := by rfl) : PG X (.Tuple es k pos) (gTupH X.A X.K n t) := by
  refine ⟨fun pins s σ H v u Q I r w => ?_⟩
  obtain ⟨hot, a, xs, e1, hq, hl, w⟩ := w
  subst e1
  cases r
  obtain ⟨x1, _, hx, _⟩ := hot.at I
  obtain ⟨its, rv, ht, hz⟩ := I.tuple hq
  refine assign_tup_hot hx ht (by simp [hn, ← hl, rv.length]) hst fun h' eb => ?_
  have I1 : L2.Inv X pins σ H { s with heap := h' } := I.kept (t' := s.toks) fun b o e => eb b o (Nat.ne_of_lt (Heap.lt_size e)) e
  exact h.run pins _ σ H xs _ Q I1 (by simpa using rv) w
end
/-- [elt for tg in a list if ..], there: D the new list -/
def tLcH (A : Around) (K : PySem.W.Frag) (ti : TE) (g : TG) (tt : TT) (te : TE) (vs : List Nat) : TE := fun σ H Q => ti σ H fun v H1 => ∃ (l : Addr) (xs : List V), v = .ref l ∧ SqL K H1 l xs ∧ ∀ D, H1 D = none → ∃ P : Nat → Hp → Prop, P 0 (upd H1 D (.lst [])) ∧
  (∀ i H, i ≤ xs.length → P i H → SqL K H l xs ∧ HotH A H) ∧
  (∀ i x H, xs[i]? = some x → P i H → g x (wipe σ vs) H fun σ2 H2 => wipe σ2 vs = wipe σ vs ∧ tt σ2 H2 fun b H3 =>
    if b = true then te σ2 H3 fun y H4 => ∃ acc, H4 D = some (.lst acc) ∧ acc.length < sizeLine ∧ P (i + 1) (upd H4 D (.lst (acc ++ [y]))) else P (i + 1) H3) ∧
  ∀ H, P xs.length H → Q (.ref D) H
section
variable {X : Cx}
theorem pe_lcH {elt tg iter : Expr} {ifs : List Expr} {scope : Scope} {own : List (Str × Nat)} {pos : Pos} {ti : TE} {g : TG} {tt : TT} {te : TE} (hN : X.N.Nodup) (hi : PE X iter ti) (ok : BlkOk X.N X.env.scope scope own)
    (hg : ∀ (s : Shared) (H : Hp) (C : Addr) (cl : List (Str × Addr)) (fp : List Addr), PG (X.blk s H scope (compEnvC scope cl C X.env) fp) tg g) (ht : ∀ (s : Shared) (H : Hp) (C : Addr) (cl : List (Str × Addr)) (fp : List Addr), PTs (X.blk s H scope (compEnvC scope cl C X.env) fp) ifs tt)
    (he : ∀ (s : Shared) (H : Hp) (C : Addr) (cl : List (Str × Addr)) (fp : List Addr), PE (X.blk s H scope (compEnvC scope cl C X.env) fp) elt te) (hs : ∀ x, foldedSetIterable iter X.env x = pure x := by intro _; rfl) :
    PE X (.ListComp elt [⟨tg, iter, ifs, 0⟩] scope pos) (tLcH X.A X.K ti g tt te (own.map (·.2))) := by
  refine ⟨fun pins s σ H Q I h => ?_⟩
  rw [eval_ListComp]
  have seen : ∀ y ∈ scope.names, y.2 = .free → ∃ c, X.env.cells.lookup y.1 = some c := fun y hy e => (ok.free y hy e).elim (fun k => I.ok.has _ (.inl k)) (fun k => I.ok.has _ (.inr k))
  refine wpAny_comprehension_free (use := none) rfl hs (closure_ok seen) ok.kind (fun y hy e => by rw [ok.uniq y hy, e]) (thn (hi.run pins s σ H _ I h) fun xv s1 hx => ?_)
  obtain ⟨v, H1, I1, r1, l, xs, e1, hq, q⟩ := hx
  subst e1
  cases r1
  obtain ⟨its, rv, pls, hz⟩ := I1.list hq
  refine wpAny_pyIter_list pls.isList ?_
  have fresh1 : FpOk X pins H1 s1.heap.objs.size := I1.fpOk (Nat.le_refl _) (I1.hok.fresh (Nat.le_refl _))
  have I2 := I1.kept (t' := s1.toks) (h' := s1.heap.push { cls := .type "list_iterator", data := .fields #[.ref l, .int 0 0] }) fun b o e => Heap.get?_push_of_some _ e
  have st2 : (s1.heap.push { cls := .type "list_iterator", data := .fields #[.ref l, .int 0 0] }).IsListIter s1.heap.objs.size l 0 := ⟨_, Heap.get?_push_size _ rfl, rfl, rfl⟩
  show wpAny _ _ (newList []) _ _ { s1 with heap := s1.heap.push { cls := .type "list_iterator", data := .fields #[.ref l, .int 0 0] }, toks := s1.toks }
  generalize hs2 : ({ s1 with heap := s1.heap.push { cls := .type "list_iterator", data := .fields #[.ref l, .int 0 0] }, toks := s1.toks } : Shared) = s2 at I2 ⊢
  have st2 : s2.heap.IsListIter s1.heap.objs.size l 0 := by rw [← hs2]; exact st2
  generalize s1.heap.objs.size = it at fresh1 st2 ⊢
  refine wpAny_newObj_type (newEnv_comp ?_) (by show 0 ≤ sizeLine; decide)
  have hD : H1 s2.heap.objs.size = none := I2.hok.fresh (Nat.le_refl _)
  obtain ⟨P, p0, look, turn, done⟩ := q s2.heap.objs.size hD
  have itD : it < s2.heap.objs.size := by obtain ⟨o, e, _⟩ := st2; exact Heap.lt_size e
  have I3 := I2.laid (t' := s2.toks) (a := s2.heap.objs.size) (o := .lst []) (h' := s2.heap.push { cls := .type "list", data := .seq ([] : List Value).toArray }) (fun b o e => Heap.get?_push_of_some _ e) (Nat.le_refl _) ⟨Nat.zero_le _, [], 0, .nil, Heap.get?_push_size _ rfl⟩
  have st3 : (s2.heap.push { cls := .type "list", data := .seq ([] : List Value).toArray }).IsListIter it l 0 := st2.at fun o e => Heap.get?_push_of_some _ e
  generalize hs3 : ({ s2 with heap := s2.heap.push { cls := .type "list", data := .seq ([] : List Value).toArray }, toks := s2.toks } : Shared) = s3 at I3
  have hp3 : s2.heap.push { cls := .type "list", data := .seq ([] : List Value).toArray } = s3.heap := by rw [← hs3]
  rw [hp3] at st3
  have f3 : FpOk X pins (upd H1 s2.heap.objs.size (.lst [])) it := ⟨by rw [upd_ne (Nat.ne_of_lt itD)]; exact fresh1.1, fresh1.2⟩
  show codeAny _ _ (.compStart (.ListComp elt [⟨tg, iter, ifs, 0⟩] scope pos) 0 (.ref it) (.ref s2.heap.objs.size) (compEnvC scope (cellsFrom (s3.heap.objs.size + 1) scope.names (cloFrom X.env.cells scope.names [])) s3.heap.objs.size X.env)) (compPost (model X.prog X.w) X.A X.xe none (EP X pins σ Q) (.ref s2.heap.objs.size) s3.heap.objs.size)
    { s3 with heap := pushCells (s3.heap.push { cls := .type "dict", data := .dict #[] }) scope.names }
  have I4 := block_start I3 ok hN (fp := [it]) (fun b hb => by
    obtain rfl : b = it := by simpa using hb
    obtain ⟨o, e, _⟩ := st3
    exact ⟨f3, Heap.lt_size e⟩)
  have st4 : ({ s3 with heap := pushCells (s3.heap.push { cls := .type "dict", data := .dict #[] }) scope.names } : Shared).heap.IsListIter it l 0 := st3.at fun o e => pushCells_keeps _ _ _ _ (Heap.get?_push_of_some _ e)
  have pg := hg s3 (upd H1 s2.heap.objs.size (.lst [])) s3.heap.objs.size (cellsFrom (s3.heap.objs.size + 1) scope.names (cloFrom X.env.cells scope.names [])) [it]
  have pt := ht s3 (upd H1 s2.heap.objs.size (.lst [])) s3.heap.objs.size (cellsFrom (s3.heap.objs.size + 1) scope.names (cloFrom X.env.cells scope.names [])) [it]
  have pe := he s3 (upd H1 s2.heap.objs.size (.lst [])) s3.heap.objs.size (cellsFrom (s3.heap.objs.size + 1) scope.names (cloFrom X.env.cells scope.names [])) [it]
  have cL : (compEnvC scope (cellsFrom (s3.heap.objs.size + 1) scope.names (cloFrom X.env.cells scope.names [])) s3.heap.objs.size X.env).locals = s3.heap.objs.size := rfl
  generalize compEnvC scope (cellsFrom (s3.heap.objs.size + 1) scope.names (cloFrom X.env.cells scope.names [])) s3.heap.objs.size X.env = ce at I4 pg pt pe cL ⊢
  generalize ({ s3 with heap := pushCells (s3.heap.push { cls := .type "dict", data := .dict #[] }) scope.names } : Shared) = s4 at I4 st4 ⊢
  generalize s2.heap.objs.size = D at hD p0 turn done f3 I3 I4 pg pt pe ⊢
  have loop : codeAny (model X.prog X.w) X.A (.compLoop (.ListComp elt [⟨tg, iter, ifs, 0⟩] scope pos) 0 (.ref it) (.ref D) ce) (compPost (model X.prog X.w) X.A X.xe none (EP X pins σ Q) (.ref D) s3.heap.objs.size) s4 := by
    refine compLoop_any (fun n s' => ∃ i H', n = xs.length - i ∧ i ≤ xs.length ∧ L2.Inv (X.blk s3 (upd H1 D (.lst [])) scope ce [it]) [] (wipe σ (own.map (·.2))) H' s' ∧ s'.heap.IsListIter it l i ∧ H' it = none ∧ P i H') ?_ xs.length ⟨0, _, rfl, Nat.zero_le _, I4, st4, f3.1, p0⟩
    rintro n s5 ⟨i, H5, rfl, hi5, I5, st5, n5, p5⟩
    obtain ⟨sq5, hot5⟩ := look i H5 hi5 p5
    obtain ⟨its5, rv5, pl5, _⟩ := I5.list sq5
    have fp5 : FpOk (X.blk s3 (upd H1 D (.lst [])) scope ce [it]) [] H5 it := ⟨n5, (I5.ok.exf it (by simp)).1, I5.ok.exfs it (by simp), .inl (by simp), fun x c e => (I5.ok.exf it (by simp)).2 x c e, fun p hp => absurd (show p ∈ ([] : List (Addr × Obj)) ++ [] from hp) (by simp)⟩
    obtain ⟨g0, g1, g2, g3, g4, g5⟩ := id fp5
    by_cases hlt : i < xs.length
    · -- an item
      obtain ⟨x, hx⟩ : ∃ x, xs[i]? = some x := ⟨xs[i], by simp [hlt]⟩
      obtain ⟨u, hu, ru⟩ := rv5.get hx
      refine wpAny_pyNext_list_item st5 pl5.isList (x := u) (by simpa using hu) fun h' st' sb => ?_
      have I6 := I5.turned (t' := s5.toks) (h' := h') (fun b o hb e => (sb.2 b hb).trans e) g0 g1 g3 g4 g5
      obtain ⟨o, e, cc, dd⟩ := id st'
      refine go_of (s := { s5 with heap := h' }) e cc dd (by decide) ?_
      have I7 := Inv.pinned (fp := [it]) I6 (fun b hb => by
        obtain rfl : b = it := by simpa using hb
        exact fp5) (fun b hb => by
        obtain rfl : b = it := by simpa using hb
        exact ⟨o, e, fun v z => by rw [dd] at z; cases z⟩)
      refine thnF (pg.run _ { s5 with heap := h' } _ H5 x u _ I7 ru (turn i x H5 hx p5)) fun _ s8 ⟨σ8, H8, I8, hw8, q8⟩ => ?_
      refine thnF (pt.run _ s8 σ8 H8 _ I8 q8) fun b s9 ⟨H9, I9, q9⟩ => ?_
      have fin : ∀ {s' : Shared} {H' : Hp}, L2.Inv (X.blk s3 (upd H1 D (.lst [])) scope ce [it]) ([] ++ pinsAt [it] h') σ8 H' s' → P (i + 1) H' → ∃ m, m < xs.length - i ∧ ∃ j H', m = xs.length - j ∧ j ≤ xs.length ∧ L2.Inv (X.blk s3 (upd H1 D (.lst [])) scope ce [it]) [] (wipe σ (own.map (·.2))) H' s' ∧ s'.heap.IsListIter it l j ∧ H' it = none ∧ P j H' := fun {s' H'} I' p' => by
        have pin := I'.pin (it, o) (List.mem_append_right _ (List.mem_append_right _ (mem_pinsAt (by simp) e)))
        have len8 : (wipe σ (own.map (·.2))).length = σ8.length := by rw [← hw8, wipe_length]
        exact ⟨xs.length - (i + 1), by omega, i + 1, H', rfl, hlt, (I'.unpinned (pins := [])).weak len8 (fun j v e => by rw [← hw8] at e; exact (wipe_some e).1), ⟨o, pin.1, cc, dd⟩, pin.2.1, p'⟩
      cases b with
      | false =>
        simp only [Bool.false_eq_true, if_false] at q9 ⊢
        exact fin I9 q9
      | true =>
        simp only [if_true] at q9 ⊢
        refine thnF (pe.run _ s9 σ8 H9 _ I9 q9) fun z s10 ⟨yv, H10, I10, r10, acc, hD10, hz10, nx⟩ => ?_
        exact app_ok (X := X.blk s3 (upd H1 D (.lst [])) scope ce [it]) I10 hD10 hz10 r10 fun s11 I11 => fin I11 nx
    · -- the end
      have ei : i = xs.length := by omega
      subst ei
      obtain ⟨x1, ux, hx1, gx1⟩ := HotH.at (X := X.blk s3 (upd H1 D (.lst [])) scope ce [it]) hot5 I5
      have len5 := rv5.length
      refine next_list_end_hot hx1 (fun z => by rw [z, n5] at gx1; cases gx1) st5 pl5.isList (by simp; omega) fun h' eb => ?_
      have I6 := I5.turned (t' := s5.toks) (h' := h') (fun b o hb e => eb b o hb e) g0 g1 g3 g4 g5
      have I7 : L2.Inv X pins σ H5 { s5 with heap := h' } := I3.call' (ch := [it]) I6.os I6.base I6.hok I6.bare fun b hb => by
        obtain rfl : b = it := by simpa using hb
        exact ⟨f3.2.2.2.1, f3.2.1, f3.2.2.2.2.1, f3.2.2.2.2.2⟩
      have nC : H5 s3.heap.objs.size = none := by
        have z : H5 ce.locals = none := I6.free
        rw [cL] at z
        exact z
      obtain ⟨m, hn, _⟩ := I6.loc
      have hn : h'.Ns ce.locals m := hn
      rw [cL] at hn
      obtain ⟨f0, f1, f2, f4, f5, f6⟩ := I3.fpOk (Nat.le_refl _) nC
      refine ⟨m, hn, fun h'' sb => ?_⟩
      exact ⟨.ref D, H5, I7.turned (t' := s5.toks) (fun b o hb e => (sb.2 b hb).trans e) f0 f1 f4 f5 f6, rfl, done H5 p5⟩
  exact codeAny_compStart_list loop (wpAny_pyIter_listiter st4 loop)
end
end Rq
set_option Elab.async false
set_option linter.all false
set_option maxRecDepth 100000
set_option maxHeartbeats 4000000
/-! Rq, part 73: judgements where an exception is handled; comprehensions over cells there; try with such a suite. -/
namespace Rq
open PySem PySem.Spec PyProof.Rows L2 HotX
/-- the handled exception is a tree's -/
def HotG (A : Around) (c : Cf) : Prop := ∃ x1 C dx : Addr, A.handled = some (.ref x1) ∧ c.G x1 = some (exv x1 C dx)
theorem HotG.mono {A : Around} {c c' : Cf} (h : HotG A c) (s : Step c c') : HotG A c' := by
  obtain ⟨x1, C, dx, h1, h2⟩ := h
  exact ⟨x1, C, dx, h1, s.ex _ _ h2⟩
theorem HotG.hot {A : Around} {K : PySem.W.Frag} {c : Cf} (h : HotG A c) (S : c.ok K) : HotH A c.H := by
  obtain ⟨x1, C, dx, h1, h2⟩ := h
  exact ⟨x1, C, dx, h1, S.ex _ _ h2⟩
def tEh (A : Around) (K : PySem.W.Frag) (W : WX) (f : EF) : TE := fun σ H Q => ∃ c sl, c.H = H ∧ c.ok K ∧ c.SlR K σ sl ∧ HotG A c ∧ Post K W c (RlD K) Q (f sl c.st)
def tAh (A : Around) (K : PySem.W.Frag) (W : WX) (f : AF) : TA := fun σ H Q => ∃ c sl, c.H = H ∧ c.ok K ∧ c.SlR K σ sl ∧ HotG A c ∧ Post K W c (RlA K) Q (f sl c.st)
def tSh (A : Around) (K : PySem.W.Frag) (W : WX) (F : SF) : TS := fun E σ H => ∃ c sl, c.H = H ∧ c.ok K ∧ c.SlR K σ sl ∧ HotG A c ∧ PostS K W c E (F sl c.st)
def PXh (X : Cx) (W : WX) (e : Expr) (f : EF) : Prop := PE X e (tEh X.A X.K W f)
def PXsh (X : Cx) (W : WX) (es : List Expr) (f : AF) : Prop := PA X es (tAh X.A X.K W f)
def PYh (X : Cx) (W : WX) (s : Stmt) (F : SF) : Prop := PS X s (tSh X.A X.K W F)
def PYsh (X : Cx) (W : WX) (s : List Stmt) (F : SF) : Prop := PSs X s (tSh X.A X.K W F)
section
variable {X : Cx} {W : WX} {e a b : Expr} {es : List Expr} {f g : EF} {gs : AF} {s : Stmt} {ss : List Stmt} {F F2 : SF} {pos : Pos}
theorem PX.h (p : PX X W e f) : PXh X W e f := pe_imp p fun σ H Q ⟨c, sl, e, S, L, _, P⟩ => ⟨c, sl, e, S, L, P⟩
theorem PXs.h (p : PXs X W es gs) : PXsh X W es gs := pa_imp p fun σ H Q ⟨c, sl, e, S, L, _, P⟩ => ⟨c, sl, e, S, L, P⟩
theorem PY.h (p : PY X W s F) : PYh X W s F := ps_imp p fun E σ H ⟨c, sl, e, S, L, _, P⟩ => ⟨c, sl, e, S, L, P⟩
theorem PYs.h (p : PYs X W ss F) : PYsh X W ss F := pss_imp p fun E σ H ⟨c, sl, e, S, L, _, P⟩ => ⟨c, sl, e, S, L, P⟩
theorem xsh_cons (ha : PXh X W e f) (hr : PXsh X W es gs) (hs : starEach (e :: es) X.env = (false, eval e X.env) :: starEach es X.env := by rfl) : PXsh X W (e :: es) (fCons f gs) := pa_imp (pa_cons ha hr hs) fun σ H Q w => by
  obtain ⟨c, sl, rfl, S, L, hot, P⟩ := w
  refine ⟨c, sl, rfl, S, L, hot, Post.bind P fun v d c1 s1 o1 r1 P1 => ?_⟩
  refine ⟨c1, sl, rfl, o1, s1.sl L, hot.mono s1, Post.bind P1 fun vs ds c2 s2 o2 r2 P2 => ?_⟩
  exact P2 (v :: vs) c2 (Step.refl _) o2 rfl (.cons (s2.dr r1) r2)
theorem xh_tup {x1} (h : PXsh X W es gs) : PXh X W (.Tuple es x1 pos) (fTup gs) := pe_imp (pe_tup h) fun σ H Q w => by
  obtain ⟨c, sl, rfl, S, L, hot, P⟩ := w
  refine ⟨c, sl, rfl, S, L, hot, Post.bind P fun vs ds c1 s1 o1 r1 P1 => ?_⟩
  split at P1
  · next z => exact ⟨by rw [r1.length]; exact szOk.le z, fun p hp => newTup o1 hp r1 P1⟩
  · exact P1.elim
theorem yh_ret (h : PXh X W e f) : PYh X W (.Return (some e) pos) (fRet f) := ps_imp (ps_ret h) fun E σ H w => by
  obtain ⟨c, sl, rfl, S, L, hot, P⟩ := w
  exact ⟨c, sl, rfl, S, L, hot, PostS.bind P fun v d c1 s1 o1 r1 P1 => P1 c1 (Step.refl _) o1 rfl v r1⟩
theorem yh_cons (h1 : PYh X W s F) (h2 : PYsh X W ss F2) : PYsh X W (s :: ss) (fSeq F F2) := pss_imp (pss_cons h1 h2) fun E σ H w => by
  obtain ⟨c, sl, rfl, S, L, hot, P⟩ := w
  refine ⟨c, sl, rfl, S, L, hot, ?_⟩
  unfold fSeq at P
  cases q : F sl c.st with
  | stuck => rw [q] at P; exact P
  | err C d sl' st' => rw [q] at P; exact P
  | ok fl st1 =>
    rw [q] at P
    intro c1 s1 o1 e1
    subst e1
    cases fl with
    | nx sl1 => exact fun σ1 L1 => ⟨c1, sl1, rfl, o1, L1, hot.mono s1, PostS.mono s1 P⟩
    | rt d => exact fun v r => P c1 s1 o1 rfl v r
    | bk sl1 => exact fun σ1 L1 => P c1 s1 o1 rfl σ1 L1
    | ct sl1 => exact fun σ1 L1 => P c1 s1 o1 rfl σ1 L1
/-! targets there -/
structure GTh (X : Cx) (tg : Expr) (ts : List Nat) (g : TG) (tf : TF) : Prop where
  pg : PG X tg g
  ok : ∀ (G H : Hp) as v d σ sl sl' (Q : L2.St → Hp → Prop), HotH X.A H → Ex G H → DR X.K G as v d → SlR X.K G as σ sl → tf d sl = some sl' → (∀ σ', SlR X.K G as σ' sl' → Only ts σ σ' → Q σ' H) → g v σ H Q
theorem GT.h {tg : Expr} {ts : List Nat} {g : TG} {tf : TF} (h : GT X tg ts g tf) : GTh X tg ts g tf := ⟨h.pg, fun G H as v d σ sl sl' Q _ => h.ok G H as v d σ sl sl' Q⟩
theorem gth_tup {es : List Expr} {k n : Nat} {ts : List Nat} {g : TGs} {u : TFs} (h : GTs X es ts g u) (hn : (assignEach es X.env).length = n := by rfl) (hst : (assignEach es X.env).findIdx? (·.1) = none := by rfl) : GTh X (.Tuple es k pos) ts (gTupH X.A X.K n g) (tTupT n u) := by
  obtain ⟨pg, hg⟩ := h
  refine ⟨pg_tupH pg hn hst, fun G H as v d σ sl sl' Q hot e r L q kk => ⟨hot, ?_⟩⟩
  cases r with
  | tup h1 h2 =>
    unfold tTupT at q
    dsimp only at q
    split at q
    · next hl => exact ⟨_, _, rfl, e.t h1, by rw [h2.length]; exact hl, hg G H as _ _ σ sl sl' Q e h2 L q kk⟩
    · cases q
  | _ => cases q
end
end Rq
set_option Elab.async false
set_option linter.all false
set_option maxRecDepth 100000
set_option maxHeartbeats 4000000
/-! Rq, part 74: a comprehension over a list cell and try, where an exception is handled. -/
namespace Rq
open PySem PySem.Spec PyProof.Rows L2 HotX
section
variable {X : Cx} {W : WX} {tg e elt : Expr} {ifs : List Expr} {scope : Scope} {pos : Pos} {f : EF} {tf : TF} {cf : CF} {el : EF} {ts : List Nat}
/-- the turns over the items vs0 of a list at a, whatever cell is hidden; at the end kk -/
theorem lc_runH {own : List (Str × Nat)} {g : TG} {tt : TT} {σ : L2.St} {c0 : Cf} {sl : SL} {Q : VK} {ds : List D} {a : Addr} {vs0 : List V} (o0 : c0.ok X.K) (L : c0.SlR X.K σ sl) (hot : HotG X.A c0) (hw : ∀ i ∈ ts, i ∈ own.map (·.2))
    (hg : ∀ (G H : Hp) as v d σ sl sl' (Q : L2.St → Hp → Prop), HotH X.A H → Ex G H → DR X.K G as v d → SlR X.K G as σ sl → tf d sl = some sl' → (∀ σ', SlR X.K G as σ' sl' → Only ts σ σ' → Q σ' H) → g v σ H Q)
    (ht : ∀ c σ sl (Q : Bool → Hp → Prop), c.ok X.K → c.SlR X.K σ sl → Post X.K W0 c (fun _ (b : Bool) (b' : Bool) => b = b') Q (cf sl c.st) → tt σ c.H Q)
    (keep : ∀ c', c'.ok X.K → Step c0 c' → SqL X.K c'.H a vs0) (hr0 : c0.DRs X.K vs0 ds) (hz : ds.length ≤ 1000000) (D : Addr) (hD : c0.H D = none)
    (P0 : ∃ ys st2, compF tf cf el (wipeD sl (own.map (·.2))) ds c0.st = .ok ys st2)
    (fin : ∀ c' vs ys, compF tf cf el (wipeD sl (own.map (·.2))) ds c0.st = .ok ys c'.st → c'.ok X.K → Step c0 c' → c'.H D = some (.lst vs) → ¬ Live c'.as c'.st D → c'.G D = none → c'.DRs X.K vs ys → Q (.ref D) c'.H) :
    ∃ P : Nat → Hp → Prop, P 0 (upd c0.H D (.lst [])) ∧ (∀ i H, i ≤ vs0.length → P i H → SqL X.K H a vs0 ∧ HotH X.A H) ∧
      (∀ i x H, vs0[i]? = some x → P i H → g x (wipe σ (own.map (·.2))) H fun σ2 H2 => wipe σ2 (own.map (·.2)) = wipe σ (own.map (·.2)) ∧ tt σ2 H2 fun b H3 =>
        if b = true then tE X.K W0 el σ2 H3 fun y H4 => ∃ acc, H4 D = some (.lst acc) ∧ acc.length < sizeLine ∧ P (i + 1) (upd H4 D (.lst (acc ++ [y]))) else P (i + 1) H3) ∧
      ∀ H, P vs0.length H → Q (.ref D) H := by
  have hlen := DRs.length hr0
  obtain ⟨ysA, stA, hA⟩ := P0
  refine ⟨fun i H' => ∃ c' vs ys zs, c'.H = H' ∧ c'.ok X.K ∧ Step c0 c' ∧ c'.H D = some (.lst vs) ∧ ¬ Live c'.as c'.st D ∧ c'.G D = none ∧ c'.DRs X.K vs ys ∧ vs.length ≤ i ∧ ysA = ys ++ zs ∧
    compF tf cf el (wipeD sl (own.map (·.2))) (ds.drop i) c'.st = .ok zs stA, ?_, ?_, ?_, ?_⟩
  · exact ⟨⟨c0.G, upd c0.H D (.lst []), c0.as, c0.st⟩, [], [], ysA, rfl, Cf.out o0 (not_live o0 hD) (o0.ex.free hD), (Step.refl _).out hD, upd_same, (not_live (c := c0) o0 hD :), o0.ex.free hD, .nil, Nat.le_refl _, by simp, by simpa using hA⟩
  · rintro i H' _ ⟨c', vs, ys, zs, rfl, o', s', _⟩
    exact ⟨keep c' o' s', (hot.mono s').hot o'⟩
  · rintro i x H' hx ⟨c', vs, ys, zs, rfl, o', s', hd1, hd2, hd3, r', hl, e1, P'⟩
    have hlt : i < ds.length := by rw [← hlen]; exact (List.getElem?_eq_some_iff.mp hx).1
    obtain ⟨d, hd, e⟩ := drop_cons hlt
    obtain ⟨v0, hv0, rv0⟩ := DRs.get hr0 i d hd
    rw [hv0] at hx; cases hx
    rw [e] at P'
    unfold compF at P'
    cases q : tf d (wipeD sl (own.map (·.2))) with
    | none => rw [q] at P'; cases P'
    | some sl1 =>
      rw [q] at P'
      dsimp only at P'
      refine hg c'.G c'.H c'.as x d (wipe σ (own.map (·.2))) _ sl1 _ ((hot.mono s').hot o') o'.ex (s'.dr rv0) (s'.sl (L.wipe _)) q ?_
      intro σ2 L2 on
      refine ⟨by rw [on.wipe hw, wipe_wipe], ?_⟩
      refine ht c' σ2 sl1 _ o' L2 ?_
      cases qc : cf sl1 c'.st with
      | stuck => rw [qc] at P'; cases P'
      | err C d sl st => rw [qc] at P'; cases P'
      | ok b st1 =>
        rw [qc] at P'
        intro b' c3 s3 o3 e3 hb
        subst hb
        subst e3
        obtain ⟨k4, k5, k6⟩ := s3.kq hd1 hd2 hd3
        cases b' with
        | false =>
          simp only [Bool.false_eq_true, if_false]
          exact ⟨c3, vs, ys, zs, rfl, o3, s'.trans s3, k4, k5, k6, s3.drs r', by omega, e1, P'⟩
        | true =>
          simp only [if_true]
          refine ⟨c3, sl1, rfl, o3, s3.sl L2, ?_⟩
          have P3 : (el sl1 c3.st).ne.bind (fun y st2 => (compF tf cf el (wipeD sl (own.map (·.2))) (ds.drop (i + 1)) st2).bind fun ys st3 => .ok (y :: ys) st3) = .ok zs stA := P'
          cases qe : el sl1 c3.st with
          | stuck => rw [qe] at P3; cases P3
          | err C d sl st => rw [qe] at P3; cases P3
          | ok yd st4 =>
            rw [qe] at P3
            intro v4 c4 s4 o4 e4 r4
            subst e4
            obtain ⟨k7, k8, k9⟩ := s4.kq k4 k5 k6
            have P4 : (compF tf cf el (wipeD sl (own.map (·.2))) (ds.drop (i + 1)) c4.st).bind (fun ys st3 => .ok (yd :: ys) st3) = .ok zs stA := P3
            cases qf : compF tf cf el (wipeD sl (own.map (·.2))) (ds.drop (i + 1)) c4.st with
            | stuck => rw [qf] at P4; cases P4
            | err C d sl st => rw [qf] at P4; cases P4
            | ok zs2 st5 =>
              rw [qf] at P4
              cases P4
              have hv : vs.length < ds.length := by omega
              refine ⟨vs, k7, Nat.lt_of_lt_of_le (Nat.lt_of_lt_of_le hv hz) (by decide), ?_⟩
              exact ⟨⟨c4.G, upd c4.H D (.lst (vs ++ [v4])), c4.as, c4.st⟩, vs ++ [v4], ys ++ [yd], zs2, rfl, Cf.out o4 k8 k9, ((s'.trans s3).trans s4).out hD, upd_same, k8, k9, DRs.app (s4.drs (s3.drs r')) (.cons r4 .nil), by simp; omega, by simpa using e1, qf⟩
  · rintro H' ⟨c', vs, ys, zs, rfl, o', s', hd1, hd2, hd3, r', hl, e1, P'⟩
    rw [hlen, List.drop_length] at P'
    unfold compF at P'
    cases P'
    rw [List.append_nil] at e1
    subst e1
    exact fin c' vs _ hA o' s' hd1 hd2 hd3 r'
theorem compF_ok {slw : SL} : ∀ (ds : List D) (st : ST) {C : Str} {x : D} {s1 : SL} {s2 : ST}, compF tf cf el slw ds st ≠ .err C x s1 s2
  | [], st, C, x, s1, s2 => fun h => by unfold compF at h; cases h
  | d :: r, st, C, x, s1, s2 => fun h => by
    unfold compF at h
    cases q : tf d slw with
    | none => rw [q] at h; cases h
    | some sl1 =>
      rw [q] at h
      dsimp only at h
      cases qc : cf sl1 st with
      | stuck => rw [qc] at h; cases h
      | err C d sl st => rw [qc] at h; cases h
      | ok b st1 =>
        rw [qc] at h
        cases b with
        | false => exact compF_ok r st1 h
        | true =>
          have h : (el sl1 st1).ne.bind (fun y st2 => (compF tf cf el slw r st2).bind fun ys st3 => .ok (y :: ys) st3) = .err C x s1 s2 := h
          cases qe : el sl1 st1 with
          | stuck => rw [qe] at h; cases h
          | err C d sl st => rw [qe] at h; cases h
          | ok yd st4 =>
            rw [qe] at h
            have h : (compF tf cf el slw r st4).bind (fun ys st3 => .ok (yd :: ys) st3) = .err C x s1 s2 := h
            cases qf : compF tf cf el slw r st4 with
            | stuck => rw [qf] at h; cases h
            | ok a b => rw [qf] at h; cases h
            | err C d sl st => exact compF_ok r st4 qf
def fLcH (kk : List D → ST → Res D) (f : EF) (tf : TF) (cf : CF) (el : EF) (vs : List Nat) : EF := fun sl st => (f sl st).bind fun d st1 => match d with
  | .cel k => match st1[k]? with
    | some (some (.lst ds)) => if szOk ds.length then (compF tf cf el (wipeD sl vs) ds (st1.set k none)).bind fun ys st2 => kk ys (st2.set k (some (.lst ds))) else .stuck
    | _ => .stuck
  | .lst ds => if szOk ds.length then (compF tf cf el (wipeD sl vs) ds st1).bind kk else .stuck
  | .lsr ds => if szOk ds.length then (compF tf cf el (wipeD sl vs) ds st1).bind kk else .stuck
  | _ => .stuck
/-- [elt for tg in a list if ..], there -/
theorem xh_lc {own : List (Str × Nat)} {g : TG} {tt : TT} {kk : List D → ST → Res D} (T : ∀ Q, Told X.K W Q kk) (hN : X.N.Nodup) (hi : PX X W e f) (ok : BlkOk X.N X.env.scope scope own)
    (hg : ∀ (s : Shared) (H : Hp) (C : Addr) (cl : List (Str × Addr)) (fp : List Addr), GTh (X.blk s H scope (compEnvC scope cl C X.env) fp) tg ts g tf) (hw : ∀ i ∈ ts, i ∈ own.map (·.2))
    (ht : ∀ (s : Shared) (H : Hp) (C : Addr) (cl : List (Str × Addr)) (fp : List Addr), XTs (X.blk s H scope (compEnvC scope cl C X.env) fp) ifs tt cf)
    (he : ∀ (s : Shared) (H : Hp) (C : Addr) (cl : List (Str × Addr)) (fp : List Addr), PX (X.blk s H scope (compEnvC scope cl C X.env) fp) W0 elt el) (hs : ∀ x, foldedSetIterable e X.env x = pure x := by intro _; rfl) :
    PXh X W (.ListComp elt [⟨tg, e, ifs, 0⟩] scope pos) (fLcH kk f tf cf el (own.map (·.2))) :=
  pe_imp (pe_lcH (te := tE X.K W0 el) hN hi ok (fun s H C cl fp => (hg s H C cl fp).pg) (fun s H C cl fp => (ht s H C cl fp).pt) (fun s H C cl fp => he s H C cl fp) hs) fun σ H Q w => by
    obtain ⟨c, sl, rfl, S, L, hot, P⟩ := w
    have hg0 := (hg X.s_0 X.H_0 0 [] []).ok
    have ht0 := (ht X.s_0 X.H_0 0 [] []).ok
    refine ⟨c, sl, rfl, S, L, Post.bind P fun v d c1 s1 o1 r1 P1 => ?_⟩
    have tree : ∀ (a : Addr) (ds : List D) (vs0 : List V), v = .ref a → SqL X.K c1.G a vs0 → c1.DRs X.K vs0 ds → Post X.K W c1 (RlD X.K) Q (if szOk ds.length then (compF tf cf el (wipeD sl (own.map (·.2))) ds c1.st).bind kk else .stuck) →
        ∃ (l : Addr) (xs : List V), v = .ref l ∧ SqL X.K c1.H l xs ∧ ∀ D, c1.H D = none → ∃ P : Nat → Hp → Prop, P 0 (upd c1.H D (.lst [])) ∧ (∀ i H, i ≤ xs.length → P i H → SqL X.K H l xs ∧ HotH X.A H) ∧
          (∀ i x H, xs[i]? = some x → P i H → g x (wipe σ (own.map (·.2))) H fun σ2 H2 => wipe σ2 (own.map (·.2)) = wipe σ (own.map (·.2)) ∧ tt σ2 H2 fun b H3 =>
            if b = true then tE X.K W0 el σ2 H3 fun y H4 => ∃ acc, H4 D = some (.lst acc) ∧ acc.length < sizeLine ∧ P (i + 1) (upd H4 D (.lst (acc ++ [y]))) else P (i + 1) H3) ∧
          ∀ H, P xs.length H → Q (.ref D) H := fun a ds vs0 ev hq hr P1 => by
      by_cases hz : szOk ds.length = true
      case neg => rw [if_neg hz] at P1; exact P1.elim
      rw [if_pos hz] at P1
      refine ⟨a, vs0, ev, o1.ex.l hq, fun D hD => ?_⟩
      cases hA : compF tf cf el (wipeD sl (own.map (·.2))) ds c1.st with
      | stuck => rw [hA] at P1; exact P1.elim
      | err C d sl st => exact absurd hA (compF_ok _ _)
      | ok ys st2 =>
        refine lc_runH (c0 := c1) o1 (s1.sl L) (hot.mono s1) hw hg0 ht0 (fun c' o' s' => o'.ex.l (s'.ex.l hq)) hr (of_decide_eq_true hz) D hD ⟨ys, st2, hA⟩ fun c' vs ys' hA' o' s' h1 h2 h3 r' => ?_
        rw [hA'] at P1
        exact T Q c1 c' D vs ys' hD s' o' h1 h2 h3 r' P1
    split at P1
    · next k =>
      split at P1
      case h_2 => exact P1.elim
      case h_1 ds hk =>
      by_cases hz : szOk ds.length = true
      case neg => rw [if_neg hz] at P1; exact P1.elim
      rw [if_pos hz] at P1
      obtain ⟨a, ha, hGa, vs0, hHa, hr0⟩ := o1.cell k _ hk
      cases r1 with
      | cel h5 =>
      rw [ha] at h5; cases h5
      refine ⟨a, vs0, rfl, sqOf hHa, fun D hD => ?_⟩
      have o0 : Cf.ok X.K ⟨c1.G, c1.H, c1.as, c1.st.set k none⟩ := SRel.forget o1
      have l0 : ¬ Live c1.as (c1.st.set k none) a := Cf.hidden o1 hk ha
      have neD : D ≠ a := fun z => by rw [z, hHa] at hD; cases hD
      cases hA : compF tf cf el (wipeD sl (own.map (·.2))) ds (c1.st.set k none) with
      | stuck => rw [hA] at P1; exact P1.elim
      | err C d sl st => exact absurd hA (compF_ok _ _)
      | ok ys st2 =>
        refine lc_runH (c0 := ⟨c1.G, c1.H, c1.as, c1.st.set k none⟩) o0 (s1.sl L) (show HotG X.A ⟨c1.G, c1.H, c1.as, c1.st.set k none⟩ from (hot.mono s1 : HotG X.A c1)) hw hg0 ht0 (fun c' o' s' => sqOf (s'.kq (a := a) hHa l0 hGa).1) hr0 (of_decide_eq_true hz) D hD ⟨ys, st2, hA⟩ fun c' vs ys' hA' o' s' hd1 hd2 hd3 r' => ?_
        rw [hA'] at P1
        obtain ⟨j1, j2, j3⟩ := s'.kq (a := a) hHa l0 hGa
        have ha' : c'.as[k]? = some a := s'.pf k a ha
        have ob := Cf.back (k := k) o' ha' j2 j3 j1 (s'.drs (c := ⟨c1.G, c1.H, c1.as, c1.st.set k none⟩) hr0)
        have sb : Step c1 ⟨c'.G, c'.H, c'.as, c'.st.set k (some (.lst ds))⟩ := Step.back s' hk ha
        refine T Q c1 ⟨c'.G, c'.H, c'.as, c'.st.set k (some (.lst ds))⟩ D vs ys' hD sb ob hd1 (fun ⟨j, e, z1, z2⟩ => ?_) hd3 r' P1
        by_cases h : k = j
        · subst h
          have z2 : c'.as[k]? = some D := z2
          rw [ha'] at z2; cases z2
          exact neD rfl
        · have z1 : (c'.st.set k (some (.lst ds)))[j]? = some (some e) := z1
          rw [List.getElem?_set_ne h] at z1
          exact hd2 ⟨j, e, z1, z2⟩
    · next ds =>
      cases r1 with
      | lst h1 h2 => exact tree _ ds _ rfl (sqOf h1) h2 P1
    · next ds =>
      cases r1 with
      | lsr h1 h2 => exact tree _ ds _ rfl h1 h2 P1
    · exact P1.elim
end
/-! ### try with a suite that makes comprehensions -/
section
variable {X : Cx} {W : WX} {n : Str} {i : Nat} {body suite : List Stmt} {b₀ : Stmt} {np pos pos' : Pos} {F S : SF} {EL : List Str} {CQ : Addr}
theorem y_tryH (i : Nat) (hs : X.stack = X.env :: X.outer) (hf : X.env.frame = some X.env.locals) (hex : X.ex = []) (q : Errs X.K X.mg EL CQ) (hN : X.N.Nodup)
    (hb : ∀ (W' : WX) (pn : List (Addr × Obj)) (xe : Value → Shared → Prop), L2N.Takes (X.tr pn xe) W' → PassesOwn (model X.prog X.w) X.A X.env xe → PYs (X.tr pn xe) W' body F)
    (hsu : ∀ (a : Addr) (pn : List (Addr × Obj)), PYsh (X.suite a pn) W0 (b₀ :: suite) S) (hi : X.N[i]? = some n := by rfl) (hln : X.env.kindOf n = some .local := by rfl) (hg : Gl X "QueueError" := by rfl) :
    PY X W (.Try body [.ExceptHandler (some (.Name "QueueError" np)) (some n) (b₀ :: suite) pos'] [] [] pos) (fTry EL i F S) := by
  refine ps_imp (ps_tryT (c := .ref CQ) (tb := fun W' => tS X.K W' F) (ts := fun a => tSh (X.A.mark (some (.ref a))) X.K W0 S) hs hf hex hN hi hln ⟨hg, by decide, .inl q.gq⟩ (fun W' pn xe tk hp => hb W' pn xe tk hp) (fun a pn => hsu a pn)) fun D σ H w => ?_
  obtain ⟨c, sl, rfl, S0, L, P⟩ := w
  refine ⟨c, sl, rfl, S0, L, ?_⟩
  unfold fTry at P
  cases hq : F sl c.st with
  | stuck => rw [hq] at P; exact P
  | ok fl st1 => rw [hq] at P; exact P
  | err x d sl1 st1 =>
    rw [hq] at P
    dsimp only at P
    split at P
    · next hx =>
      have hx := List.contains_iff_mem.mp hx
      intro C c' dx v σ' hC s1 o1 e1 l1 g1 r1
      subst e1
      refine ⟨C, dx, rfl, rfl, q.q x hx C hC, fun a ha => ?_⟩
      obtain ⟨o2, s2⟩ := Cf.fix (p := a) (o := exv a C dx) o1 ha
      refine ⟨_, sl1.set i (some (.exc x d)), rfl, o2, (s2.sl l1).set (.exc hC upd_same (s2.ex _ _ g1) (s2.dr r1)) i, ⟨a, C, dx, rfl, upd_same⟩, ?_⟩
      have P2 : PostS X.K W c' D (dropS i (S (sl1.set i (some (.exc x d))) c'.st)) := PostS.mono s1 P
      have P3 := PostS.mono s2 P2
      show PostS X.K W0 _ (dropN i D) (S (sl1.set i (some (.exc x d))) c'.st)
      cases hS : S (sl1.set i (some (.exc x d))) c'.st with
      | stuck => rw [hS] at P3; exact P3
      | err x2 d2 sl2 st2 => rw [hS] at P3; exact P3.elim
      | ok fl st2 =>
        rw [hS] at P3
        cases fl with
        | nx sl2 => exact fun c3 s3 o3 e3 σ3 l3 => P3 c3 s3 o3 e3 _ (l3.unset i)
        | bk sl2 => exact fun c3 s3 o3 e3 σ3 l3 => P3 c3 s3 o3 e3 _ (l3.unset i)
        | ct sl2 => exact fun c3 s3 o3 e3 σ3 l3 => P3 c3 s3 o3 e3 _ (l3.unset i)
        | rt d2 => exact fun c3 s3 o3 e3 v3 r3 => P3 c3 s3 o3 e3 v3 r3
    · exact P.elim
end
end Rq
set_option Elab.async false
set_option linter.all false
set_option maxRecDepth 100000
set_option maxHeartbeats 4000000
/-! Rq, part 75: more where an exception is handled; blindness of comprehensions there. -/
namespace Rq
open PySem PySem.Spec PyProof.Rows L2
section
variable {X : Cx} {W : WX} {s : Stmt} {F : SF}
theorem yh_one (h1 : PYh X W s F) : PYsh X W [s] F := pss_one h1
end
theorem eb_lcH {kk : List D → ST → Res D} {f : EF} {tf : TF} {cf : CF} {el : EF} {vs : List Nat} (hi : EB f) (ht : TB tf) (hc : CB cf) (he : EB el) (hv : ∀ i ∈ vs, 0 < i := by decide) : EB (fLcH kk f tf cf el vs) := fun v v' t st => by
  unfold fLcH
  rw [ne_bind, ne_bind, hi v v' t st]
  congr 1
  funext d s
  obtain ⟨t', hw⟩ := wipe_b vs t hv
  split
  · split
    · split
      · rw [hw v, hw v', ne_bind, ne_bind, comp_b ht hc he v v' t' _ _]
      · rfl
    · rfl
  · split
    · rw [hw v, hw v', ne_bind, ne_bind, comp_b ht hc he v v' t' _ _]
    · rfl
  · split
    · rw [hw v, hw v', ne_bind, ne_bind, comp_b ht hc he v v' t' _ _]
    · rfl
  · rfl
end Rq
set_option Elab.async false
set_option linter.all false
set_option maxRecDepth 100000
set_option maxHeartbeats 4000000
/-! Rq, part 76: a tuple of the module, told by a check. -/
namespace Rq
open PySem PySem.Spec PyProof.Rows L2
def mtB : List Value → List D → Bool
  | [], [] => true
  | .str x _ :: r, .str y :: s => x == y && mtB r s
  | .int i _ :: r, .int j :: s => i == j && mtB r s
  | _, _ => false
def tupB (K : PySem.W.Frag) (a : Addr) (ds : List D) : Bool := match K.lookup a with
  | some ⟨.type n, _, .seq its _, _⟩ => n == "tuple" && decide (its.size ≤ 1000) && mtB its.toList ds
  | _ => false
theorem mtB_ok {K : PySem.W.Frag} : ∀ {us : List Value} {ds : List D}, mtB us ds = true → ∃ vs : List V, Vals vs us ∧ ∀ (G : Hp) (as : List Addr), DRs K G as vs ds
  | [], [], _ => ⟨[], .nil, fun _ _ => .nil⟩
  | .str x t :: r, .str y :: s, h => by
    unfold mtB at h
    obtain ⟨h1, h2⟩ := Bool.and_eq_true_iff.mp h
    obtain ⟨vs, q1, q2⟩ := mtB_ok (K := K) h2
    have e : x = y := by simpa using h1
    subst e
    exact ⟨.str x :: vs, .cons ⟨t, rfl⟩ q1, fun G as => .cons (.str x) (q2 G as)⟩
  | .int i t :: r, .int j :: s, h => by
    unfold mtB at h
    obtain ⟨h1, h2⟩ := Bool.and_eq_true_iff.mp h
    obtain ⟨vs, q1, q2⟩ := mtB_ok (K := K) h2
    have e : i = j := by simpa using h1
    subst e
    exact ⟨.int i :: vs, .cons ⟨t, rfl⟩ q1, fun G as => .cons (.int i) (q2 G as)⟩
theorem tupB_ok {K : PySem.W.Frag} {mg : Str → Option Value} {x : Str} {a : Addr} {ds : List D} (h : mg x = some (.ref a)) (hb : tupB K a ds = true) : GTup K mg x ds := by
  unfold tupB at hb
  split at hb
  · next n od its m sl hl =>
    obtain ⟨h12, h3⟩ := Bool.and_eq_true_iff.mp hb
    obtain ⟨h1, h2⟩ := Bool.and_eq_true_iff.mp h12
    obtain ⟨vs, q1, q2⟩ := mtB_ok (K := K) h3
    have e : n = "tuple" := by simpa using h1
    subst e
    exact ⟨a, _, its, m, vs, h, hl, rfl, rfl, Nat.le_trans (of_decide_eq_true h2) (by decide), q1, q2⟩
  · cases hb
end Rq
set_option Elab.async false
set_option linter.all false
set_option maxRecDepth 100000
set_option maxHeartbeats 4000000
namespace K36
open PySem PySem.Spec PyProof.Rows L2 Rq
def top (i : Nat) : Stmt := PySem.Challenge.pw_roadqueues_k36_putters_refused.main.body.getD i (.Pass ⟨0, 0, 0, 0⟩)
def inTop (i j : Nat) : Stmt := match top i with
  | .ClassDef _ _ _ body _ _ _ _ _ _ _ => body.getD j (.Pass ⟨0, 0, 0, 0⟩)
  | s => s
structure Mg (mg : Str → Option Value) : Prop where
  n_abs : mg "abs" = none
  n_all : mg "all" = none
  n_bool : mg "bool" = none
  n_enumerate : mg "enumerate" = none
  n_int : mg "int" = none
  n_isinstance : mg "isinstance" = none
  n_len : mg "len" = none
  n_list : mg "list" = none
  n_max : mg "max" = none
  n_min : mg "min" = none
  n_range : mg "range" = none
  n_repr : mg "repr" = none
  n_str : mg "str" = none
  n_sum : mg "sum" = none
  n_tuple : mg "tuple" = none
  n_zip : mg "zip" = none
  g_GREATEST_BURST : ∃ t, mg "GREATEST_BURST" = some (.int 50 t)
  g_GREATEST_GOAL : ∃ t, mg "GREATEST_GOAL" = some (.int 400 t)
  g_GREATEST_Q : ∃ t, mg "GREATEST_Q" = some (.int 100 t)
  g_LEAST_GOAL : ∃ t, mg "LEAST_GOAL" = some (.int 100 t)
structure WebF (K : PySem.W.Frag) (CW : Addr) : Prop where
  cls : Cls K CW
  n_ends : NoAttr K CW "ends"
  n_places : NoAttr K CW "places"
  n_roads : NoAttr K CW "roads"
  n_text : NoAttr K CW "text"
theorem hu200 {A : Around} {k : Nat} (h : Room k A) : A.units + 200 < cLine := by have := h.un; omega
def EL : List Str := ["BadNumber", "BadRate", "BadRule", "TooSlow"]
abbrev s__law_pot : Stmt := top 50
abbrev N__law_pot : List Str := ["script", "place", "cell", "own", "small"]
theorem sc__law_pot : FnScope N__law_pot ["script", "place"] (defScope s__law_pot) := ⟨rfl, rfl, rfl, by decide +kernel, rfl, by decide +kernel, by decide +kernel⟩
def B__law_pot (CW : Addr) : SF := (fSeq (fSet 2 (fIfE (f2 zLt (fVar 1) (fA zLen (fCons (fVar 0) fNil))) (f2 zSub2 (fVar 0) (fVar 1)) (f2 zAdd (f2 zAdd (f2 zMod (fA zSum (fCons (fSl (fVar 0) oNone (oSome (fC (.int 1)))) fNil)) (fC (.int 1000003))) (f2 zMul (fC (.int 1141)) (fVar 1))) (fC (.int 533)))))
  (fSeq (fSet 3 (f2 zMul (f2 zMod (fA zInt (fCons (fA zAbs (fCons (fVar 2) fNil)) fNil)) (f2 zPow (f2 zPow (fC (.int 10)) (fC (.int 60))) (fC (.int 5)))) (fA zInt (fCons (f2 zGe (fA zAbs (fCons (fVar 2) fNil)) (f2 zPow (fC (.int 10)) (fC (.int 18)))) fNil))))
  (fSeq (fSet 4 (f2 zMod (fA zInt (fCons (fVar 2) fNil)) (fC (.int 2305843009213693951))))
  (fRet (fNew (fCons (fVar 3) (fCons (f2 zMod (fA zInt (fCons (f2 zAdd (f2 zAdd (f2 zMul (fVar 4) (fC (.int 73205))) (f2 zMul (f2 zMul (fC (.int 8111)) (fVar 1)) (fVar 1))) (fC (.int 484))) fNil)) (fC (.int 2305843009213693921))) (fCons (fC (.int 0)) fNil))))))))
def D__law_pot (CW : Addr) : DF := fun ds st => (bodyF 5 (B__law_pot CW) ds st).ne
theorem ok__law_pot {P : Program} {w : World} {K : PySem.W.Frag} {mg : Str → Option Value} {base : Heap} {CW : Addr} (M : Mg mg) (cW : WebF K CW) (T : At K mg "_law_pot" s__law_pot)  : Df P w K mg base "_law_pot" 1 2 (D__law_pot CW) :=
  df_of T sc__law_pot rfl (fun _ _ _ _ _ _ us hl => match us, hl with | [_, _], _ => rfl) fun fa cdv A outer s H E gd hr =>
  (y_cons (y_set 2 sc__law_pot.nd (xt_ifE (xt_lt (xv 1) (x_bltn call_len zLen_ok M.n_len boot_len (xs_cons (xv 0) xs_nil))) (x_sub2 (hu_of hr) (xv 0) (xv 1)) (x_add (x_add (x_mod (x_bltn (cr_sum rfl) zSum_ok M.n_sum PyProof.Rows.boot_sum (xs_cons (x_sl (xv 0) xo_none (xo_some x_int)) xs_nil)) x_int) (x_mul x_int (xv 1))) x_int)))
  (y_cons (y_set 3 sc__law_pot.nd (x_mul (x_mod (x_type call_int1 zInt_ok M.n_int PyProof.Rows.boot_int (xs_cons (x_bltn call_abs zAbs_ok M.n_abs PyProof.Rows.boot_abs (xs_cons (xv 2) xs_nil)) xs_nil)) (x_pow (x_pow x_int x_int) x_int)) (x_type call_int1 zInt_ok M.n_int PyProof.Rows.boot_int (xs_cons (x_ge (x_bltn call_abs zAbs_ok M.n_abs PyProof.Rows.boot_abs (xs_cons (xv 2) xs_nil)) (x_pow x_int x_int)) xs_nil))))
  (y_cons (y_set 4 sc__law_pot.nd (x_mod (x_type call_int1 zInt_ok M.n_int PyProof.Rows.boot_int (xs_cons (xv 2) xs_nil)) x_int))
  (y_one (y_ret (x_new (xs_cons (xv 3) (xs_cons (x_mod (x_type call_int1 zInt_ok M.n_int PyProof.Rows.boot_int (xs_cons (x_add (x_add (x_mul (xv 4) x_int) (x_mul (x_mul x_int (xv 1)) (xv 1))) x_int) xs_nil)) x_int) (xs_cons x_int xs_nil)))))))))

abbrev s__law_take : Stmt := top 51
abbrev N__law_take : List Str := ["pot", "upto", "prime", "blend", "digit"]
theorem sc__law_take : FnScope N__law_take ["pot", "upto"] (defScope s__law_take) := ⟨rfl, rfl, rfl, by decide +kernel, rfl, by decide +kernel, by decide +kernel⟩
def B__law_take (CW : Addr) : SF := (fSeq (fIf (f2 zGt (f2 zSub2 (fVar 0) (fC (.int 0))) (fC (.int 0))) (fSeq (fSet 4 (f2 zMod (fA zInt (fCons (f2 zSub2 (fVar 0) (fC (.int 0))) fNil)) (fVar 1)))
  (fSeq (fSetIx (fVar 0) (fC (.int 0)) (f2 zDiv (f2 zSub2 (fVar 0) (fC (.int 0))) (fVar 1)))
  (fRet (fVar 4)))) fNext)
  (fSeq (fSetIx (fVar 0) (fC (.int 2)) (f2 zAdd (f2 zSub2 (fVar 0) (fC (.int 2))) (fC (.int 1))))
  (fSeq (fSet 2 (f2 zSub2 (fLst (fCons (fC (.int 2147483647)) (fCons (fC (.int 2147483629)) (fCons (fC (.int 2147483587)) (fCons (fC (.int 2147483579)) (fCons (fC (.int 2147483563)) fNil)))))) (f2 zMod (fA zInt (fCons (f2 zSub2 (fVar 0) (fC (.int 2))) fNil)) (fC (.int 5)))))
  (fSeq (fSet 3 (f2 zMod (fA zInt (fCons (f2 zPow (fA zInt (fCons (f2 zAdd (f2 zAdd (f2 zSub2 (fVar 0) (fC (.int 1))) (f2 zMul (f2 zMul (fC (.int 98303)) (f2 zSub2 (fVar 0) (fC (.int 2)))) (f2 zSub2 (fVar 0) (fC (.int 2))))) (fC (.int 469))) fNil)) (fC (.int 3))) fNil)) (fVar 2)))
  (fSeq (fSet 3 (f2 zMod (fA zInt (fCons (f2 zMul (fVar 3) (f2 zAdd (f2 zMod (fA zInt (fCons (fVar 3) fNil)) (fC (.int 10009))) (f2 zMul (fC (.int 89)) (f2 zSub2 (fVar 0) (fC (.int 2)))))) fNil)) (fC (.int 2305843009213693907))))
  (fRet (f2 zMod (fA zInt (fCons (f2 zDiv (fVar 3) (fC (.int 173))) fNil)) (fVar 1))))))))
def D__law_take (CW : Addr) : DF := fun ds st => (bodyF 5 (B__law_take CW) ds st).ne
theorem ok__law_take {P : Program} {w : World} {K : PySem.W.Frag} {mg : Str → Option Value} {base : Heap} {CW : Addr} (M : Mg mg) (cW : WebF K CW) (T : At K mg "_law_take" s__law_take)  : Df P w K mg base "_law_take" 1 2 (D__law_take CW) :=
  df_of T sc__law_take rfl (fun _ _ _ _ _ _ us hl => match us, hl with | [_, _], _ => rfl) fun fa cdv A outer s H E gd hr =>
  (y_cons (yt_if (xt_gt (x_sub2 (hu_of hr) (xv 0) x_int) x_int)
  (y_cons (y_set 4 sc__law_take.nd (x_mod (x_type call_int1 zInt_ok M.n_int PyProof.Rows.boot_int (xs_cons (x_sub2 (hu_of hr) (xv 0) x_int) xs_nil)) (xv 1)))
  (y_cons (y_setIx (x_div (x_sub2 (hu_of hr) (xv 0) x_int) (xv 1)) (xv 0) x_int)
  (y_one (y_ret (xv 4)))))
  y_nil)
  (y_cons (y_setIx (x_add (x_sub2 (hu_of hr) (xv 0) x_int) x_int) (xv 0) x_int)
  (y_cons (y_set 2 sc__law_take.nd (x_sub2 (hu_of hr) (x_lst (xs_cons x_int (xs_cons x_int (xs_cons x_int (xs_cons x_int (xs_cons x_int xs_nil)))))) (x_mod (x_type call_int1 zInt_ok M.n_int PyProof.Rows.boot_int (xs_cons (x_sub2 (hu_of hr) (xv 0) x_int) xs_nil)) x_int)))
  (y_cons (y_set 3 sc__law_take.nd (x_mod (x_type call_int1 zInt_ok M.n_int PyProof.Rows.boot_int (xs_cons (x_pow (x_type call_int1 zInt_ok M.n_int PyProof.Rows.boot_int (xs_cons (x_add (x_add (x_sub2 (hu_of hr) (xv 0) x_int) (x_mul (x_mul x_int (x_sub2 (hu_of hr) (xv 0) x_int)) (x_sub2 (hu_of hr) (xv 0) x_int))) x_int) xs_nil)) x_int) xs_nil)) (xv 2)))
  (y_cons (y_set 3 sc__law_take.nd (x_mod (x_type call_int1 zInt_ok M.n_int PyProof.Rows.boot_int (xs_cons (x_mul (xv 3) (x_add (x_mod (x_type call_int1 zInt_ok M.n_int PyProof.Rows.boot_int (xs_cons (xv 3) xs_nil)) x_int) (x_mul x_int (x_sub2 (hu_of hr) (xv 0) x_int)))) xs_nil)) x_int))
  (y_one (y_ret (x_mod (x_type call_int1 zInt_ok M.n_int PyProof.Rows.boot_int (xs_cons (x_div (xv 3) x_int) xs_nil)) (xv 1)))))))))

abbrev s__law_of : Stmt := top 52
abbrev N__law_of : List Str := ["pot", "some"]
theorem sc__law_of : FnScope N__law_of ["pot", "some"] (defScope s__law_of) := ⟨rfl, rfl, rfl, by decide +kernel, rfl, by decide +kernel, by decide +kernel⟩
def B__law_of (CW : Addr) : SF := (fRet (f2 zSub2 (fVar 1) (fCall0 2 (D__law_take CW) (fCons (fVar 0) (fCons (fA zLen (fCons (fVar 1) fNil)) fNil)))))
def D__law_of (CW : Addr) : DF := fun ds st => (bodyF 2 (B__law_of CW) ds st).ne
theorem ok__law_of {P : Program} {w : World} {K : PySem.W.Frag} {mg : Str → Option Value} {base : Heap} {CW : Addr} (M : Mg mg) (cW : WebF K CW) (T : At K mg "_law_of" s__law_of) (d__law_take : Df P w K mg base "_law_take" 1 2 (D__law_take CW)) : Df P w K mg base "_law_of" 2 2 (D__law_of CW) :=
  df_of T sc__law_of rfl (fun _ _ _ _ _ _ us hl => match us, hl with | [_, _], _ => rfl) fun fa cdv A outer s H E gd hr =>
  (y_one (y_ret (x_sub2 (hu_of hr) (xv 1) (x_def d__law_take gd hr (by decide) (xs_cons (xv 0) (xs_cons (x_bltn call_len zLen_ok M.n_len boot_len (xs_cons (xv 1) xs_nil)) xs_nil))))))

abbrev s__law_cells : Stmt := top 53
abbrev N__law_cells : List Str := ["script", "most"]
theorem sc__law_cells : FnScope N__law_cells ["script", "most"] (defScope s__law_cells) := ⟨rfl, rfl, rfl, by decide +kernel, rfl, by decide +kernel, by decide +kernel⟩
def B__law_cells (CW : Addr) : SF := (fRet (fListRg (fA zMax2 (fCons (fC (.int 1)) (fCons (fA zMin2 (fCons (fVar 1) (fCons (fA zLen (fCons (fVar 0) fNil)) fNil))) fNil)))))
def D__law_cells (CW : Addr) : DF := fun ds st => (bodyF 2 (B__law_cells CW) ds st).ne
theorem ok__law_cells {P : Program} {w : World} {K : PySem.W.Frag} {mg : Str → Option Value} {base : Heap} {CW : Addr} (M : Mg mg) (cW : WebF K CW) (T : At K mg "_law_cells" s__law_cells)  : Df P w K mg base "_law_cells" 1 2 (D__law_cells CW) :=
  df_of T sc__law_cells rfl (fun _ _ _ _ _ _ us hl => match us, hl with | [_, _], _ => rfl) fun fa cdv A outer s H E gd hr =>
  (y_one (y_ret (x_listRg rfl M.n_list M.n_range (x_bltn (call_max2 rfl) zMax2_ok M.n_max PyProof.Rows.boot_max (xs_cons x_int (xs_cons (x_bltn (call_min2 rfl) zMin2_ok M.n_min PyProof.Rows.boot_min (xs_cons (xv 1) (xs_cons (x_bltn call_len zLen_ok M.n_len boot_len (xs_cons (xv 0) xs_nil)) xs_nil))) xs_nil))))))

abbrev s__law_caught : Stmt := top 54
abbrev N__law_caught : List Str := ["call", "error", "words", "word", "is_so"]
theorem sc__law_caught : FnScope N__law_caught ["call"] (defScope s__law_caught) := ⟨rfl, rfl, rfl, by decide +kernel, rfl, by decide +kernel, by decide +kernel⟩
def B__law_caught (CW : Addr) (fb : EF) (chk : Chk) : SF := (fSeq (fTry EL 1 (fExpr (fAct fb chk)) (fSeq (fSet 2 (fNew (fCons (fTup (fCons (fC (.str "rule")) (fCons (f1 (zIsiE EL "BadRule") (fVar 1)) fNil))) (fCons (fTup (fCons (fC (.str "rate")) (fCons (f1 (zIsiE EL "BadRate") (fVar 1)) fNil))) fNil))))
  (fSeq (fExpr (fM zExtend (fVar 2) (fCons (fLst (fCons (fTup (fCons (fC (.str "slow")) (fCons (f1 (zIsiE EL "TooSlow") (fVar 1)) fNil))) (fCons (fTup (fCons (fC (.str "number")) (fCons (f1 (zIsiE EL "BadNumber") (fVar 1)) fNil))) fNil))) fNil)))
  (fRet (fTup (fCons (fLcH kTree (fVar 2) (tTupT 2 (tfCons (tName 3) (tfCons (tName 4) tfNil))) (cOne (fVar 4)) (fVar 3) [3, 4]) (fCons (f1 (zExcV EL) (fVar 1)) fNil)))))))
  (fRet (fC .non)))
theorem ind__law_caught (CW : Addr) : ∀ (fb : EF) (chk : Chk) (f c : Addr) (q : Str) (σ : List (Option V)) (sl : SL) (st : ST), chk f c q σ = true → (bodyF 5 (B__law_caught CW fb chk) [.fn f c q σ sl] st).ne = (bodyF 5 (B__law_caught CW fb chk1) [.fn 0 0 "" [] sl] st).ne := by
  exact fun fb chk f c q σ sl st h => ind_heard (n := 5) (EL := EL) (by repeat' (first | exact eb_var _ | exact eb_c _ | exact ab_nil | exact cb_yes | exact tsb_nil | exact tb_name _ | exact sb_next | apply eb_f1 | apply eb_f2 | apply ab_cons | apply eb_fA | apply eb_tup | apply eb_lst | apply eb_new | apply eb_m | apply eb_ife | apply ab_walk | apply cb_one | apply tb_tup | apply tsb_cons | apply eb_lcK | apply eb_lcH | apply sb_seq | apply sb_ret | apply sb_expr | apply sb_set | apply sb_if | decide)) (by repeat' (first | exact eb_var _ | exact eb_c _ | exact ab_nil | exact cb_yes | exact tsb_nil | exact tb_name _ | exact sb_next | apply eb_f1 | apply eb_f2 | apply ab_cons | apply eb_fA | apply eb_tup | apply eb_lst | apply eb_new | apply eb_m | apply eb_ife | apply ab_walk | apply cb_one | apply tb_tup | apply tsb_cons | apply eb_lcK | apply eb_lcH | apply sb_seq | apply sb_ret | apply sb_expr | apply sb_set | apply sb_if | decide)) fb chk f c q σ sl st h
theorem ok__law_caught {P : Program} {w : World} {K : PySem.W.Frag} {mg : Str → Option Value} {base : Heap} {CW : Addr} (M : Mg mg) (cW : WebF K CW) {CQ : Addr} (q : Errs K mg EL CQ) (T : At K mg "_law_caught" s__law_caught) : HeardOk P w K mg base "_law_caught" s__law_caught "call" N__law_caught (B__law_caught CW) where
  T := T
  S := sc__law_caught
  b := (fun _ _ _ _ _ _ us hl => match us, hl with | [_], _ => rfl)
  at0 := rfl
  vis := by first | exact Or.inl rfl | exact Or.inr (Or.inl rfl)
  nd := by decide
  nc := by decide
  body := fun fb chk fa cdv A outer s H E call =>
  (y_cons (y_tryH 1 rfl rfl rfl q sc__law_caught.nd (fun W' pn xe tk hp => (y_one (y_expr (call W' pn xe _ _ tk)))) (fun a pn => (yh_cons (PY.h (y_set 2 sc__law_caught.nd (x_new (xs_cons (x_tup (xs_cons x_str (xs_cons (x_isiE (y := "BadRule") q (by decide +kernel) M.n_isinstance (xv 1)) xs_nil))) (xs_cons (x_tup (xs_cons x_str (xs_cons (x_isiE (y := "BadRate") q (by decide +kernel) M.n_isinstance (xv 1)) xs_nil))) xs_nil)))))
  (yh_cons (PY.h (y_expr (x_extend (xv 2) (xs_cons (x_lst (xs_cons (x_tup (xs_cons x_str (xs_cons (x_isiE (y := "TooSlow") q (by decide +kernel) M.n_isinstance (xv 1)) xs_nil))) (xs_cons (x_tup (xs_cons x_str (xs_cons (x_isiE (y := "BadNumber") q (by decide +kernel) M.n_isinstance (xv 1)) xs_nil))) xs_nil))) xs_nil))))
  (yh_one (yh_ret (xh_tup (xsh_cons (xh_lc (own := [("word", 3), ("is_so", 4)]) (fun _ => told_tree) sc__law_caught.nd (xv 2) (g := (gTupH _ K 2 (gCons (gName 3) (gCons (gName 4) gNil)))) (tt := (tT K W0 (fVar 4))) (blkOk_by (N := N__law_caught) (sc := defScope s__law_caught) (by decide +kernel)) (fun _ _ _ _ _ => (gth_tup (gts_cons (gt_name 3 sc__law_caught.nd) (gts_cons (gt_name 4 sc__law_caught.nd) gts_nil)))) (by decide) (fun _ _ _ _ _ => (xts_test (xt_val (xv 4)))) (fun _ _ _ _ _ => (xv 3))) (xsh_cons (PX.h (x_excV q (xv 1))) (PXs.h xs_nil))))))))))
  (y_one (y_ret x_non)))
  ind := ind__law_caught CW

abbrev s_is_integer : Stmt := top 4
abbrev N_is_integer : List Str := ["value"]
theorem sc_is_integer : FnScope N_is_integer ["value"] (defScope s_is_integer) := ⟨rfl, rfl, rfl, by decide +kernel, rfl, by decide +kernel, by decide +kernel⟩
def B_is_integer (CW : Addr) : SF := (fRet (fAnd (fA zIsi (fCons (fVar 0) (fCons (fC (.raw (.ty "int"))) fNil))) (f1 zNot (fA zIsi (fCons (fVar 0) (fCons (fC (.raw (.ty "bool"))) fNil))))))
def D_is_integer (CW : Addr) : DF := fun ds st => (bodyF 1 (B_is_integer CW) ds st).ne
theorem ok_is_integer {P : Program} {w : World} {K : PySem.W.Frag} {mg : Str → Option Value} {base : Heap} {CW : Addr} (M : Mg mg) (cW : WebF K CW) (T : At K mg "is_integer" s_is_integer)  : D0 P w K mg base "is_integer" s_is_integer ["value"] 1 1 (D_is_integer CW) :=
  d0_of T sc_is_integer rfl (fun _ _ _ _ _ _ us hl => match us, hl with | [_], _ => rfl) fun fa cdv A outer s H E hr =>
  (y_one (y_ret (x_and (x_isi M.n_isinstance (xs_cons (xv 0) (xs_cons (x_bty M.n_int (by decide +kernel)) xs_nil))) (x_one (x_not (x_isi M.n_isinstance (xs_cons (xv 0) (xs_cons (x_bty M.n_bool (by decide +kernel)) xs_nil))))))))

abbrev s_is_within : Stmt := top 5
abbrev N_is_within : List Str := ["value", "least", "most"]
theorem sc_is_within : FnScope N_is_within ["value", "least", "most"] (defScope s_is_within) := ⟨rfl, rfl, rfl, by decide +kernel, rfl, by decide +kernel, by decide +kernel⟩
def B_is_within (CW : Addr) : SF := (fRet (fAnd (fCall0 1 (D_is_integer CW) (fCons (fVar 0) fNil)) (fChain zLe zLe (fVar 1) (fVar 0) (fVar 2))))
def D_is_within (CW : Addr) : DF := fun ds st => (bodyF 3 (B_is_within CW) ds st).ne
theorem ok_is_within {P : Program} {w : World} {K : PySem.W.Frag} {mg : Str → Option Value} {base : Heap} {CW : Addr} (M : Mg mg) (cW : WebF K CW) (T : At K mg "is_within" s_is_within) (d_is_integer : D0 P w K mg base "is_integer" s_is_integer ["value"] 1 1 (D_is_integer CW)) : D0 P w K mg base "is_within" s_is_within ["value", "least", "most"] 2 3 (D_is_within CW) :=
  d0_of T sc_is_within rfl (fun _ _ _ _ _ _ us hl => match us, hl with | [_, _, _], _ => rfl) fun fa cdv A outer s H E hr =>
  (y_one (y_ret (x_and (x_d0 d_is_integer hr (by decide) (xs_cons (xv 0) xs_nil)) (x_one (x_chain op_le op_le (zI0_ok fun _ i j => .bl _) (zI0_ok fun _ i j => .bl _) (xv 1) (xv 0) (xv 2))))))

abbrev s_is_slope : Stmt := top 22
abbrev N_is_slope : List Str := ["p", "q"]
theorem sc_is_slope : FnScope N_is_slope ["p", "q"] (defScope s_is_slope) := ⟨rfl, rfl, rfl, by decide +kernel, rfl, by decide +kernel, by decide +kernel⟩
def B_is_slope (CW : Addr) : SF := (fRet (fAnd (fCall0 1 (D_is_integer CW) (fCons (fVar 0) fNil)) (fAnd (fCall0 1 (D_is_integer CW) (fCons (fVar 1) fNil)) (fChain3 zLt zLt zLe (fC (.int 0)) (fVar 0) (fVar 1) (fC (.int 100))))))
def D_is_slope (CW : Addr) : DF := fun ds st => (bodyF 2 (B_is_slope CW) ds st).ne
theorem ok_is_slope {P : Program} {w : World} {K : PySem.W.Frag} {mg : Str → Option Value} {base : Heap} {CW : Addr} (M : Mg mg) (cW : WebF K CW) (T : At K mg "is_slope" s_is_slope) (d_is_integer : D0 P w K mg base "is_integer" s_is_integer ["value"] 1 1 (D_is_integer CW)) : D0 P w K mg base "is_slope" s_is_slope ["p", "q"] 2 2 (D_is_slope CW) :=
  d0_of T sc_is_slope rfl (fun _ _ _ _ _ _ us hl => match us, hl with | [_, _], _ => rfl) fun fa cdv A outer s H E hr =>
  (y_one (y_ret (x_and (x_d0 d_is_integer hr (by decide) (xs_cons (xv 0) xs_nil)) (x_and (x_d0 d_is_integer hr (by decide) (xs_cons (xv 1) xs_nil)) (x_one (x_chain3 op_lt op_lt op_le (zI0_ok fun _ i j => .bl _) (zI0_ok fun _ i j => .bl _) (zI0_ok fun _ i j => .bl _) x_int (xv 0) (xv 1) (x_gint M.g_GREATEST_Q)))))))

abbrev s_check_rateR : Stmt := top 23
abbrev N_check_rateR : List Str := ["rate"]
theorem sc_check_rateR : FnScope N_check_rateR ["rate"] (defScope s_check_rateR) := ⟨rfl, rfl, rfl, by decide +kernel, rfl, by decide +kernel, by decide +kernel⟩
def B_check_rateR (CW : Addr) : SF := (fSeq (fIf (fOr (f1 zNot (fA zIsi (fCons (fVar 0) (fCons (fC (.raw (.ty "tuple"))) fNil)))) (f2 zNe (fA zLen (fCons (fVar 0) fNil)) (fC (.int 3)))) (fRaise "BadRate" (fVar 0)) fNext)
  (fIf (fOr (f1 zNot (fCall0 2 (D_is_slope CW) (fCons (f2 zSub2 (fVar 0) (fC (.int 0))) (fCons (f2 zSub2 (fVar 0) (fC (.int 1))) fNil)))) (f1 zNot (fCall0 3 (D_is_within CW) (fCons (f2 zSub2 (fVar 0) (fC (.int 2))) (fCons (fC (.int 1)) (fCons (fC (.int 50)) fNil)))))) (fRaise "BadRate" (fVar 0)) fNext))
def D_check_rateR (CW : Addr) : DF := bodyF 1 (B_check_rateR CW)
theorem ok_check_rateR {P : Program} {w : World} {K : PySem.W.Frag} {mg : Str → Option Value} {base : Heap} {CW : Addr} (M : Mg mg) (cW : WebF K CW) {C_BadRate : Addr} (e_BadRate : ErrI P w K mg base "BadRate" C_BadRate) (T : At K mg "check_rate" s_check_rateR) (d_is_slope : D0 P w K mg base "is_slope" s_is_slope ["p", "q"] 2 2 (D_is_slope CW)) (d_is_within : D0 P w K mg base "is_within" s_is_within ["value", "least", "most"] 2 3 (D_is_within CW)) : DX P w K mg base "check_rate" s_check_rateR ["rate"] 3 1 (D_check_rateR CW) :=
  dx_of T sc_check_rateR rfl (fun _ _ _ _ _ _ us hl => match us, hl with | [_], _ => rfl) fun fa cdv A outer s H E hr =>
  (y_cons (yt_if (xt_w (xw_or (xt_not (xt_val (x_isi M.n_isinstance (xs_cons (xv 0) (xs_cons (x_bty M.n_tuple (by decide +kernel)) xs_nil))))) (xw_or1 (xt_ne hr.units (x_bltn call_len zLen_ok M.n_len boot_len (xs_cons (xv 0) xs_nil)) x_int))))
  (y_one (y_raiseI e_BadRate (L2N.takes_of rfl rfl rfl rfl) hr (by decide) rfl (xv 0)))
  y_nil)
  (y_one (yt_if (xt_w (xw_or (xt_not (xt_val (x_d0 d_is_slope hr (by decide) (xs_cons (x_sub2 (hu_of hr) (xv 0) x_int) (xs_cons (x_sub2 (hu_of hr) (xv 0) x_int) xs_nil))))) (xw_or1 (xt_not (xt_val (x_d0 d_is_within hr (by decide) (xs_cons (x_sub2 (hu_of hr) (xv 0) x_int) (xs_cons x_int (xs_cons (x_gint M.g_GREATEST_BURST) xs_nil)))))))))
  (y_one (y_raiseI e_BadRate (L2N.takes_of rfl rfl rfl rfl) hr (by decide) rfl (xv 0)))
  y_nil)))

abbrev s_check_hinderedR : Stmt := top 44
abbrev N_check_hinderedR : List Str := ["rule"]
theorem sc_check_hinderedR : FnScope N_check_hinderedR ["rule"] (defScope s_check_hinderedR) := ⟨rfl, rfl, rfl, by decide +kernel, rfl, by decide +kernel, by decide +kernel⟩
def B_check_hinderedR (CW : Addr) : SF := (fIf (f2 (zIn4 true) (fVar 0) (fC (.tup [.str "first", .str "nearest", .str "gone"]))) (fRaise "BadRule" (fVar 0)) fNext)
def D_check_hinderedR (CW : Addr) : DF := bodyF 1 (B_check_hinderedR CW)
theorem ok_check_hinderedR {P : Program} {w : World} {K : PySem.W.Frag} {mg : Str → Option Value} {base : Heap} {CW : Addr} (M : Mg mg) (cW : WebF K CW) (gt_RULES : GTup K mg "RULES" [.str "first", .str "nearest", .str "gone"]) {C_BadRule : Addr} (e_BadRule : ErrI P w K mg base "BadRule" C_BadRule) (T : At K mg "check_hindered" s_check_hinderedR)  : DX P w K mg base "check_hindered" s_check_hinderedR ["rule"] 3 1 (D_check_hinderedR CW) :=
  dx_of T sc_check_hinderedR rfl (fun _ _ _ _ _ _ us hl => match us, hl with | [_], _ => rfl) fun fa cdv A outer s H E hr =>
  (y_one (yt_if (xt_notIn4 (hu_of hr) (xv 0) (x_gtup gt_RULES))
  (y_one (y_raiseI e_BadRule (L2N.takes_of rfl rfl rfl rfl) hr (by decide) rfl (xv 0)))
  y_nil))

abbrev s_blown_webR : Stmt := top 45
abbrev N_blown_webR : List Str := ["rule"]
theorem sc_blown_webR : FnScope N_blown_webR ["rule"] (defScope s_blown_webR) := ⟨rfl, rfl, rfl, by decide +kernel, rfl, by decide +kernel, by decide +kernel⟩
def B_blown_webR (CW : Addr) : SF := (fSeq (fExpr (fCallR 1 (D_check_hinderedR CW) (fCons (fVar 0) fNil)))
  fNever)
def D_blown_webR (CW : Addr) : DF := bodyF 1 (B_blown_webR CW)
theorem ok_blown_webR {P : Program} {w : World} {K : PySem.W.Frag} {mg : Str → Option Value} {base : Heap} {CW : Addr} (M : Mg mg) (cW : WebF K CW) (T : At K mg "blown_web" s_blown_webR) (d_check_hinderedR : DX P w K mg base "check_hindered" s_check_hinderedR ["rule"] 3 1 (D_check_hinderedR CW)) : DX P w K mg base "blown_web" s_blown_webR ["rule"] 4 1 (D_blown_webR CW) :=
  dx_of T sc_blown_webR rfl (fun _ _ _ _ _ _ us hl => match us, hl with | [_], _ => rfl) fun fa cdv A outer s H E hr =>
  (y_cons (y_expr (x_dx (L2N.takes_of rfl rfl rfl rfl) d_check_hinderedR hr (by decide) (xs_cons (xv 0) xs_nil)))
  ys_never)

abbrev s_putterR : Stmt := top 46
abbrev N_putterR : List Str := ["rule", "rate", "goal", "feed", "p", "q", "burst", "side", "other"]
theorem sc_putterR : FnScope N_putterR ["rule", "rate", "goal"] (defScope s_putterR) := ⟨rfl, rfl, rfl, by decide +kernel, rfl, by decide +kernel, by decide +kernel⟩
def B_putterR (CW : Addr) : SF := (fSeq (fExpr (fCallR 1 (D_check_hinderedR CW) (fCons (fVar 0) fNil)))
  (fSeq (fExpr (fCallR 1 (D_check_rateR CW) (fCons (fVar 1) fNil)))
  (fSeq (fAsg (tTupT 3 (tfCons (tName 4) (tfCons (tName 5) (tfCons (tName 6) tfNil)))) (fVar 1))
  (fSeq (fIf (fOr (f2 zLt (f2 zMul (fVar 4) (f2 zSub2 (fC (.tup [.int 9, .int 10, .int 41])) (fC (.int 1)))) (f2 zMul (fVar 5) (f2 zSub2 (fC (.tup [.int 9, .int 10, .int 41])) (fC (.int 0))))) (f2 zLt (fVar 6) (f2 zSub2 (fC (.tup [.int 9, .int 10, .int 41])) (fC (.int 2))))) (fRaise "TooSlow" (fVar 1)) fNext)
  (fSeq (fIf (f1 zNot (fCall0 3 (D_is_within CW) (fCons (fVar 2) (fCons (fC (.int 100)) (fCons (fC (.int 400)) fNil))))) (fRaise "BadNumber" (fVar 2)) fNext)
  fNever)))))
def D_putterR (CW : Addr) : DF := bodyF 9 (B_putterR CW)
theorem ok_putterR {P : Program} {w : World} {K : PySem.W.Frag} {mg : Str → Option Value} {base : Heap} {CW : Addr} (M : Mg mg) (cW : WebF K CW) (gt_SLOWEST : GTup K mg "SLOWEST" [.int 9, .int 10, .int 41]) {C_BadNumber : Addr} (e_BadNumber : ErrI P w K mg base "BadNumber" C_BadNumber) {C_TooSlow : Addr} (e_TooSlow : ErrI P w K mg base "TooSlow" C_TooSlow) (T : At K mg "putter" s_putterR) (d_check_hinderedR : DX P w K mg base "check_hindered" s_check_hinderedR ["rule"] 3 1 (D_check_hinderedR CW)) (d_check_rateR : DX P w K mg base "check_rate" s_check_rateR ["rate"] 3 1 (D_check_rateR CW)) (d_is_within : D0 P w K mg base "is_within" s_is_within ["value", "least", "most"] 2 3 (D_is_within CW)) : DX P w K mg base "putter" s_putterR ["rule", "rate", "goal"] 4 3 (D_putterR CW) :=
  dx_of T sc_putterR rfl (fun _ _ _ _ _ _ us hl => match us, hl with | [_, _, _], _ => rfl) fun fa cdv A outer s H E hr =>
  (y_cons (y_expr (x_dx (L2N.takes_of rfl rfl rfl rfl) d_check_hinderedR hr (by decide) (xs_cons (xv 0) xs_nil)))
  (y_cons (y_expr (x_dx (L2N.takes_of rfl rfl rfl rfl) d_check_rateR hr (by decide) (xs_cons (xv 1) xs_nil)))
  (y_cons (y_asg (xv 1) (gt_tup rfl (gts_cons (gt_name 4 sc_putterR.nd) (gts_cons (gt_name 5 sc_putterR.nd) (gts_cons (gt_name 6 sc_putterR.nd) gts_nil)))))
  (y_cons (yt_if (xt_w (xw_or (xt_lt (x_mul (xv 4) (x_sub2 (hu_of hr) (x_gtup gt_SLOWEST) x_int)) (x_mul (xv 5) (x_sub2 (hu_of hr) (x_gtup gt_SLOWEST) x_int))) (xw_or1 (xt_lt (xv 6) (x_sub2 (hu_of hr) (x_gtup gt_SLOWEST) x_int)))))
  (y_one (y_raiseI e_TooSlow (L2N.takes_of rfl rfl rfl rfl) hr (by decide) rfl (xv 1)))
  y_nil)
  (y_cons (yt_if (xt_not (xt_val (x_d0 d_is_within hr (by decide) (xs_cons (xv 2) (xs_cons (x_gint M.g_LEAST_GOAL) (xs_cons (x_gint M.g_GREATEST_GOAL) xs_nil))))))
  (y_one (y_raiseI e_BadNumber (L2N.takes_of rfl rfl rfl rfl) hr (by decide) rfl (xv 2)))
  y_nil)
  ys_never)))))

abbrev s__law_is_rate : Stmt := top 55
abbrev N__law_is_rate : List Str := ["rate", "one"]
theorem sc__law_is_rate : FnScope N__law_is_rate ["rate"] (defScope s__law_is_rate) := ⟨rfl, rfl, rfl, by decide +kernel, rfl, by decide +kernel, by decide +kernel⟩
def B__law_is_rate (CW : Addr) : SF := (fSeq (fIf (fOr (f1 zNot (fA zIsi (fCons (fVar 0) (fCons (fC (.raw (.ty "tuple"))) fNil)))) (f2 zNe (fA zLen (fCons (fVar 0) fNil)) (fC (.int 3)))) (fRet (fC (.bl false))) fNext)
  (fSeq (fIf (f1 zNot (fA zAll (fCons (fLcK kTree (fWalk (fVar 0)) (tName 1) cYes (fAnd (fA zIsi (fCons (fVar 1) (fCons (fC (.raw (.ty "int"))) fNil))) (f1 zNot (fA zIsi (fCons (fVar 1) (fCons (fC (.raw (.ty "bool"))) fNil))))) [1]) fNil))) (fRet (fC (.bl false))) fNext)
  (fRet (fAnd (fChain3 zLt zLt zLe (fC (.int 0)) (f2 zSub2 (fVar 0) (fC (.int 0))) (f2 zSub2 (fVar 0) (fC (.int 1))) (fC (.int 100))) (fChain zLe zLe (fC (.int 1)) (f2 zSub2 (fVar 0) (fC (.int 2))) (fC (.int 50)))))))
def D__law_is_rate (CW : Addr) : DF := fun ds st => (bodyF 2 (B__law_is_rate CW) ds st).ne
theorem ok__law_is_rate {P : Program} {w : World} {K : PySem.W.Frag} {mg : Str → Option Value} {base : Heap} {CW : Addr} (M : Mg mg) (cW : WebF K CW) (T : At K mg "_law_is_rate" s__law_is_rate)  : Df P w K mg base "_law_is_rate" 1 1 (D__law_is_rate CW) :=
  df_of T sc__law_is_rate rfl (fun _ _ _ _ _ _ us hl => match us, hl with | [_], _ => rfl) fun fa cdv A outer s H E gd hr =>
  (y_cons (yt_if (xt_w (xw_or (xt_not (xt_val (x_isi M.n_isinstance (xs_cons (xv 0) (xs_cons (x_bty M.n_tuple (by decide +kernel)) xs_nil))))) (xw_or1 (xt_ne hr.units (x_bltn call_len zLen_ok M.n_len boot_len (xs_cons (xv 0) xs_nil)) x_int))))
  (y_one (y_ret x_bl))
  y_nil)
  (y_cons (yt_if (xt_not (xt_val (x_bltn (cr_all rfl) zAll_ok M.n_all PyProof.Rows.boot_all (xs_cons (x_lcK (own := [("one", 1)]) (fun _ => told_tree) rfl sc__law_is_rate.nd (xi_walk (xv 0)) (g := (gName 1)) (tt := tYes) (blkOk_by (N := N__law_is_rate) (sc := defScope s__law_is_rate) (by decide +kernel)) (fun _ _ _ _ _ => (gt_name 1 sc__law_is_rate.nd)) (by decide) (fun _ _ _ _ _ => xts_nil) (fun _ _ _ _ _ => (x_and (x_isi M.n_isinstance (xs_cons (xv 1) (xs_cons (x_bty M.n_int (by decide +kernel)) xs_nil))) (x_one (x_not (x_isi M.n_isinstance (xs_cons (xv 1) (xs_cons (x_bty M.n_bool (by decide +kernel)) xs_nil)))))))) xs_nil))))
  (y_one (y_ret x_bl))
  y_nil)
  (y_one (y_ret (x_and (x_chain3 op_lt op_lt op_le (zI0_ok fun _ i j => .bl _) (zI0_ok fun _ i j => .bl _) (zI0_ok fun _ i j => .bl _) x_int (x_sub2 (hu_of hr) (xv 0) x_int) (x_sub2 (hu_of hr) (xv 0) x_int) x_int) (x_one (x_chain op_le op_le (zI0_ok fun _ i j => .bl _) (zI0_ok fun _ i j => .bl _) x_int (x_sub2 (hu_of hr) (xv 0) x_int) x_int)))))))

abbrev s__law_due : Stmt := top 56
abbrev N__law_due : List Str := ["rule", "rate", "goal"]
theorem sc__law_due : FnScope N__law_due ["rule", "rate", "goal"] (defScope s__law_due) := ⟨rfl, rfl, rfl, by decide +kernel, rfl, by decide +kernel, by decide +kernel⟩
def B__law_due (CW : Addr) : SF := (fSeq (fIf (fOr (f1 zNot (fA zIsi (fCons (fVar 0) (fCons (fC (.raw (.ty "str"))) fNil)))) (f2 (zIn2 true) (fVar 0) (fTup (fCons (fC (.str "first")) (fCons (fC (.str "nearest")) (fCons (fC (.str "gone")) fNil)))))) (fRet (fTup (fCons (fLst (fCons (fC (.str "rule")) fNil)) (fCons (fVar 0) fNil)))) fNext)
  (fSeq (fIf (f1 zNot (fCall0 1 (D__law_is_rate CW) (fCons (fVar 1) fNil))) (fRet (fTup (fCons (fLst (fCons (fC (.str "rate")) fNil)) (fCons (fVar 1) fNil)))) fNext)
  (fSeq (fIf (fOr (f2 zLt (f2 zMul (fC (.int 10)) (f2 zSub2 (fVar 1) (fC (.int 0)))) (f2 zMul (fC (.int 9)) (f2 zSub2 (fVar 1) (fC (.int 1))))) (f2 zLt (f2 zSub2 (fVar 1) (fC (.int 2))) (fC (.int 41)))) (fRet (fTup (fCons (fLst (fCons (fC (.str "slow")) fNil)) (fCons (fVar 1) fNil)))) fNext)
  (fSeq (fIf (fOr (f1 zNot (fA zIsi (fCons (fVar 2) (fCons (fC (.raw (.ty "int"))) fNil)))) (fOr (fA zIsi (fCons (fVar 2) (fCons (fC (.raw (.ty "bool"))) fNil))) (f1 zNot (fChain zLe zLe (fC (.int 100)) (fVar 2) (fC (.int 400)))))) (fRet (fTup (fCons (fLst (fCons (fC (.str "number")) fNil)) (fCons (fVar 2) fNil)))) fNext)
  (fRet (fC .non))))))
def D__law_due (CW : Addr) : DF := fun ds st => (bodyF 3 (B__law_due CW) ds st).ne
theorem ok__law_due {P : Program} {w : World} {K : PySem.W.Frag} {mg : Str → Option Value} {base : Heap} {CW : Addr} (M : Mg mg) (cW : WebF K CW) (T : At K mg "_law_due" s__law_due) (d__law_is_rate : Df P w K mg base "_law_is_rate" 1 1 (D__law_is_rate CW)) : Df P w K mg base "_law_due" 2 3 (D__law_due CW) :=
  df_of T sc__law_due rfl (fun _ _ _ _ _ _ us hl => match us, hl with | [_, _, _], _ => rfl) fun fa cdv A outer s H E gd hr =>
  (y_cons (yt_if (xt_w (xw_or (xt_not (xt_val (x_isi M.n_isinstance (xs_cons (xv 0) (xs_cons (x_bty M.n_str (by decide +kernel)) xs_nil))))) (xw_or1 (xt_notIn2 (hu_of hr) (xv 0) (x_tup (xs_cons x_str (xs_cons x_str (xs_cons x_str xs_nil))))))))
  (y_one (y_ret (x_tup (xs_cons (x_lst (xs_cons x_str xs_nil)) (xs_cons (xv 0) xs_nil)))))
  y_nil)
  (y_cons (yt_if (xt_not (xt_val (x_def d__law_is_rate gd hr (by decide) (xs_cons (xv 1) xs_nil))))
  (y_one (y_ret (x_tup (xs_cons (x_lst (xs_cons x_str xs_nil)) (xs_cons (xv 1) xs_nil)))))
  y_nil)
  (y_cons (yt_if (xt_w (xw_or (xt_lt (x_mul x_int (x_sub2 (hu_of hr) (xv 1) x_int)) (x_mul x_int (x_sub2 (hu_of hr) (xv 1) x_int))) (xw_or1 (xt_lt (x_sub2 (hu_of hr) (xv 1) x_int) x_int))))
  (y_one (y_ret (x_tup (xs_cons (x_lst (xs_cons x_str xs_nil)) (xs_cons (xv 1) xs_nil)))))
  y_nil)
  (y_cons (yt_if (xt_w (xw_or (xt_not (xt_val (x_isi M.n_isinstance (xs_cons (xv 2) (xs_cons (x_bty M.n_int (by decide +kernel)) xs_nil))))) (xw_or (xt_val (x_isi M.n_isinstance (xs_cons (xv 2) (xs_cons (x_bty M.n_bool (by decide +kernel)) xs_nil)))) (xw_or1 (xt_not (xt_chain op_le op_le (zI0_ok fun _ i j => .bl _) (zI0_ok fun _ i j => .bl _) x_int (xv 2) x_int))))))
  (y_one (y_ret (x_tup (xs_cons (x_lst (xs_cons x_str xs_nil)) (xs_cons (xv 2) xs_nil)))))
  y_nil)
  (y_one (y_ret x_non))))))

abbrev s__law_is_refused : Stmt := top 57
abbrev N__law_is_refused : List Str := ["rule", "rate", "goal", "due"]
theorem sc__law_is_refused : FnScope N__law_is_refused ["rule", "rate", "goal"] (defScope s__law_is_refused) := ⟨rfl, rfl, rfl, by decide +kernel, rfl, by decide +kernel, by decide +kernel⟩
def B__law_is_refused (CW : Addr) : SF := (fSeq (fSet 3 (fCall0 3 (D__law_due CW) (fCons (fVar 0) (fCons (fVar 1) (fCons (fVar 2) fNil)))))
  (fRet (fOr (f2 (zIsN false) (fVar 3) (fC .non)) (f2 zEq (fA zRepr4 (fCons (fHeard 5 (B__law_caught CW) (fCallR 3 (D_putterR CW) (fCons (fVar 0) (fCons (fVar 1) (fCons (fVar 2) fNil))))) fNil)) (fA zRepr4 (fCons (fVar 3) fNil))))))
def D__law_is_refused (CW : Addr) : DF := fun ds st => (bodyF 4 (B__law_is_refused CW) ds st).ne
theorem ok__law_is_refused {P : Program} {w : World} {K : PySem.W.Frag} {mg : Str → Option Value} {base : Heap} {CW : Addr} (M : Mg mg) (cW : WebF K CW) {c0 P0 : Addr} (T : AtL K mg "_law_is_refused" s__law_is_refused c0) (lt : LamT K base mg c0 P0 "_law_is_refused.<locals>.<lambda>") (h__law_caught : HeardOk P w K mg base "_law_caught" s__law_caught "call" N__law_caught (B__law_caught CW)) (d__law_due : Df P w K mg base "_law_due" 2 3 (D__law_due CW)) (d_putterR : DX P w K mg base "putter" s_putterR ["rule", "rate", "goal"] 4 3 (D_putterR CW)) : Df P w K mg base "_law_is_refused" 7 3 (D__law_is_refused CW) :=
  dl_of T sc__law_is_refused rfl (fun _ _ _ _ _ _ us hl => match us, hl with | [_, _, _], _ => rfl) fun fa A outer s H E gd hr =>
  (y_cons (y_set 3 sc__law_is_refused.nd (x_def d__law_due gd hr (by decide) (xs_cons (xv 0) (xs_cons (xv 1) (xs_cons (xv 2) xs_nil)))))
  (y_one (y_ret (x_or (x_isN (xv 3) x_non) (x_one (x_eq hr.units (x_repr4 gd (hu200 hr) M.n_repr (xs_cons (x_heard (j := 4) (Ng := N__law_caught) h__law_caught lt rfl hr (by decide) (LamX.lamS_by (sc := defScope s__law_is_refused) (by decide +kernel)) (fun A outer s H E f c' hr => (x_dx (L2N.takes_of rfl rfl rfl rfl) d_putterR hr (by decide) (xs_cons (xv 0) (xs_cons (xv 1) (xs_cons (xv 2) xs_nil)))))) xs_nil)) (x_repr4 gd (hu200 hr) M.n_repr (xs_cons (xv 3) xs_nil))))))))

abbrev s__law_right : Stmt := top 58
abbrev N__law_right : List Str := ["pot", "rules", "rates", "goals", "lap", "some", "rule"]
theorem sc__law_right : FnScope N__law_right ["pot"] (defScope s__law_right) := ⟨rfl, rfl, rfl, by decide +kernel, rfl, by decide +kernel, by decide +kernel⟩
def B__law_right (CW : Addr) : SF := (fSeq (fSet 1 (fNew (fCons (fC (.str "first")) (fCons (fC (.str "nearest")) (fCons (fC (.str "gone")) (fCons (fC (.str "last")) (fCons (fC (.str "eldest")) (fCons (fC (.str "farthest")) (fCons (fC (.str "First")) (fCons (fC (.str "")) (fCons (fC .non) (fCons (fC (.int 1)) (fCons (fTup (fCons (fC (.str "first")) fNil)) fNil)))))))))))))
  (fSeq (fExprFz 1 (fM zExtend (fVar 1) (fCons (fLst (fCons (fLst (fCons (fC (.str "first")) fNil)) (fCons (fC (.bl true)) fNil))) fNil)))
  (fSeq (fSet 2 (fNew (fCons (fTup (fCons (fC (.int 9)) (fCons (fC (.int 10)) (fCons (fC (.int 41)) fNil)))) (fCons (fTup (fCons (fC (.int 89)) (fCons (fC (.int 100)) (fCons (fC (.int 50)) fNil)))) (fCons (fTup (fCons (fC (.int 9)) (fCons (fC (.int 10)) (fCons (fC (.int 40)) fNil)))) (fCons (fTup (fCons (fC (.int 17)) (fCons (fC (.int 20)) (fCons (fC (.int 45)) fNil)))) (fCons (fTup (fCons (fC (.int 10)) (fCons (fC (.int 10)) (fCons (fC (.int 41)) fNil)))) (fCons (fTup (fCons (fC (.int 9)) (fCons (fC (.int 10)) (fCons (fC (.int 51)) fNil)))) (fCons (fTup (fCons (fC (.int 0)) (fCons (fC (.int 10)) (fCons (fC (.int 41)) fNil)))) fNil)))))))))
  (fSeq (fExpr (fM zExtend (fVar 2) (fCons (fLst (fCons (fTup (fCons (fC (.int 9)) (fCons (fC (.int 10)) fNil))) (fCons (fLst (fCons (fC (.int 9)) (fCons (fC (.int 10)) (fCons (fC (.int 41)) fNil)))) (fCons (fTup (fCons (fC (.int 9)) (fCons (fC (.int 10)) (fCons (fC (.bl true)) fNil)))) (fCons (fC .non) (fCons (fC (.str "9 10 41")) (fCons (fTup (fCons (fC (.int 9)) (fCons (fC (.int 10)) (fCons (fC (.int 41)) (fCons (fC (.int 1)) fNil))))) fNil))))))) fNil)))
  (fSeq (fExprFz 2 (fM zExtend (fVar 2) (fCons (fLst (fCons (fTup (fCons (fC (.int 9)) (fCons (fC (.int 101)) (fCons (fC (.int 41)) fNil)))) (fCons (fTup (fCons (fC (.int 99)) (fCons (fC (.int 100)) (fCons (fC (.int 1)) fNil)))) (fCons (fTup (fCons (f1 zNeg (fC (.int 9))) (fCons (fC (.int 10)) (fCons (fC (.int 41)) fNil)))) fNil)))) fNil)))
  (fSeq (fSet 3 (fLst (fCons (fC (.int 99)) (fCons (fC (.int 401)) (fCons (fC (.int 0)) (fCons (f1 zNeg (fC (.int 100))) (fCons (fC (.bl true)) (fCons (fC .non) (fCons (fC (.str "100")) (fCons (fTup (fCons (fC (.int 100)) fNil)) (fCons (f2 zPow (fC (.int 10)) (fC (.int 30))) (fCons (fC (.int 40)) fNil))))))))))))
  (fSeq (fFor (fRange1 (fCons (fC (.int 12)) fNil)) (tName 4) (fSeq (fIf (f1 zNot (fCall0 3 (D__law_is_refused CW) (fCons (fCall0 2 (D__law_of CW) (fCons (fVar 0) (fCons (f1 zFz (fVar 1)) fNil))) (fCons (fCall0 2 (D__law_of CW) (fCons (fVar 0) (fCons (f1 zFz (fVar 2)) fNil))) (fCons (fCall0 2 (D__law_of CW) (fCons (fVar 0) (fCons (fVar 3) fNil))) fNil))))) (fRet (fC (.bl false))) fNext)
  (fIf (f1 zNot (fCall0 3 (D__law_is_refused CW) (fCons (fCall0 2 (D__law_of CW) (fCons (fVar 0) (fCons (fSl (fVar 1) oNone (oSome (fC (.int 3)))) fNil))) (fCons (fCall0 2 (D__law_of CW) (fCons (fVar 0) (fCons (f1 zFz (fVar 2)) fNil))) (fCons (fCall0 2 (D__law_of CW) (fCons (fVar 0) (fCons (fVar 3) fNil))) fNil))))) (fRet (fC (.bl false))) fNext)))
  (fSeq (fSet 5 (fLcK kTree (fRange1 (fCons (fC (.int 4)) fNil)) (tName 4) cYes (fCall0 2 (D__law_of CW) (fCons (fVar 0) (fCons (fSl (fVar 1) (oSome (fC (.int 3))) oNone) fNil))) [4]))
  (fRet (fA zAll (fCons (fLcK kTree (fWalk (fVar 5)) (tName 6) cYes (f2 zEq (fA zRepr4 (fCons (fHeard 5 (B__law_caught CW) (fCallR 1 (D_blown_webR CW) (fCons (fVar 6) fNil))) fNil)) (fA zRepr4 (fCons (fTup (fCons (fLst (fCons (fC (.str "rule")) fNil)) (fCons (fVar 6) fNil))) fNil))) [6]) fNil)))))))))))
def D__law_right (CW : Addr) : DF := fun ds st => (bodyF 7 (B__law_right CW) ds st).ne
theorem ok__law_right {P : Program} {w : World} {K : PySem.W.Frag} {mg : Str → Option Value} {base : Heap} {CW : Addr} (M : Mg mg) (cW : WebF K CW) {c0 P0 : Addr} (T : AtL K mg "_law_right" s__law_right c0) (lt : LamT K base mg c0 P0 "_law_right.<locals>.<lambda>") (h__law_caught : HeardOk P w K mg base "_law_caught" s__law_caught "call" N__law_caught (B__law_caught CW)) (d__law_is_refused : Df P w K mg base "_law_is_refused" 7 3 (D__law_is_refused CW)) (d__law_of : Df P w K mg base "_law_of" 2 2 (D__law_of CW)) (d_blown_webR : DX P w K mg base "blown_web" s_blown_webR ["rule"] 4 1 (D_blown_webR CW)) : Df P w K mg base "_law_right" 8 1 (D__law_right CW) :=
  dl_of T sc__law_right rfl (fun _ _ _ _ _ _ us hl => match us, hl with | [_], _ => rfl) fun fa A outer s H E gd hr =>
  (y_cons (y_set 1 sc__law_right.nd (x_new (xs_cons x_str (xs_cons x_str (xs_cons x_str (xs_cons x_str (xs_cons x_str (xs_cons x_str (xs_cons x_str (xs_cons x_str (xs_cons x_non (xs_cons x_int (xs_cons (x_tup (xs_cons x_str xs_nil)) xs_nil)))))))))))))
  (y_cons (y_exprFz 1 (x_extend (xv 1) (xs_cons (x_lst (xs_cons (x_lst (xs_cons x_str xs_nil)) (xs_cons x_bl xs_nil))) xs_nil)))
  (y_cons (y_set 2 sc__law_right.nd (x_new (xs_cons (x_tup (xs_cons x_int (xs_cons x_int (xs_cons x_int xs_nil)))) (xs_cons (x_tup (xs_cons x_int (xs_cons x_int (xs_cons x_int xs_nil)))) (xs_cons (x_tup (xs_cons x_int (xs_cons x_int (xs_cons x_int xs_nil)))) (xs_cons (x_tup (xs_cons x_int (xs_cons x_int (xs_cons x_int xs_nil)))) (xs_cons (x_tup (xs_cons x_int (xs_cons x_int (xs_cons x_int xs_nil)))) (xs_cons (x_tup (xs_cons x_int (xs_cons x_int (xs_cons x_int xs_nil)))) (xs_cons (x_tup (xs_cons x_int (xs_cons x_int (xs_cons x_int xs_nil)))) xs_nil)))))))))
  (y_cons (y_expr (x_extend (xv 2) (xs_cons (x_lst (xs_cons (x_tup (xs_cons x_int (xs_cons x_int xs_nil))) (xs_cons (x_lst (xs_cons x_int (xs_cons x_int (xs_cons x_int xs_nil)))) (xs_cons (x_tup (xs_cons x_int (xs_cons x_int (xs_cons x_bl xs_nil)))) (xs_cons x_non (xs_cons x_str (xs_cons (x_tup (xs_cons x_int (xs_cons x_int (xs_cons x_int (xs_cons x_int xs_nil))))) xs_nil))))))) xs_nil)))
  (y_cons (y_exprFz 2 (x_extend (xv 2) (xs_cons (x_lst (xs_cons (x_tup (xs_cons x_int (xs_cons x_int (xs_cons x_int xs_nil)))) (xs_cons (x_tup (xs_cons x_int (xs_cons x_int (xs_cons x_int xs_nil)))) (xs_cons (x_tup (xs_cons (x_neg x_int) (xs_cons x_int (xs_cons x_int xs_nil)))) xs_nil)))) xs_nil)))
  (y_cons (y_set 3 sc__law_right.nd (x_lst (xs_cons x_int (xs_cons x_int (xs_cons x_int (xs_cons (x_neg x_int) (xs_cons x_bl (xs_cons x_non (xs_cons x_str (xs_cons (x_tup (xs_cons x_int xs_nil)) (xs_cons (x_pow x_int x_int) (xs_cons x_int xs_nil))))))))))))
  (y_cons (y_for PassesOwn.never rfl (xi_range1 M.n_range (xs_cons x_int xs_nil)) (gt_name 4 sc__law_right.nd)
  (y_cons (yt_if (xt_not (xt_val (x_def d__law_is_refused gd hr (by decide) (xs_cons (x_def d__law_of gd hr (by decide) (xs_cons (xv 0) (xs_cons (x_fz (xv 1)) xs_nil))) (xs_cons (x_def d__law_of gd hr (by decide) (xs_cons (xv 0) (xs_cons (x_fz (xv 2)) xs_nil))) (xs_cons (x_def d__law_of gd hr (by decide) (xs_cons (xv 0) (xs_cons (xv 3) xs_nil))) xs_nil))))))
  (y_one (y_ret x_bl))
  y_nil)
  (y_one (yt_if (xt_not (xt_val (x_def d__law_is_refused gd hr (by decide) (xs_cons (x_def d__law_of gd hr (by decide) (xs_cons (xv 0) (xs_cons (x_sl (xv 1) xo_none (xo_some x_int)) xs_nil))) (xs_cons (x_def d__law_of gd hr (by decide) (xs_cons (xv 0) (xs_cons (x_fz (xv 2)) xs_nil))) (xs_cons (x_def d__law_of gd hr (by decide) (xs_cons (xv 0) (xs_cons (xv 3) xs_nil))) xs_nil))))))
  (y_one (y_ret x_bl))
  y_nil))))
  (y_cons (y_setLc (own := [("lap", 4)]) 5 (fun _ => told_tree) rfl sc__law_right.nd (sw_true rfl rfl rfl (by decide +kernel)) (xi_range1 M.n_range (xs_cons x_int xs_nil)) (g := (gName 4)) (tt := tYes) (blkOk_by (N := N__law_right) (sc := defScope s__law_right) (by decide +kernel)) (fun _ _ _ _ _ => (gt_name 4 sc__law_right.nd)) (by decide) (fun _ _ _ _ _ => xts_nil) (fun _ _ _ _ _ => (x_def d__law_of gd hr (by decide) (xs_cons (xv 0) (xs_cons (x_sl (xv 1) (xo_some x_int) xo_none) xs_nil)))))
  (y_one (y_ret (x_bltn (cr_all rfl) zAll_ok M.n_all PyProof.Rows.boot_all (xs_cons (x_lcK (own := [("rule", 6)]) (fun _ => told_tree) rfl sc__law_right.nd (xi_walk (xv 5)) (g := (gName 6)) (tt := tYes) (blkOk_by (N := N__law_right) (sc := defScope s__law_right) (by decide +kernel)) (fun _ _ _ _ _ => (gt_name 6 sc__law_right.nd)) (by decide) (fun _ _ _ _ _ => xts_nil) (fun _ _ _ _ _ => (x_eq hr.units (x_repr4 gd (hu200 hr) M.n_repr (xs_cons (x_heard (j := 4) (Ng := N__law_caught) h__law_caught lt rfl hr (by decide) (LamX.lamS_by (sc := { kind := .function, names := [(".0", .local), ("rule", .cell), ("repr", .globalImplicit), ("_law_caught", .globalImplicit)], isGenerator := false, isCoroutine := false }) (by decide +kernel)) (fun A outer s H E f c' hr => (x_dx (L2N.takes_of rfl rfl rfl rfl) d_blown_webR hr (by decide) (xs_cons (xv 6) xs_nil)))) xs_nil)) (x_repr4 gd (hu200 hr) M.n_repr (xs_cons (x_tup (xs_cons (x_lst (xs_cons x_str xs_nil)) (xs_cons (xv 6) xs_nil))) xs_nil))))) xs_nil))))))))))))

abbrev s_law : Stmt := top 59
abbrev N_law : List Str := ["script", "place"]
theorem sc_law : FnScope N_law ["script"] (defScope s_law) := ⟨rfl, rfl, rfl, by decide +kernel, rfl, by decide +kernel, by decide +kernel⟩
def B_law (CW : Addr) : SF := (fRet (fA zAll (fCons (fLcK kTree (fWalk (fCall0 2 (D__law_cells CW) (fCons (fVar 0) (fCons (fC (.int 3)) fNil)))) (tName 1) cYes (fCall0 1 (D__law_right CW) (fCons (fCall0 2 (D__law_pot CW) (fCons (fVar 0) (fCons (fVar 1) fNil))) fNil)) [1]) fNil)))
def D_law (CW : Addr) : DF := fun ds st => (bodyF 2 (B_law CW) ds st).ne
theorem ok_law {P : Program} {w : World} {K : PySem.W.Frag} {mg : Str → Option Value} {base : Heap} {CW : Addr} (M : Mg mg) (cW : WebF K CW) {fa : Addr} {oc kV dc pm cd ct : Value} {od an : Option Addr} {sl : Array (Option Value)} (l : K.lookup fa = some ⟨oc, od, .func (PySem.W.fnOf "law" "law" (defArgs s_law) (defBody s_law) (defScope s_law) .none kV dc pm an cd ct), sl⟩) (c : PySem.W.codeIn K cd "law" = true) (k : PySem.W.keepIn K (.ref fa) = true) (d__law_cells : Df P w K mg base "_law_cells" 1 2 (D__law_cells CW)) (d__law_pot : Df P w K mg base "_law_pot" 1 2 (D__law_pot CW)) (d__law_right : Df P w K mg base "_law_right" 8 1 (D__law_right CW)) :
    FG P w K mg base CX0 9 fa (PySem.W.fnOf "law" "law" (defArgs s_law) (defBody s_law) (defScope s_law) .none kV dc pm an cd ct) ["script"] (spF K 1 (D_law CW)) :=
  fn1 (fun_mk l c k) sc_law rfl fun cdv A outer s H E gd hr =>
  (y_one (y_ret (x_bltn (cr_all rfl) zAll_ok M.n_all PyProof.Rows.boot_all (xs_cons (x_lcK (own := [("place", 1)]) (fun _ => told_tree) rfl sc_law.nd (xi_walk (x_def d__law_cells gd hr (by decide) (xs_cons (xv 0) (xs_cons x_int xs_nil)))) (g := (gName 1)) (tt := tYes) (blkOk_by (N := N_law) (sc := defScope s_law) (by decide +kernel)) (fun _ _ _ _ _ => (gt_name 1 sc_law.nd)) (by decide) (fun _ _ _ _ _ => xts_nil) (fun _ _ _ _ _ => (x_def d__law_right gd hr (by decide) (xs_cons (x_def d__law_pot gd hr (by decide) (xs_cons (xv 0) (xs_cons (xv 1) xs_nil))) xs_nil)))) xs_nil))))
end K36
set_option Elab.async false
set_option linter.all false
set_option maxRecDepth 100000
set_option maxHeartbeats 4000000
namespace K36
open PySem PySem.Spec PyProof.Rows L2 Rq
theorem take_ok (CW : Addr) {st : ST} {k n : Nat} {u : Int} (h : Pot st k n) (hn : n < 1000000) (hu : 0 < u) (hu2 : u ≤ 1000000) :
    ∃ d st', D__law_take CW [.cel k, .int u] st = .ok (.int d) st' ∧ 0 ≤ d ∧ d < u ∧ Adv k st st' ∧ Pot st' k (n + 1) := by
  obtain ⟨a, b, c, h1, h2, h3, h4, h5, h6, h7⟩ := h
  have hk : k < st.length := (List.getElem?_eq_some_iff.mp h1).1
  have a0 : atI [D.int a, D.int b, D.int c] 0 = some (D.int a) := rfl
  have a1 : atI [D.int a, D.int b, D.int c] 1 = some (D.int b) := rfl
  have a2 : atI [D.int a, D.int b, D.int c] 2 = some (D.int c) := rfl
  unfold D__law_take B__law_take bodyF
  by_cases ha : 0 < a
  · have hub : u.natAbs < 2 ^ 6000 := big_of' (by omega) (by omega)
    refine ⟨a % u, st.set k (some (.lst [.int (a / u), .int b, .int c])), ?_, Int.emod_nonneg _ (by omega), Int.emod_lt_of_pos _ hu, ⟨by simp, fun j _ hj => List.getElem?_set_ne (Ne.symm hj)⟩, ⟨a / u, b, c, List.getElem?_set_self hk, Int.ediv_nonneg h2 (by omega), h3, h4, h5, by omega, by omega⟩⟩
    simp [fSeq, fIf, fTest, f2, fVar, fC, sub_cel h1 a0, zGt, zI, h1, fSet, fA, fCons, fNil, zInt, zMod, hu, zDiv, hub, fSetIx, fRet, Res.ne, ha, ixN, seqIndex?]
  · have a3 : a = 0 := by omega
    subst a3
    generalize hs1 : st.set k (some (.lst [.int 0, .int b, .int (c + 1)])) = st1
    have g1 : st1[k]? = some (some (.lst [.int 0, .int b, .int (c + 1)])) := by rw [← hs1]; exact List.getElem?_set_self hk
    have b1 : atI [D.int 0, D.int b, D.int (c + 1)] 1 = some (D.int b) := rfl
    have b2 : atI [D.int 0, D.int b, D.int (c + 1)] 2 = some (D.int (c + 1)) := rfl
    obtain ⟨p, hp, hp0, hp1⟩ : ∃ p : Int, atI [D.int 2147483647, D.int 2147483629, D.int 2147483587, D.int 2147483579, D.int 2147483563] ((c + 1) % 5) = some (D.int p) ∧ 0 < p ∧ p < 2 ^ 40 := by
      have e0 : 0 ≤ (c + 1) % 5 := Int.emod_nonneg _ (by decide)
      have e1 : (c + 1) % 5 < 5 := Int.emod_lt_of_pos _ (by decide)
      generalize (c + 1) % 5 = r at *
      have : r = 0 ∨ r = 1 ∨ r = 2 ∨ r = 3 ∨ r = 4 := by omega
      rcases this with rfl | rfl | rfl | rfl | rfl <;> exact ⟨_, rfl, by decide, by decide⟩
    have hc2 : (c + 1) * (c + 1) ≤ 1000000000000 := by
      have : c + 1 ≤ 1000000 := by omega
      calc (c + 1) * (c + 1) ≤ 1000000 * 1000000 := Int.mul_le_mul this this (by omega) (by decide)
        _ = _ := by decide
    have hc3 : 0 ≤ (c + 1) * (c + 1) := Int.mul_nonneg (by omega) (by omega)
    have hx : 98303 * (c + 1) * (c + 1) = 98303 * ((c + 1) * (c + 1)) := Int.mul_assoc ..
    generalize hX : b + 98303 * (c + 1) * (c + 1) + 469 = x
    have x0 : 0 ≤ x ∧ x < 2 ^ 200 := by rw [hx] at hX; omega
    have m1 : ∀ s, zMul (.int 98303) (.int (c + 1)) s = .ok (.int (98303 * (c + 1))) s := fun s => mul_ok s (by omega) (by omega)
    have m2 : ∀ s, zMul (.int (98303 * (c + 1))) (.int (c + 1)) s = .ok (.int (98303 * (c + 1) * (c + 1))) s := fun s => mul_ok s (by omega) (by omega)
    have m3 : ∀ s, zMul (.int 89) (.int (c + 1)) s = .ok (.int (89 * (c + 1))) s := fun s => mul_ok s (by omega) (by omega)
    have q3 : ∀ s, zPow (.int x) (.int 3) s = .ok (.int (x ^ 3)) s := fun s => pow3_ok s (by omega)
    generalize hy : x ^ 3 % p = y
    have y0 : 0 ≤ y ∧ y < 2 ^ 40 := by rw [← hy]; exact ⟨Int.emod_nonneg _ (by omega), Int.lt_trans (Int.emod_lt_of_pos _ hp0) hp1⟩
    have y1 : 0 ≤ y % 10009 ∧ y % 10009 < 10009 := ⟨Int.emod_nonneg _ (by decide), Int.emod_lt_of_pos _ (by decide)⟩
    have m4 : ∀ s, zMul (.int y) (.int (y % 10009 + 89 * (c + 1))) s = .ok (.int (y * (y % 10009 + 89 * (c + 1)))) s := fun s => mul_ok s (by omega) (by omega)
    refine ⟨y * (y % 10009 + 89 * (c + 1)) % 2305843009213693907 / 173 % u, st1, ?_, ?_, ?_, ?_, ?_⟩
    · simp [fSeq, fIf, fTest, f2, fVar, fC, sub_cel h1 a0, sub_cel h1 a2, sub_cel g1 b1, sub_cel g1 b2, sub_lst hp, zGt, zI, h1, hs1, fSet, fA, fCons, fNil, fNext, zInt, mod_ok, hu, div_ok, m1, m2, m3, m4, hX, hy, q3, hp0, fSetIx, fRet, fLst, Res.ne, ixN, seqIndex?]
    · exact Int.emod_nonneg _ (by omega)
    · exact Int.emod_lt_of_pos _ hu
    · exact ⟨by rw [← hs1]; simp, fun j _ hj => by rw [← hs1]; exact List.getElem?_set_ne (Ne.symm hj)⟩
    · exact ⟨0, b, c + 1, g1, by omega, h3, h4, by omega, by omega, by omega⟩
theorem of_lst (CW : Addr) {st : ST} {k n : Nat} {xs : List D} (h : Pot st k n) (hn : n < 1000000) (hx : 0 < xs.length) (hx2 : xs.length ≤ 1000000) :
    ∃ d st', D__law_of CW [.cel k, .lst xs] st = .ok d st' ∧ d ∈ xs ∧ Adv k st st' ∧ Pot st' k (n + 1) := by
  obtain ⟨i, st', e, h0, h1, h2, h3⟩ := take_ok CW (u := xs.length) h hn (by omega) (by omega)
  obtain ⟨d, hd, hm⟩ := atI_in (xs := xs) h0 h1
  refine ⟨d, st', ?_, hm, h2, h3⟩
  unfold D__law_of B__law_of bodyF
  simp [fRet, f2, fVar, fCall0, fCons, fNil, fA, zLen, asSeq, asL, e, sub_lst hd]
theorem of_str (CW : Addr) {st : ST} {k n : Nat} {z : Str} (h : Pot st k n) (hn : n < 1000000) (hx : 0 < z.length) (hx2 : z.length ≤ 1000000) :
    ∃ m st', D__law_of CW [.cel k, .str z] st = .ok (.str ⟨#[m]⟩) st' ∧ m ∈ z.cps.toList ∧ Adv k st st' ∧ Pot st' k (n + 1) := by
  obtain ⟨i, st', e, h0, h1, h2, h3⟩ := take_ok CW (u := z.length) h hn (by omega) (by omega)
  obtain ⟨m, hm, hmem⟩ := atI_in (xs := z.cps.toList) h0 (by rw [Array.length_toList]; exact h1)
  refine ⟨m, st', ?_, hmem, h2, h3⟩
  unfold D__law_of B__law_of bodyF
  simp [fRet, f2, fVar, fCall0, fCons, fNil, fA, zLen, hx2, e, sub_str hx2 hm]
theorem sl1_ok (ns : List Int) (st : ST) : zSl (.lsr (ns.map D.int)) none (some 1) st = .ok (.lst ((ns.take 1).map D.int)) st := by
  unfold zSl
  cases ns with
  | nil => simp [Rq.cutD, HT.sIx, asL]
  | cons x r => simp [Rq.cutD, HT.sIx, asL]
theorem intsOf_take (ns : List Int) : intsOf ((ns.map D.int).take 1) = some (ns.take 1) := by rw [← List.map_take]; exact intsOf_map _
theorem pow_ok {i j : Int} (st : ST) (h1 : -(2 ^ 256) < i ∧ i < 2 ^ 256) (h2 : 0 ≤ j ∧ j ≤ 1000) : zPow (.int i) (.int j) st = .ok (.int (i ^ j.toNat)) st := by
  unfold zPow zI
  have e1 : i.natAbs < 2 ^ 6000 := big_of (by omega)
  simp [e1, h2]
theorem pot_ok (CW : Addr) (ns : List Int) (p : Int) (st : ST) (hp : 0 ≤ p ∧ p ≤ 3) : ∃ st', D__law_pot CW [.lsr (ns.map D.int), .int p] st = .ok (.cel st.length) st' ∧ st' = st ++ [st'[st.length]?.getD none] ∧ Pot st' st.length 0 := by
  unfold D__law_pot B__law_pot bodyF
  have hc : ∀ sl : SL, sl[0]? = some (some (.lsr (ns.map D.int))) → sl[1]? = some (some (.int p)) → ∃ cell, (fIfE (f2 zLt (fVar 1) (fA zLen (fCons (fVar 0) fNil))) (f2 zSub2 (fVar 0) (fVar 1)) (f2 zAdd (f2 zAdd (f2 zMod (fA zSum (fCons (fSl (fVar 0) oNone (oSome (fC (.int 1)))) fNil)) (fC (.int 1000003))) (f2 zMul (fC (.int 1141)) (fVar 1))) (fC (.int 533)))) sl st = .ok (.int cell) st := by
    intro sl e0 e1
    by_cases h : p < ns.length
    · obtain ⟨d, hd, hm⟩ := atI_in (xs := ns.map D.int) hp.1 (by simpa using h)
      obtain ⟨c, _, rfl⟩ := List.mem_map.mp hm
      refine ⟨c, ?_⟩
      simp [fIfE, fTest, f2, fVar, e0, e1, fA, fCons, fNil, zLen, asSeq, asL, zLt, zI, h, zSub2, asDct, zIx, hd]
    · refine ⟨(ns.take 1).sum % 1000003 + 1141 * p + 533, ?_⟩
      have m1 : ∀ s, zMul (.int 1141) (.int p) s = .ok (.int (1141 * p)) s := fun s => mul_ok s (by omega) (by omega)
      simp [fIfE, fTest, f2, fVar, fC, e0, e1, fA, fCons, fNil, zLen, asSeq, asL, zLt, zI, h, fSl, oNone, oSome, sl1_ok, zSum, zOfL, intsOf_take, mod_ok, m1]
  obtain ⟨cell, e1⟩ := hc [some (.lsr (ns.map D.int)), some (.int p), none, none, none] rfl rfl
  have m0 : 0 ≤ cell % 2305843009213693951 ∧ cell % 2305843009213693951 < 2305843009213693951 := ⟨Int.emod_nonneg _ (by decide), Int.emod_lt_of_pos _ (by decide)⟩
  obtain ⟨v, hv⟩ : ∃ v : Int, v = if cell < 0 then -cell else cell := ⟨_, rfl⟩
  have v0 : 0 ≤ v := by rw [hv]; split <;> omega
  have ab : ∀ s, zAbs [.int cell] s = .ok (.int v) s := fun s => by rw [hv]; rfl
  have p1 : ∀ s, zPow (.int 10) (.int 60) s = .ok (.int (10 ^ 60)) s := fun s => pow_ok s (by decide) (by decide)
  have p2 : ∀ s, zPow (.int (10 ^ 60)) (.int 5) s = .ok (.int ((10 ^ 60) ^ 5)) s := fun s => pow_ok s (by decide) (by decide)
  have p3 : ∀ s, zPow (.int 10) (.int 18) s = .ok (.int (10 ^ 18)) s := fun s => pow_ok s (by decide) (by decide)
  generalize hP : ((10 : Int) ^ 60) ^ 5 = P at p2
  have hP' : ((10 : Int) ^ 60) ^ 5 = P := hP
  generalize (10 : Int) ^ 60 = Q60 at p1 p2
  have P0 : 0 < P := by rw [← hP']; decide
  have P1 : P < 2 ^ 1000 := by rw [← hP']; decide
  obtain ⟨t, ht⟩ : ∃ t : Int, t = if (10 : Int) ^ 18 ≤ v then 1 else 0 := ⟨_, rfl⟩
  have t0 : 0 ≤ t ∧ t ≤ 1 := by rw [ht]; split <;> omega
  have o0 : 0 ≤ v % P ∧ v % P < P := ⟨Int.emod_nonneg _ (by omega), Int.emod_lt_of_pos _ P0⟩
  have mo : ∀ s, zMul (.int (v % P)) (.int t) s = .ok (.int (v % P * t)) s := fun s => by
    unfold zMul
    have e1 : (v % P).natAbs < 2 ^ 6000 := Nat.lt_of_lt_of_le (m := 2 ^ 1000) (by omega) (Nat.pow_le_pow_right (by decide) (by decide))
    have e2 : t.natAbs < 2 ^ 6000 := big_of (by omega)
    simp [e1, e2]
  generalize hc0 : cell % 2305843009213693951 = r at *
  have hpp : 0 ≤ p * p ∧ p * p ≤ 9 := by
    have : p = 0 ∨ p = 1 ∨ p = 2 ∨ p = 3 := by omega
    rcases this with rfl | rfl | rfl | rfl <;> decide
  have m1 : ∀ s, zMul (.int r) (.int 73205) s = .ok (.int (r * 73205)) s := fun s => mul_ok s (by omega) (by omega)
  have m2 : ∀ s, zMul (.int 8111) (.int p) s = .ok (.int (8111 * p)) s := fun s => mul_ok s (by omega) (by omega)
  have m3 : ∀ s, zMul (.int (8111 * p)) (.int p) s = .ok (.int (8111 * p * p)) s := fun s => mul_ok s (by omega) (by omega)
  refine ⟨st ++ [some (.lst [.int (v % P * t), .int ((r * 73205 + 8111 * p * p + 484) % 2305843009213693921), .int 0])], ?_, ?_, ⟨v % P * t, (r * 73205 + 8111 * p * p + 484) % 2305843009213693921, 0, by simp, Int.mul_nonneg o0.1 t0.1, Int.emod_nonneg _ (by decide), by have := Int.emod_lt_of_pos (r * 73205 + 8111 * p * p + 484) (show (0 : Int) < 2305843009213693921 by decide); omega, by decide, by decide, by decide⟩⟩
  · generalize (10 : Int) ^ 18 = Q18 at p3 ht
    have i1 : ∀ (x : Int) (s : ST), zInt [.int x] s = .ok (.int x) s := fun _ _ => rfl
    have gt : ∀ s, zGe (.int v) (.int Q18) s = .ok (.bl (decide (Q18 ≤ v))) s := fun s => rfl
    have it : ∀ s, zInt [.bl (decide (Q18 ≤ v))] s = .ok (.int t) s := fun s => by rw [ht]; unfold zInt; simp
    simp only [fSeq, fSet, List.map_cons, List.map_nil, List.length_cons, List.length_nil, List.cons_append, List.nil_append]
    simp [e1]
    simp [f2, fVar, fC, fA, fCons, fNil, ab, i1, p1, p2, p3, mod_ok, P0, gt, it, mo, hc0, m1, m2, m3, fRet, fNew]
  · simp
end K36
set_option Elab.async false
set_option linter.all false
set_option maxRecDepth 100000
set_option maxHeartbeats 400000
namespace K36
open PySem PySem.Spec PyProof.Rows L2 Rq
theorem ext_c {f : EF} {g : AF} {sl : SL} {st : ST} {q : Nat} {xs ys : List D} (hf : f sl st = .ok (.cel q) st) (hq : st[q]? = some (some (.lst xs))) (hg : g sl st = .ok [.lst ys] st) (hz : xs.length + ys.length ≤ 1000000) : (fM zExtend f g) sl st = .ok .non (st.set q (some (.lst (xs ++ ys)))) := by
  have ha : asL (.cel q) st = some xs := by unfold asL; simp only [hq]
  have hw : asLw (.lst ys) st = some ys := rfl
  unfold fM
  rw [hf, bind_ok, ha]
  dsimp only
  rw [hg, bind_ok]
  unfold zExtend
  simp only [hq, hw]
  rw [if_pos (decide_eq_true hz)]
/-! the suite of _law_caught -/
def isi (w y : Str) : EF := (fTup (fCons (fC (.str w)) (fCons (f1 (zIsiE EL y) (fVar 1)) fNil)))
def cu1 : SF := (fSet 2 (fNew (fCons (isi "rule" "BadRule") (fCons (isi "rate" "BadRate") fNil))))
def cu2 : SF := (fExpr (fM zExtend (fVar 2) (fCons (fLst (fCons (isi "slow" "TooSlow") (fCons (isi "number" "BadNumber") fNil))) fNil)))
def cuL : EF := (fLcH kTree (fVar 2) (tTupT 2 (tfCons (tName 3) (tfCons (tName 4) tfNil))) (cOne (fVar 4)) (fVar 3) [3, 4])
def cu3 : SF := (fRet (fTup (fCons cuL (fCons (f1 (zExcV EL) (fVar 1)) fNil))))
def cuS : SF := fSeq cu1 (fSeq cu2 cu3)
theorem caught_is (CW : Addr) (fb : EF) (chk : Chk) : B__law_caught CW fb chk = fSeq (fTry EL 1 (fExpr (fAct fb chk)) cuS) (fRet (fC .non)) := rfl
def mkw (w : Str) (b : Bool) : D := .tup [.str w, .bl b]
def wds (b1 b2 b3 b4 : Bool) : List D := (if b1 then [.str "rule"] else []) ++ ((if b2 then [.str "rate"] else []) ++ ((if b3 then [.str "slow"] else []) ++ (if b4 then [.str "number"] else [])))
theorem isi_ok {x : Str} (he : EL.contains x = true) (w y : Str) {sl : SL} {d : D} (h1 : sl[1]? = some (some (.exc x d))) (st : ST) : isi w y sl st = .ok (mkw w (x == y)) st := by
  have v : (fVar 1) sl st = .ok (.exc x d) st := by unfold fVar; rw [h1]
  have u : (f1 (zIsiE EL y) (fVar 1)) sl st = .ok (.bl (x == y)) st := by
    rw [f1_of v]
    unfold zIsiE isE
    simp only [he, if_true]
  unfold isi fTup
  rw [two_args (f := fC (.str w)) (d := .str w) (st1 := st) rfl u, bind_ok]
  rfl
theorem cuL_ok {b1 b2 b3 b4 : Bool} {x0 x1 x3 x4 : Option D} {st : ST} {q : Nat} (hq : st[q]? = some (some (.lst [mkw "rule" b1, mkw "rate" b2, mkw "slow" b3, mkw "number" b4]))) : cuL [x0, x1, some (.cel q), x3, x4] st = .ok (.lst (wds b1 b2 b3 b4)) st := by
  have back : (st.set q none).set q (some (.lst [mkw "rule" b1, mkw "rate" b2, mkw "slow" b3, mkw "number" b4])) = st := by
    rw [List.set_set]
    apply List.ext_getElem?
    intro i
    by_cases e : q = i
    · subst e
      rw [List.getElem?_set_self (List.getElem?_eq_some_iff.mp hq).1, hq]
    · rw [List.getElem?_set_ne e]
  have c : ∀ s : ST, compF (tTupT 2 (tfCons (tName 3) (tfCons (tName 4) tfNil))) (cOne (fVar 4)) (fVar 3) (wipeD [x0, x1, some (.cel q), x3, x4] [3, 4]) [mkw "rule" b1, mkw "rate" b2, mkw "slow" b3, mkw "number" b4] s = .ok (wds b1 b2 b3 b4) s := by
    intro s
    cases b1 <;> cases b2 <;> cases b3 <;> cases b4 <;> rfl
  unfold cuL fLcH
  rw [show (fVar 2) [x0, x1, some (.cel q), x3, x4] st = .ok (.cel q) st from rfl, bind_ok]
  dsimp only
  rw [hq]
  dsimp only
  rw [if_pos (by show decide ((4 : Nat) ≤ 1000000) = true; decide), c, bind_ok]
  show Res.ok _ ((st.set q none).set q _) = _
  rw [back]
theorem cuS_ok {x : Str} (he : EL.contains x = true) {d f0 : D} (st : ST) : ∃ m : Option Cell, cuS [some f0, some (.exc x d), none, none, none] st = .ok (.rt (.tup [.lst (wds (x == "BadRule") (x == "BadRate") (x == "TooSlow") (x == "BadNumber")), d])) (st ++ [m]) := by
  have g1 : cu1 [some f0, some (.exc x d), none, none, none] st = .ok (.nx [some f0, some (.exc x d), some (.cel st.length), none, none]) (st ++ [some (.lst [mkw "rule" (x == "BadRule"), mkw "rate" (x == "BadRate")])]) := by
    refine set_of (d := .cel st.length) ?_
    unfold fNew
    rw [two_args (isi_ok he "rule" "BadRule" rfl st) (isi_ok he "rate" "BadRate" rfl st), bind_ok]
    rfl
  have g2 : ∀ s : ST, s = st ++ [some (.lst [mkw "rule" (x == "BadRule"), mkw "rate" (x == "BadRate")])] → cu2 [some f0, some (.exc x d), some (.cel st.length), none, none] s = .ok (.nx [some f0, some (.exc x d), some (.cel st.length), none, none]) (s.set st.length (some (.lst [mkw "rule" (x == "BadRule"), mkw "rate" (x == "BadRate"), mkw "slow" (x == "TooSlow"), mkw "number" (x == "BadNumber")]))) := by
    rintro s rfl
    refine expr_of (d := .non) ?_
    refine ext_c (xs := [mkw "rule" (x == "BadRule"), mkw "rate" (x == "BadRate")]) (ys := [mkw "slow" (x == "TooSlow"), mkw "number" (x == "BadNumber")]) rfl (get_app _ _) (one_arg ?_) (by show (2 : Nat) + 2 ≤ 1000000; decide)
    unfold fLst
    rw [two_args (isi_ok he "slow" "TooSlow" rfl _) (isi_ok he "number" "BadNumber" rfl _), bind_ok]
    rfl
  have g2 := g2 _ rfl
  rw [set_app] at g2
  refine ⟨some (.lst [mkw "rule" (x == "BadRule"), mkw "rate" (x == "BadRate"), mkw "slow" (x == "TooSlow"), mkw "number" (x == "BadNumber")]), (seq_of g1).trans ((seq_of g2).trans (ret_of ?_))⟩
  have v : (f1 (zExcV EL) (fVar 1)) [some f0, some (.exc x d), some (.cel st.length), none, none] (st ++ [some (.lst [mkw "rule" (x == "BadRule"), mkw "rate" (x == "BadRate"), mkw "slow" (x == "TooSlow"), mkw "number" (x == "BadNumber")])]) = .ok d (st ++ [some (.lst [mkw "rule" (x == "BadRule"), mkw "rate" (x == "BadRate"), mkw "slow" (x == "TooSlow"), mkw "number" (x == "BadNumber")])]) := by
    rw [f1_of (x := .exc x d) (st1 := st ++ [some (.lst [mkw "rule" (x == "BadRule"), mkw "rate" (x == "BadRate"), mkw "slow" (x == "TooSlow"), mkw "number" (x == "BadNumber")])]) rfl]
    unfold zExcV
    simp only [he, if_true]
  unfold fTup
  rw [two_args (cuL_ok (get_app _ _)) v, bind_ok]
  rfl
theorem caught_err (CW : Addr) {fb : EF} {sl sl1 : SL} {st st1 : ST} {d : D} {x : Str} (he : EL.contains x = true) (h : fb sl st = .err x d sl1 st1) : ∃ m : Option Cell, fHeard 5 (B__law_caught CW) fb sl st = .ok (.tup [.lst (wds (x == "BadRule") (x == "BadRate") (x == "TooSlow") (x == "BadNumber")), d]) (st1 ++ [m]) := by
  obtain ⟨m, e⟩ := cuS_ok he (d := d) (f0 := .fn 0 0 "" [] sl) st1
  refine ⟨m, ?_⟩
  unfold fHeard
  refine body_rt ?_
  rw [caught_is]
  have a : (fAct fb chk1) [some (.fn 0 0 "" [] sl), none, none, none, none] st = .err x d [some (.fn 0 0 "" [] sl), none, none, none, none] st1 := by
    unfold fAct
    simp only [List.getElem?_cons_zero, if_true, h]
    rfl
  have t : (fTry EL 1 (fExpr (fAct fb chk1)) cuS) [some (.fn 0 0 "" [] sl), none, none, none, none] st = .ok (.rt (.tup [.lst (wds (x == "BadRule") (x == "BadRate") (x == "TooSlow") (x == "BadNumber")), d])) (st1 ++ [m]) := by
    unfold fTry fExpr
    rw [a]
    show (if EL.contains x then dropS 1 (cuS _ st1) else _) = _
    rw [if_pos he]
    show dropS 1 (cuS [some (.fn 0 0 "" [] sl), some (.exc x d), none, none, none] st1) = _
    rw [e]
    rfl
  show (fSeq _ _) [some (.fn 0 0 "" [] sl), none, none, none, none] st = _
  unfold fSeq
  rw [t]
  rfl
end K36
set_option Elab.async false
set_option linter.all false
set_option maxRecDepth 100000
set_option maxHeartbeats 400000
namespace K36
open PySem PySem.Spec PyProof.Rows L2 Rq
def RA : List D := [.str "first", .str "nearest", .str "gone"]
def RB : List D := [.str "last", .str "eldest", .str "farthest", .str "First", .str "", .non, .int 1, .tup [.str "first"], .lst [.str "first"], .bl true]
def TA : List D := [.tup [.int 9, .int 10, .int 41]]
def TS : List D := [.tup [.int 89, .int 100, .int 50], .tup [.int 9, .int 10, .int 40], .tup [.int 17, .int 20, .int 45], .tup [.int 99, .int 100, .int 1]]
def TB : List D := [.tup [.int 10, .int 10, .int 41], .tup [.int 9, .int 10, .int 51], .tup [.int 0, .int 10, .int 41], .tup [.int 9, .int 10], .lst [.int 9, .int 10, .int 41], .tup [.int 9, .int 10, .bl true], .non, .str "9 10 41", .tup [.int 9, .int 10, .int 41, .int 1], .tup [.int 9, .int 101, .int 41], .tup [.int (-9), .int 10, .int 41]]
def GO : List D := [.int 99, .int 401, .int 0, .int (-100), .bl true, .non, .str "100", .tup [.int 100], .int (10 ^ 30), .int 40]
/-- what is refused with the error x, named w -/
def Ref (x w : Str) (v : D) (CW : Addr) (due put : ST → Res D) : Prop := ∀ s, due s = .ok (.tup [.lst [.str w], v]) s ∧ ∃ sl1, put s = .err x v sl1 s
theorem ru_bad {r : D} (h : r ∈ RB) (CW : Addr) (t g : D) : Ref "BadRule" "rule" r CW (D__law_due CW [r, t, g]) (D_putterR CW [r, t, g]) := by
  unfold RB at h
  simp only [List.mem_cons, List.not_mem_nil, or_false] at h
  intro s
  rcases h with rfl | rfl | rfl | rfl | rfl | rfl | rfl | rfl | rfl | rfl <;> exact ⟨rfl, _, rfl⟩
theorem bl_bad {r : D} (h : r ∈ RB) (CW : Addr) (s : ST) : ∃ sl1, D_blown_webR CW [r] s = .err "BadRule" r sl1 s := by
  unfold RB at h
  simp only [List.mem_cons, List.not_mem_nil, or_false] at h
  rcases h with rfl | rfl | rfl | rfl | rfl | rfl | rfl | rfl | rfl | rfl <;> exact ⟨_, rfl⟩
theorem ra_bad {r t : D} (hr : r ∈ RA) (h : t ∈ TB) (CW : Addr) (g : D) : Ref "BadRate" "rate" t CW (D__law_due CW [r, t, g]) (D_putterR CW [r, t, g]) := by
  unfold TB at h
  unfold RA at hr
  simp only [List.mem_cons, List.not_mem_nil, or_false] at h hr
  intro s
  rcases hr with rfl | rfl | rfl <;> rcases h with rfl | rfl | rfl | rfl | rfl | rfl | rfl | rfl | rfl | rfl | rfl <;> exact ⟨rfl, _, rfl⟩
theorem rs_bad {r t : D} (hr : r ∈ RA) (h : t ∈ TS) (CW : Addr) (g : D) : Ref "TooSlow" "slow" t CW (D__law_due CW [r, t, g]) (D_putterR CW [r, t, g]) := by
  unfold TS at h
  unfold RA at hr
  simp only [List.mem_cons, List.not_mem_nil, or_false] at h hr
  intro s
  rcases hr with rfl | rfl | rfl <;> rcases h with rfl | rfl | rfl | rfl <;> exact ⟨rfl, _, rfl⟩
theorem rg_bad {r t g : D} (hr : r ∈ RA) (ht : t ∈ TA) (h : g ∈ GO) (CW : Addr) : Ref "BadNumber" "number" g CW (D__law_due CW [r, t, g]) (D_putterR CW [r, t, g]) := by
  unfold GO at h
  unfold TA at ht
  unfold RA at hr
  simp only [List.mem_cons, List.not_mem_nil, or_false] at h hr ht
  intro s
  rcases hr with rfl | rfl | rfl <;> subst ht <;> rcases h with rfl | rfl | rfl | rfl | rfl | rfl | rfl | rfl | rfl | rfl <;> exact ⟨rfl, _, rfl⟩
def Shows (w : Str) (v : D) : Prop := ∃ z : Str, ∀ s, zRepr4 [.tup [.lst [.str w], v]] s = .ok (.str z) s
theorem sh_tup {xs : List D} {p : PyData} (h : toPy (.tup xs) = some p) (hk : reprOkB p = true) : ∃ z : Str, ∀ s, zRepr4 [.tup xs] s = .ok (.str z) s := by
  refine ⟨p.shown, fun s => ?_⟩
  have e : toPyS (.tup xs) s = some p := h
  show (match toPyS (.tup xs) s with
      | some d => if reprOkB d then Res.ok (D.str d.shown) s else Res.stuck
      | none => Res.stuck) = _
  rw [e]
  show (if reprOkB p then _ else _) = _
  rw [if_pos hk]
theorem sh_r {v : D} (h : v ∈ RB) : Shows "rule" v := by
  unfold RB at h
  simp only [List.mem_cons, List.not_mem_nil, or_false] at h
  rcases h with rfl | rfl | rfl | rfl | rfl | rfl | rfl | rfl | rfl | rfl <;> exact sh_tup rfl (by decide +kernel)
theorem sh_t {v : D} (h : v ∈ TB) : Shows "rate" v := by
  unfold TB at h
  simp only [List.mem_cons, List.not_mem_nil, or_false] at h
  rcases h with rfl | rfl | rfl | rfl | rfl | rfl | rfl | rfl | rfl | rfl | rfl <;> exact sh_tup rfl (by decide +kernel)
theorem sh_s {v : D} (h : v ∈ TS) : Shows "slow" v := by
  unfold TS at h
  simp only [List.mem_cons, List.not_mem_nil, or_false] at h
  rcases h with rfl | rfl | rfl | rfl <;> exact sh_tup rfl (by decide +kernel)
theorem sh_g {v : D} (h : v ∈ GO) : Shows "number" v := by
  unfold GO at h
  simp only [List.mem_cons, List.not_mem_nil, or_false] at h
  rcases h with rfl | rfl | rfl | rfl | rfl | rfl | rfl | rfl | rfl | rfl <;> exact sh_tup rfl (by decide +kernel)
structure XW (x w : Str) : Prop where
  el : EL.contains x = true
  ws : wds (x == "BadRule") (x == "BadRate") (x == "TooSlow") (x == "BadNumber") = [.str w]
theorem xw1 : XW "BadRule" "rule" := ⟨by decide +kernel, by
  have h : (("BadRule" : Str) == "BadRule") = true ∧ (("BadRule" : Str) == "BadRate") = false ∧ (("BadRule" : Str) == "TooSlow") = false ∧ (("BadRule" : Str) == "BadNumber") = false := by decide +kernel
  obtain ⟨h1, h2, h3, h4⟩ := h
  rw [h1, h2, h3, h4]; rfl⟩
theorem xw2 : XW "BadRate" "rate" := ⟨by decide +kernel, by
  have h : (("BadRate" : Str) == "BadRule") = false ∧ (("BadRate" : Str) == "BadRate") = true ∧ (("BadRate" : Str) == "TooSlow") = false ∧ (("BadRate" : Str) == "BadNumber") = false := by decide +kernel
  obtain ⟨h1, h2, h3, h4⟩ := h
  rw [h1, h2, h3, h4]; rfl⟩
theorem xw3 : XW "TooSlow" "slow" := ⟨by decide +kernel, by
  have h : (("TooSlow" : Str) == "BadRule") = false ∧ (("TooSlow" : Str) == "BadRate") = false ∧ (("TooSlow" : Str) == "TooSlow") = true ∧ (("TooSlow" : Str) == "BadNumber") = false := by decide +kernel
  obtain ⟨h1, h2, h3, h4⟩ := h
  rw [h1, h2, h3, h4]; rfl⟩
theorem xw4 : XW "BadNumber" "number" := ⟨by decide +kernel, by
  have h : (("BadNumber" : Str) == "BadRule") = false ∧ (("BadNumber" : Str) == "BadRate") = false ∧ (("BadNumber" : Str) == "TooSlow") = false ∧ (("BadNumber" : Str) == "BadNumber") = true := by decide +kernel
  obtain ⟨h1, h2, h3, h4⟩ := h
  rw [h1, h2, h3, h4]; rfl⟩
end K36
set_option Elab.async false
set_option linter.all false
set_option maxRecDepth 100000
set_option maxHeartbeats 400000
namespace K36
open PySem PySem.Spec PyProof.Rows L2 Rq
def rr0 (CW : Addr) : SF := (fSet 1 (fNew (fCons (fC (.str "first")) (fCons (fC (.str "nearest")) (fCons (fC (.str "gone")) (fCons (fC (.str "last")) (fCons (fC (.str "eldest")) (fCons (fC (.str "farthest")) (fCons (fC (.str "First")) (fCons (fC (.str "")) (fCons (fC .non) (fCons (fC (.int 1)) (fCons (fTup (fCons (fC (.str "first")) fNil)) fNil)))))))))))))
def rr1 (CW : Addr) : SF := (fExprFz 1 (fM zExtend (fVar 1) (fCons (fLst (fCons (fLst (fCons (fC (.str "first")) fNil)) (fCons (fC (.bl true)) fNil))) fNil)))
def rr2 (CW : Addr) : SF := (fSet 2 (fNew (fCons (fTup (fCons (fC (.int 9)) (fCons (fC (.int 10)) (fCons (fC (.int 41)) fNil)))) (fCons (fTup (fCons (fC (.int 89)) (fCons (fC (.int 100)) (fCons (fC (.int 50)) fNil)))) (fCons (fTup (fCons (fC (.int 9)) (fCons (fC (.int 10)) (fCons (fC (.int 40)) fNil)))) (fCons (fTup (fCons (fC (.int 17)) (fCons (fC (.int 20)) (fCons (fC (.int 45)) fNil)))) (fCons (fTup (fCons (fC (.int 10)) (fCons (fC (.int 10)) (fCons (fC (.int 41)) fNil)))) (fCons (fTup (fCons (fC (.int 9)) (fCons (fC (.int 10)) (fCons (fC (.int 51)) fNil)))) (fCons (fTup (fCons (fC (.int 0)) (fCons (fC (.int 10)) (fCons (fC (.int 41)) fNil)))) fNil)))))))))
def rr3 (CW : Addr) : SF := (fExpr (fM zExtend (fVar 2) (fCons (fLst (fCons (fTup (fCons (fC (.int 9)) (fCons (fC (.int 10)) fNil))) (fCons (fLst (fCons (fC (.int 9)) (fCons (fC (.int 10)) (fCons (fC (.int 41)) fNil)))) (fCons (fTup (fCons (fC (.int 9)) (fCons (fC (.int 10)) (fCons (fC (.bl true)) fNil)))) (fCons (fC .non) (fCons (fC (.str "9 10 41")) (fCons (fTup (fCons (fC (.int 9)) (fCons (fC (.int 10)) (fCons (fC (.int 41)) (fCons (fC (.int 1)) fNil))))) fNil))))))) fNil)))
def rr4 (CW : Addr) : SF := (fExprFz 2 (fM zExtend (fVar 2) (fCons (fLst (fCons (fTup (fCons (fC (.int 9)) (fCons (fC (.int 101)) (fCons (fC (.int 41)) fNil)))) (fCons (fTup (fCons (fC (.int 99)) (fCons (fC (.int 100)) (fCons (fC (.int 1)) fNil)))) (fCons (fTup (fCons (f1 zNeg (fC (.int 9))) (fCons (fC (.int 10)) (fCons (fC (.int 41)) fNil)))) fNil)))) fNil)))
def rr5 (CW : Addr) : SF := (fSet 3 (fLst (fCons (fC (.int 99)) (fCons (fC (.int 401)) (fCons (fC (.int 0)) (fCons (f1 zNeg (fC (.int 100))) (fCons (fC (.bl true)) (fCons (fC .non) (fCons (fC (.str "100")) (fCons (fTup (fCons (fC (.int 100)) fNil)) (fCons (f2 zPow (fC (.int 10)) (fC (.int 30))) (fCons (fC (.int 40)) fNil))))))))))))
def lapA (CW : Addr) : SF := (fIf (f1 zNot (fCall0 3 (D__law_is_refused CW) (fCons (fCall0 2 (D__law_of CW) (fCons (fVar 0) (fCons (f1 zFz (fVar 1)) fNil))) (fCons (fCall0 2 (D__law_of CW) (fCons (fVar 0) (fCons (f1 zFz (fVar 2)) fNil))) (fCons (fCall0 2 (D__law_of CW) (fCons (fVar 0) (fCons (fVar 3) fNil))) fNil))))) (fRet (fC (.bl false))) fNext)
def lapB (CW : Addr) : SF := (fIf (f1 zNot (fCall0 3 (D__law_is_refused CW) (fCons (fCall0 2 (D__law_of CW) (fCons (fVar 0) (fCons (fSl (fVar 1) oNone (oSome (fC (.int 3)))) fNil))) (fCons (fCall0 2 (D__law_of CW) (fCons (fVar 0) (fCons (f1 zFz (fVar 2)) fNil))) (fCons (fCall0 2 (D__law_of CW) (fCons (fVar 0) (fCons (fVar 3) fNil))) fNil))))) (fRet (fC (.bl false))) fNext)
def lapL (CW : Addr) : SF := fSeq (lapA CW) (lapB CW)
def el7 (CW : Addr) : EF := (fCall0 2 (D__law_of CW) (fCons (fVar 0) (fCons (fSl (fVar 1) (oSome (fC (.int 3))) oNone) fNil)))
def el8 (CW : Addr) : EF := (f2 zEq (fA zRepr4 (fCons (fHeard 5 (B__law_caught CW) (fCallR 1 (D_blown_webR CW) (fCons (fVar 6) fNil))) fNil)) (fA zRepr4 (fCons (fTup (fCons (fLst (fCons (fC (.str "rule")) fNil)) (fCons (fVar 6) fNil))) fNil)))
def rr6 (CW : Addr) : SF := fFor (fRange1 (fCons (fC (.int 12)) fNil)) (tName 4) (lapL CW)
def rr7 (CW : Addr) : SF := fSet 5 (fLcK kTree (fRange1 (fCons (fC (.int 4)) fNil)) (tName 4) cYes (el7 CW) [4])
def rr8 (CW : Addr) : SF := fRet (fA zAll (fCons (fLcK kTree (fWalk (fVar 5)) (tName 6) cYes (el8 CW) [6]) fNil))
theorem right_is (CW : Addr) : B__law_right CW = fSeq (rr0 CW) (fSeq (rr1 CW) (fSeq (rr2 CW) (fSeq (rr3 CW) (fSeq (rr4 CW) (fSeq (rr5 CW) (fSeq (rr6 CW) (fSeq (rr7 CW) (rr8 CW)))))))) := rfl
def R11 : List D := [.str "first", .str "nearest", .str "gone", .str "last", .str "eldest", .str "farthest", .str "First", .str "", .non, .int 1, .tup [.str "first"]]
def R2 : List D := [.lst [.str "first"], .bl true]
def T7 : List D := [.tup [.int 9, .int 10, .int 41], .tup [.int 89, .int 100, .int 50], .tup [.int 9, .int 10, .int 40], .tup [.int 17, .int 20, .int 45], .tup [.int 10, .int 10, .int 41], .tup [.int 9, .int 10, .int 51], .tup [.int 0, .int 10, .int 41]]
def T6 : List D := [.tup [.int 9, .int 10], .lst [.int 9, .int 10, .int 41], .tup [.int 9, .int 10, .bl true], .non, .str "9 10 41", .tup [.int 9, .int 10, .int 41, .int 1]]
def T3 : List D := [.tup [.int 9, .int 101, .int 41], .tup [.int 99, .int 100, .int 1], .tup [.int (-9), .int 10, .int 41]]
theorem ru_in {r : D} (h : r ∈ R11 ++ R2) : r ∈ RA ∨ r ∈ RB := by
  unfold R11 R2 at h
  unfold RA RB
  simp only [List.cons_append, List.nil_append, List.mem_cons, List.not_mem_nil, or_false] at h ⊢
  rcases h with h | h | h | h | h | h | h | h | h | h | h | h | h <;> simp [h]
theorem rt_in {r : D} (h : r ∈ T7 ++ T6 ++ T3) : r ∈ TA ∨ r ∈ TS ∨ r ∈ TB := by
  unfold T7 T6 T3 at h
  unfold TA TS TB
  simp only [List.cons_append, List.nil_append, List.mem_cons, List.not_mem_nil, or_false] at h ⊢
  rcases h with h | h | h | h | h | h | h | h | h | h | h | h | h | h | h | h <;> simp [h]
theorem ref_ok {x w : Str} {v r t g : D} (X : XW x w) (sh : Shows w v) (CW : Addr) (h : Ref x w v CW (D__law_due CW [r, t, g]) (D_putterR CW [r, t, g])) (s : ST) : ∃ m : Option Cell, D__law_is_refused CW [r, t, g] s = .ok (.bl true) (s ++ [m]) := by
  obtain ⟨h1, sl1, h2⟩ := h s
  obtain ⟨z, hz⟩ := sh
  have u0 : (fCons (fVar 0) (fCons (fVar 1) (fCons (fVar 2) fNil))) [some r, some t, some g, none] s = .ok [r, t, g] s := rfl
  have g1 := set_of (i := 3) (call0_of (n := 3) (F := D__law_due CW) u0 rfl h1)
  have u1 : (fCons (fVar 0) (fCons (fVar 1) (fCons (fVar 2) fNil))) [some r, some t, some g, some (.tup [.lst [.str w], v])] s = .ok [r, t, g] s := rfl
  have fb : (fCallR 3 (D_putterR CW) (fCons (fVar 0) (fCons (fVar 1) (fCons (fVar 2) fNil)))) [some r, some t, some g, some (.tup [.lst [.str w], v])] s = .err x v [some r, some t, some g, some (.tup [.lst [.str w], v])] s := by
    unfold fCallR
    rw [u1, bind_ok]
    show (D_putterR CW [r, t, g] s).at _ = _
    rw [h2]
    rfl
  obtain ⟨m, hc⟩ := caught_err CW X.el fb
  rw [X.ws] at hc
  refine ⟨m, ?_⟩
  unfold D__law_is_refused
  refine body_rt ?_
  unfold B__law_is_refused
  refine (seq_of g1).trans (ret_of ?_)
  refine (or_f rfl).trans ?_
  refine (f2_of ((fA_of (one_arg hc)).trans (hz _)) ((fA_of (one_arg (f := fVar 3) (d := .tup [.lst [.str w], v]) (st1 := s ++ [m]) rfl)).trans (hz _))).trans ?_
  show (Res.ok (D.bl (decide (z = z))) (s ++ [m]) : Res D) = _
  rw [decide_eq_true rfl]
theorem refused_ok {r t g : D} (hr : r ∈ RA ∨ r ∈ RB) (ht : t ∈ TA ∨ t ∈ TS ∨ t ∈ TB) (hg : g ∈ GO) (CW : Addr) (s : ST) : ∃ m : Option Cell, D__law_is_refused CW [r, t, g] s = .ok (.bl true) (s ++ [m]) := by
  rcases hr with hr | hr
  · rcases ht with ht | ht | ht
    · exact ref_ok xw4 (sh_g hg) CW (rg_bad hr ht hg CW) s
    · exact ref_ok xw3 (sh_s ht) CW (rs_bad hr ht CW g) s
    · exact ref_ok xw2 (sh_t ht) CW (ra_bad hr ht CW g) s
  · exact ref_ok xw1 (sh_r hr) CW (ru_bad hr CW t g) s
theorem fz_row {e : EF} {i q : Nat} {sl : SL} {st st1 : ST} {xs : List D} (h : e sl st = .ok .non st1) (hi : sl[i]? = some (some (.cel q))) (hq : st1[q]? = some (some (.lst xs))) : fExprFz i e sl st = .ok (.nx (sl.set i (some (.lst xs)))) (st1.set q none) := by
  unfold fExprFz
  rw [h, bind_ok, hi]
  dsimp only
  rw [hq]
theorem head_ok (CW : Addr) (k : D) (st : ST) (F : SF) : (fSeq (rr0 CW) (fSeq (rr1 CW) (fSeq (rr2 CW) (fSeq (rr3 CW) (fSeq (rr4 CW) (fSeq (rr5 CW) F)))))) [some k, none, none, none, none, none, none] st = F [some k, some (.lst (R11 ++ R2)), some (.lst (T7 ++ T6 ++ T3)), some (.lst GO), none, none, none] (st ++ [none] ++ [none]) := by
  have g0 : rr0 CW [some k, none, none, none, none, none, none] st = .ok (.nx [some k, some (.cel st.length), none, none, none, none, none]) (st ++ [some (.lst R11)]) := rfl
  have g1 : rr1 CW [some k, some (.cel st.length), none, none, none, none, none] (st ++ [some (.lst R11)]) = .ok (.nx [some k, some (.lst (R11 ++ R2)), none, none, none, none, none]) (st ++ [none]) := by
    have e := fz_row (i := 1) (q := st.length) (sl := [some k, some (.cel st.length), none, none, none, none, none]) (ext_c (f := fVar 1) (g := (fCons (fLst (fCons (fLst (fCons (fC (.str "first")) fNil)) (fCons (fC (.bl true)) fNil))) fNil)) (st := st ++ [some (.lst R11)]) (q := st.length) (xs := R11) (ys := R2) rfl (get_app _ _) rfl (by decide)) rfl (by rw [set_app]; exact get_app _ _)
    rw [set_app, set_app] at e
    exact e
  have g2 : rr2 CW [some k, some (.lst (R11 ++ R2)), none, none, none, none, none] (st ++ [none]) = .ok (.nx [some k, some (.lst (R11 ++ R2)), some (.cel (st ++ [none]).length), none, none, none, none]) (st ++ [none] ++ [some (.lst T7)]) := rfl
  generalize st ++ [none] = s2 at g1 g2 ⊢
  have g3 : rr3 CW [some k, some (.lst (R11 ++ R2)), some (.cel s2.length), none, none, none, none] (s2 ++ [some (.lst T7)]) = .ok (.nx [some k, some (.lst (R11 ++ R2)), some (.cel s2.length), none, none, none, none]) (s2 ++ [some (.lst (T7 ++ T6))]) := by
    have e := expr_of (ext_c (f := fVar 2) (g := (fCons (fLst (fCons (fTup (fCons (fC (.int 9)) (fCons (fC (.int 10)) fNil))) (fCons (fLst (fCons (fC (.int 9)) (fCons (fC (.int 10)) (fCons (fC (.int 41)) fNil)))) (fCons (fTup (fCons (fC (.int 9)) (fCons (fC (.int 10)) (fCons (fC (.bl true)) fNil)))) (fCons (fC .non) (fCons (fC (.str "9 10 41")) (fCons (fTup (fCons (fC (.int 9)) (fCons (fC (.int 10)) (fCons (fC (.int 41)) (fCons (fC (.int 1)) fNil))))) fNil))))))) fNil)) (sl := [some k, some (.lst (R11 ++ R2)), some (.cel s2.length), none, none, none, none]) (st := s2 ++ [some (.lst T7)]) (q := s2.length) (xs := T7) (ys := T6) rfl (get_app _ _) rfl (by decide))
    rw [set_app] at e
    exact e
  have g4 : rr4 CW [some k, some (.lst (R11 ++ R2)), some (.cel s2.length), none, none, none, none] (s2 ++ [some (.lst (T7 ++ T6))]) = .ok (.nx [some k, some (.lst (R11 ++ R2)), some (.lst (T7 ++ T6 ++ T3)), none, none, none, none]) (s2 ++ [none]) := by
    have e := fz_row (i := 2) (q := s2.length) (sl := [some k, some (.lst (R11 ++ R2)), some (.cel s2.length), none, none, none, none]) (ext_c (f := fVar 2) (g := (fCons (fLst (fCons (fTup (fCons (fC (.int 9)) (fCons (fC (.int 101)) (fCons (fC (.int 41)) fNil)))) (fCons (fTup (fCons (fC (.int 99)) (fCons (fC (.int 100)) (fCons (fC (.int 1)) fNil)))) (fCons (fTup (fCons (f1 zNeg (fC (.int 9))) (fCons (fC (.int 10)) (fCons (fC (.int 41)) fNil)))) fNil)))) fNil)) (st := s2 ++ [some (.lst (T7 ++ T6))]) (q := s2.length) (xs := T7 ++ T6) (ys := T3) rfl (get_app _ _) rfl (by decide)) rfl (by rw [set_app]; exact get_app _ _)
    rw [set_app, set_app] at e
    exact e
  have g5 : rr5 CW [some k, some (.lst (R11 ++ R2)), some (.lst (T7 ++ T6 ++ T3)), none, none, none, none] (s2 ++ [none]) = .ok (.nx [some k, some (.lst (R11 ++ R2)), some (.lst (T7 ++ T6 ++ T3)), some (.lst GO), none, none, none]) (s2 ++ [none]) := rfl
  exact (seq_of g0).trans ((seq_of g1).trans ((seq_of g2).trans ((seq_of g3).trans ((seq_of g4).trans (seq_of g5)))))
end K36
set_option Elab.async false
set_option linter.all false
set_option maxRecDepth 100000
set_option maxHeartbeats 400000
namespace K36
open PySem PySem.Spec PyProof.Rows L2 Rq
theorem lap1 (CW : Addr) {k n : Nat} {s : ST} (hp : Pot s k n) (hn : n + 5 < 1000000) {sl : SL} {fr : EF} {RL : List D} (h0 : sl[0]? = some (some (.cel k))) (h2 : sl[2]? = some (some (.lst (T7 ++ T6 ++ T3)))) (h3 : sl[3]? = some (some (.lst GO)))
    (hf : ∀ s, fr sl s = .ok (.lst RL) s) (hR : ∀ r ∈ RL, r ∈ RA ∨ r ∈ RB) (hl : 0 < RL.length) (hl2 : RL.length ≤ 1000000) :
    ∃ s', (fIf (f1 zNot (fCall0 3 (D__law_is_refused CW) (fCons (fCall0 2 (D__law_of CW) (fCons (fVar 0) (fCons fr fNil))) (fCons (fCall0 2 (D__law_of CW) (fCons (fVar 0) (fCons (f1 zFz (fVar 2)) fNil))) (fCons (fCall0 2 (D__law_of CW) (fCons (fVar 0) (fCons (fVar 3) fNil))) fNil))))) (fRet (fC (.bl false))) fNext) sl s = .ok (.nx sl) s' ∧ Adv k s s' ∧ Pot s' k (n + 3) := by
  have v0 : ∀ s, (fVar 0) sl s = .ok (.cel k) s := fun s => by unfold fVar; rw [h0]
  have v2 : ∀ s, (f1 zFz (fVar 2)) sl s = .ok (.lst (T7 ++ T6 ++ T3)) s := fun s => by
    rw [f1_of (x := .lst (T7 ++ T6 ++ T3)) (st1 := s) (by unfold fVar; rw [h2])]
    rfl
  have v3 : ∀ s, (fVar 3) sl s = .ok (.lst GO) s := fun s => by unfold fVar; rw [h3]
  obtain ⟨r, s1, e1, m1, a1, p1⟩ := of_lst CW (xs := RL) hp (by omega) hl hl2
  obtain ⟨t, s2, e2, m2, a2, p2⟩ := of_lst CW (xs := T7 ++ T6 ++ T3) p1 (by omega) (by decide) (by decide)
  obtain ⟨g, s3, e3, m3, a3, p3⟩ := of_lst CW (xs := GO) p2 (by omega) (by decide) (by decide)
  obtain ⟨m, er⟩ := refused_ok (hR r m1) (rt_in m2) m3 CW s3
  have c1 := call0_of (n := 2) (F := D__law_of CW) (two_args (v0 s) (hf s)) rfl e1
  have c2 := call0_of (n := 2) (F := D__law_of CW) (two_args (v0 s1) (v2 s1)) rfl e2
  have c3 := call0_of (n := 2) (F := D__law_of CW) (two_args (v0 s2) (v3 s2)) rfl e3
  have c4 := call0_of (n := 3) (F := D__law_is_refused CW) (cons_of c1 (cons_of c2 (one_arg c3))) rfl er
  refine ⟨s3 ++ [m], ?_, ((a1.trans a2).trans a3).trans (Adv.app k s3 m), p3.app m⟩
  exact (if_of (b := false) ((f1_of c4).trans rfl)).trans rfl
theorem lap_ok (CW : Addr) {k n : Nat} {s : ST} (hp : Pot s k n) (hn : n + 8 < 1000000) (x4 : Option D) : ∃ s', lapL CW [some (.cel k), some (.lst (R11 ++ R2)), some (.lst (T7 ++ T6 ++ T3)), some (.lst GO), x4, none, none] s = .ok (.nx [some (.cel k), some (.lst (R11 ++ R2)), some (.lst (T7 ++ T6 ++ T3)), some (.lst GO), x4, none, none]) s' ∧ Adv k s s' ∧ Pot s' k (n + 6) := by
  obtain ⟨s1, e1, a1, p1⟩ := lap1 CW hp (by omega) (sl := [some (.cel k), some (.lst (R11 ++ R2)), some (.lst (T7 ++ T6 ++ T3)), some (.lst GO), x4, none, none]) (fr := f1 zFz (fVar 1)) (RL := R11 ++ R2) rfl rfl rfl (fun s => rfl) (fun r h => ru_in h) (by decide) (by decide)
  obtain ⟨s2, e2, a2, p2⟩ := lap1 CW p1 (by omega) (sl := [some (.cel k), some (.lst (R11 ++ R2)), some (.lst (T7 ++ T6 ++ T3)), some (.lst GO), x4, none, none]) (fr := fSl (fVar 1) oNone (oSome (fC (.int 3)))) (RL := RA) rfl rfl rfl (fun s => rfl) (fun r h => .inl h) (by decide) (by decide)
  exact ⟨s2, (seq_of e1).trans e2, a1.trans a2, p2⟩
theorem blown_ok (CW : Addr) {r : D} (hr : r ∈ RB) (s : ST) {sl : SL} (h6 : sl[6]? = some (some r)) : ∃ m : Option Cell, el8 CW sl s = .ok (.bl true) (s ++ [m]) := by
  obtain ⟨sl1, h2⟩ := bl_bad hr CW s
  obtain ⟨z, hz⟩ := sh_r hr
  have v6 : ∀ s, (fVar 6) sl s = .ok r s := fun s => by unfold fVar; rw [h6]
  have fb : (fCallR 1 (D_blown_webR CW) (fCons (fVar 6) fNil)) sl s = .err "BadRule" r sl s := by
    unfold fCallR
    rw [one_arg (v6 s), bind_ok]
    show (D_blown_webR CW [r] s).at _ = _
    rw [h2]
    rfl
  obtain ⟨m, hc⟩ := caught_err CW xw1.el fb
  rw [xw1.ws] at hc
  refine ⟨m, ?_⟩
  have d : (fTup (fCons (fLst (fCons (fC (.str "rule")) fNil)) (fCons (fVar 6) fNil))) sl (s ++ [m]) = .ok (.tup [.lst [.str "rule"], r]) (s ++ [m]) := by
    unfold fTup
    rw [two_args (f := (fLst (fCons (fC (.str "rule")) fNil))) (d := .lst [.str "rule"]) (st1 := s ++ [m]) rfl (v6 (s ++ [m])), bind_ok]
    rfl
  unfold el8
  refine (f2_of ((fA_of (one_arg hc)).trans (hz _)) ((fA_of (one_arg d)).trans (hz _))).trans ?_
  show (Res.ok (D.bl (decide (z = z))) (s ++ [m]) : Res D) = _
  rw [decide_eq_true rfl]
theorem right_ok (CW : Addr) {st : ST} {k : Nat} (hp : Pot st k 0) : ∃ st', D__law_right CW [.cel k] st = .ok (.bl true) st' := by
  obtain ⟨slA, sA, eA, z4, rfl, P1⟩ := loop_nx (tf := tName 4) (B := lapL CW)
    (P := fun i sl s => ∃ x4 : Option D, sl = [some (.cel k), some (.lst (R11 ++ R2)), some (.lst (T7 ++ T6 ++ T3)), some (.lst GO), x4, none, none] ∧ Pot s k (0 + 6 * i)) (rangeD 0 ((12 : Nat) : Int).toNat) [some (.cel k), some (.lst (R11 ++ R2)), some (.lst (T7 ++ T6 ++ T3)), some (.lst GO), none, none, none] (st ++ [none] ++ [none]) ⟨none, rfl, (hp.app none).app none⟩ (by
      rintro i d sl s hd ⟨x4, rfl, P⟩
      have hi := range_lt hd
      obtain ⟨s', e, a, p⟩ := lap_ok CW P (by omega) (some d)
      exact ⟨_, _, s', rfl, e, some d, rfl, p.mono (by omega) (by omega)⟩)
  have P1 := P1.mono (m := 100) (by rw [range_len]; simp) (by omega)
  have f6 : rr6 CW [some (.cel k), some (.lst (R11 ++ R2)), some (.lst (T7 ++ T6 ++ T3)), some (.lst GO), none, none, none] (st ++ [none] ++ [none]) = .ok (.nx [some (.cel k), some (.lst (R11 ++ R2)), some (.lst (T7 ++ T6 ++ T3)), some (.lst GO), z4, none, none]) sA :=
    (for_of (tf := tName 4) (B := lapL CW) (range1_of (n := ((12 : Nat) : Int)) rfl (by decide))).trans eA
  obtain ⟨ys, sB, eB, lB, hB, P2⟩ := comp_yes (tf := tName 4) (el := el7 CW) (slw := [some (.cel k), some (.lst (R11 ++ R2)), some (.lst (T7 ++ T6 ++ T3)), some (.lst GO), none, none, none])
    (E := fun _ y => y ∈ RB) (P := fun i s => Pot s k (100 + i)) (rangeD 0 ((4 : Nat) : Int).toNat) sA P1 (by
      rintro i d s hd P
      have hi := range_lt hd
      obtain ⟨r, s1, e1, m1, a1, p1⟩ := of_lst CW (xs := RB) P (by omega) (by decide) (by decide)
      refine ⟨[some (.cel k), some (.lst (R11 ++ R2)), some (.lst (T7 ++ T6 ++ T3)), some (.lst GO), some d, none, none], r, s1, rfl, ?_, m1, p1.mono (by omega) (by omega)⟩
      exact call0_of (n := 2) (F := D__law_of CW) (ds := [.cel k, .lst RB]) (st1 := s) rfl rfl e1)
  have f7 : rr7 CW [some (.cel k), some (.lst (R11 ++ R2)), some (.lst (T7 ++ T6 ++ T3)), some (.lst GO), z4, none, none] sA = .ok (.nx [some (.cel k), some (.lst (R11 ++ R2)), some (.lst (T7 ++ T6 ++ T3)), some (.lst GO), z4, some (.lst ys), none]) sB :=
    set_of (lc_of (vs := [4]) (sl := [some (.cel k), some (.lst (R11 ++ R2)), some (.lst (T7 ++ T6 ++ T3)), some (.lst GO), z4, none, none]) (range1_of (n := ((4 : Nat) : Int)) (st1 := sA) rfl (by decide)) (by rw [range_len]; decide) eB)
  have hy : ∀ y ∈ ys, y ∈ RB := fun y hy => by
    obtain ⟨i, hi⟩ := List.getElem?_of_mem hy
    exact hB i y hi
  have ly : ys.length = 4 := by rw [lB, range_len]
  obtain ⟨zs, sC, eC, lC, hC, _⟩ := comp_yes (tf := tName 6) (el := el8 CW) (slw := [some (.cel k), some (.lst (R11 ++ R2)), some (.lst (T7 ++ T6 ++ T3)), some (.lst GO), z4, some (.lst ys), none])
    (E := fun _ y => y = .bl true) (P := fun _ _ => True) ys sB True.intro (by
      rintro i d s hd _
      obtain ⟨m, e⟩ := blown_ok CW (hy d (List.mem_of_getElem? hd)) s (sl := [some (.cel k), some (.lst (R11 ++ R2)), some (.lst (T7 ++ T6 ++ T3)), some (.lst GO), z4, some (.lst ys), some d]) rfl
      exact ⟨_, _, _, rfl, e, rfl, True.intro⟩)
  have f8 : rr8 CW [some (.cel k), some (.lst (R11 ++ R2)), some (.lst (T7 ++ T6 ++ T3)), some (.lst GO), z4, some (.lst ys), none] sB = .ok (.rt (.bl true)) sC := by
    refine ret_of ?_
    rw [fA_of (one_arg (lc_of (vs := [6]) (sl := [some (.cel k), some (.lst (R11 ++ R2)), some (.lst (T7 ++ T6 ++ T3)), some (.lst GO), z4, some (.lst ys), none]) (walk_of (f := fVar 5) (st := sB) (st1 := sB) (xs := ys) rfl) (by rw [ly]; decide) eC))]
    exact all_of hC _
  refine ⟨sC, ?_⟩
  unfold D__law_right
  refine body_rt ?_
  rw [right_is]
  refine (head_ok CW (.cel k) st _).trans ?_
  exact (seq_of f6).trans ((seq_of f7).trans f8)
theorem cells_ok (CW : Addr) (ns : List Int) (hl : ns.length ≤ 63) (st : ST) : ∃ m : Nat, 1 ≤ m ∧ m ≤ 3 ∧ D__law_cells CW [.lsr (ns.map D.int), .int 3] st = .ok (.lst (rangeD 0 m)) st := by
  refine ⟨max 1 (min 3 ns.length), by omega, by omega, ?_⟩
  unfold D__law_cells
  refine body_rt (ret_of ?_)
  show (fListRg _) [some (.lsr (ns.map D.int)), some (.int 3)] st = _
  have u : (fA zMin2 (fCons (fVar 1) (fCons (fA zLen (fCons (fVar 0) fNil)) fNil))) [some (.lsr (ns.map D.int)), some (.int 3)] st = .ok (.int (min 3 ns.length : Nat)) st := by
    have l : (fA zLen (fCons (fVar 0) fNil)) [some (.lsr (ns.map D.int)), some (.int 3)] st = .ok (.int ns.length) st := by
      show Res.ok (D.int ((ns.map D.int).length : Nat)) st = _
      rw [List.length_map]
    rw [fA_of (two_args (d := .int 3) (st1 := st) rfl l)]
    show Res.ok (D.int (if (ns.length : Int) < 3 then (ns.length : Int) else 3)) st = _
    congr 2
    split <;> omega
  have v : (fA zMax2 (fCons (fC (.int 1)) (fCons (fA zMin2 (fCons (fVar 1) (fCons (fA zLen (fCons (fVar 0) fNil)) fNil))) fNil))) [some (.lsr (ns.map D.int)), some (.int 3)] st = .ok (.int (max 1 (min 3 ns.length) : Nat)) st := by
    rw [fA_of (two_args (d := .int 1) (st1 := st) rfl u)]
    show Res.ok (D.int (if ((min 3 ns.length : Nat) : Int) > 1 then ((min 3 ns.length : Nat) : Int) else 1)) st = _
    congr 2
    split <;> omega
  unfold fListRg
  rw [f1_of v]
  show (if _ then _ else _) = _
  rw [if_pos (by omega)]
  congr 2
theorem math (CW : Addr) : ∀ ns : List Int, ns.length ≤ 63 → ∃ st', D_law CW [.lsr (ns.map D.int)] [] = .ok (.bl true) st' := by
  intro ns hns
  obtain ⟨m, m1, m3, ec⟩ := cells_ok CW ns hns []
  obtain ⟨ys, st1, e1, l1, h1, _⟩ := comp_yes (tf := tName 1) (el := fCall0 1 (D__law_right CW) (fCons (fCall0 2 (D__law_pot CW) (fCons (fVar 0) (fCons (fVar 1) fNil))) fNil)) (slw := [some (.lsr (ns.map D.int)), none])
    (E := fun _ y => y = .bl true) (P := fun _ _ => True) (rangeD 0 ((m : Nat) : Int).toNat) [] True.intro (by
      rintro i d s hd _
      have hi := range_lt hd
      have hd2 := range_get hd
      subst hd2
      obtain ⟨s', e, es, p⟩ := pot_ok CW ns (i : Int) s (by omega)
      obtain ⟨s2, e2⟩ := right_ok CW p
      exact ⟨[some (.lsr (ns.map D.int)), some (.int i)], .bl true, s2, rfl, call0_of (n := 1) (one_arg (call0_of (n := 2) (ds := [.lsr (ns.map D.int), .int i]) (st1 := s) rfl rfl e)) rfl e2, rfl, True.intro⟩)
  refine ⟨st1, ?_⟩
  unfold D_law
  refine body_rt (ret_of ?_)
  show (fA zAll _) [some (.lsr (ns.map D.int)), none] [] = _
  have g1 : (fCall0 2 (D__law_cells CW) (fCons (fVar 0) (fCons (fC (.int 3)) fNil))) [some (.lsr (ns.map D.int)), none] [] = .ok (.lst (rangeD 0 ((m : Nat) : Int).toNat)) [] :=
    call0_of (n := 2) (ds := [.lsr (ns.map D.int), .int 3]) (st1 := []) rfl rfl ec
  rw [fA_of (one_arg (lc_of (vs := [1]) (sl := [some (.lsr (ns.map D.int)), none]) (walk_of g1) (by rw [range_len]; omega) e1))]
  exact all_of h1 _
end K36
set_option Elab.async false
set_option linter.all false
set_option maxRecDepth 100000
set_option maxHeartbeats 4000000
namespace K36
open PySem PySem.Spec PyProof.Rows L2 Rq

theorem all_mk {l : PySem.W.OpenLaw} {q0 : Program} {w : World} {K : PySem.W.Frag} {h : Heap} {mg : Str → Option Value} {fa CW CQ : Addr} (X : K.In h) (G : h.Ns mainGlobals mg) (hfa : mg "law" = some (.ref fa))
    {f__law_pot : Addr} {oc__law_pot kV__law_pot dc__law_pot pm__law_pot cd__law_pot ct__law_pot : Value} {od__law_pot an__law_pot : Option Addr} {sl__law_pot : Array (Option Value)}
    {f__law_take : Addr} {oc__law_take kV__law_take dc__law_take pm__law_take cd__law_take ct__law_take : Value} {od__law_take an__law_take : Option Addr} {sl__law_take : Array (Option Value)}
    {f__law_of : Addr} {oc__law_of kV__law_of dc__law_of pm__law_of cd__law_of ct__law_of : Value} {od__law_of an__law_of : Option Addr} {sl__law_of : Array (Option Value)}
    {f__law_cells : Addr} {oc__law_cells kV__law_cells dc__law_cells pm__law_cells cd__law_cells ct__law_cells : Value} {od__law_cells an__law_cells : Option Addr} {sl__law_cells : Array (Option Value)}
    {f__law_caught : Addr} {oc__law_caught kV__law_caught dc__law_caught pm__law_caught cd__law_caught ct__law_caught : Value} {od__law_caught an__law_caught : Option Addr} {sl__law_caught : Array (Option Value)}
    {f_is_integer : Addr} {oc_is_integer kV_is_integer dc_is_integer pm_is_integer cd_is_integer ct_is_integer : Value} {od_is_integer an_is_integer : Option Addr} {sl_is_integer : Array (Option Value)}
    {f_is_within : Addr} {oc_is_within kV_is_within dc_is_within pm_is_within cd_is_within ct_is_within : Value} {od_is_within an_is_within : Option Addr} {sl_is_within : Array (Option Value)}
    {f_is_slope : Addr} {oc_is_slope kV_is_slope dc_is_slope pm_is_slope cd_is_slope ct_is_slope : Value} {od_is_slope an_is_slope : Option Addr} {sl_is_slope : Array (Option Value)}
    {f_check_rate : Addr} {oc_check_rate kV_check_rate dc_check_rate pm_check_rate cd_check_rate ct_check_rate : Value} {od_check_rate an_check_rate : Option Addr} {sl_check_rate : Array (Option Value)}
    {f_check_hindered : Addr} {oc_check_hindered kV_check_hindered dc_check_hindered pm_check_hindered cd_check_hindered ct_check_hindered : Value} {od_check_hindered an_check_hindered : Option Addr} {sl_check_hindered : Array (Option Value)}
    {f_blown_web : Addr} {oc_blown_web kV_blown_web dc_blown_web pm_blown_web cd_blown_web ct_blown_web : Value} {od_blown_web an_blown_web : Option Addr} {sl_blown_web : Array (Option Value)}
    {f_putter : Addr} {oc_putter kV_putter dc_putter pm_putter cd_putter ct_putter : Value} {od_putter an_putter : Option Addr} {sl_putter : Array (Option Value)}
    {f__law_is_rate : Addr} {oc__law_is_rate kV__law_is_rate dc__law_is_rate pm__law_is_rate cd__law_is_rate ct__law_is_rate : Value} {od__law_is_rate an__law_is_rate : Option Addr} {sl__law_is_rate : Array (Option Value)}
    {f__law_due : Addr} {oc__law_due kV__law_due dc__law_due pm__law_due cd__law_due ct__law_due : Value} {od__law_due an__law_due : Option Addr} {sl__law_due : Array (Option Value)}
    {f__law_is_refused : Addr} {oc__law_is_refused kV__law_is_refused dc__law_is_refused pm__law_is_refused ct__law_is_refused : Value} {od__law_is_refused an__law_is_refused : Option Addr} {sl__law_is_refused : Array (Option Value)}
    {c0__law_is_refused P0__law_is_refused : Addr}
    {f__law_right : Addr} {oc__law_right kV__law_right dc__law_right pm__law_right ct__law_right : Value} {od__law_right an__law_right : Option Addr} {sl__law_right : Array (Option Value)}
    {c0__law_right P0__law_right : Addr}
    {f_law : Addr} {oc_law kV_law dc_law pm_law cd_law ct_law : Value} {od_law an_law : Option Addr} {sl_law : Array (Option Value)}
    {t_GREATEST_BURST : Tok}
    {t_GREATEST_GOAL : Tok}
    {t_GREATEST_Q : Tok}
    {t_LEAST_GOAL : Tok}
    {tt_RULES : Addr}
    {tt_SLOWEST : Addr}
    {C_BadNumber : Addr}
    {C_BadRate : Addr}
    {C_BadRule : Addr}
    {C_TooSlow : Addr}
    {fI : Addr} {ocI kVI dcI pmI cdI ctI : Value} {odI anI : Option Addr} {slI : Array (Option Value)}
    (aC : PySem.W.nsIn K mainGlobals "Web" = some (some (.ref CW)))
    (n__law_pot : PySem.W.nsIn K mainGlobals "_law_pot" = some (some (.ref f__law_pot)))
    (l__law_pot : K.lookup f__law_pot = some ⟨oc__law_pot, od__law_pot, .func (PySem.W.fnOf "_law_pot" "_law_pot" (defArgs s__law_pot) (defBody s__law_pot) (defScope s__law_pot) .none kV__law_pot dc__law_pot pm__law_pot an__law_pot cd__law_pot ct__law_pot), sl__law_pot⟩)
    (c__law_pot : PySem.W.codeIn K cd__law_pot "_law_pot" = true)
    (k__law_pot : PySem.W.keepIn K (.ref f__law_pot) = true)
    (n__law_take : PySem.W.nsIn K mainGlobals "_law_take" = some (some (.ref f__law_take)))
    (l__law_take : K.lookup f__law_take = some ⟨oc__law_take, od__law_take, .func (PySem.W.fnOf "_law_take" "_law_take" (defArgs s__law_take) (defBody s__law_take) (defScope s__law_take) .none kV__law_take dc__law_take pm__law_take an__law_take cd__law_take ct__law_take), sl__law_take⟩)
    (c__law_take : PySem.W.codeIn K cd__law_take "_law_take" = true)
    (k__law_take : PySem.W.keepIn K (.ref f__law_take) = true)
    (n__law_of : PySem.W.nsIn K mainGlobals "_law_of" = some (some (.ref f__law_of)))
    (l__law_of : K.lookup f__law_of = some ⟨oc__law_of, od__law_of, .func (PySem.W.fnOf "_law_of" "_law_of" (defArgs s__law_of) (defBody s__law_of) (defScope s__law_of) .none kV__law_of dc__law_of pm__law_of an__law_of cd__law_of ct__law_of), sl__law_of⟩)
    (c__law_of : PySem.W.codeIn K cd__law_of "_law_of" = true)
    (k__law_of : PySem.W.keepIn K (.ref f__law_of) = true)
    (n__law_cells : PySem.W.nsIn K mainGlobals "_law_cells" = some (some (.ref f__law_cells)))
    (l__law_cells : K.lookup f__law_cells = some ⟨oc__law_cells, od__law_cells, .func (PySem.W.fnOf "_law_cells" "_law_cells" (defArgs s__law_cells) (defBody s__law_cells) (defScope s__law_cells) .none kV__law_cells dc__law_cells pm__law_cells an__law_cells cd__law_cells ct__law_cells), sl__law_cells⟩)
    (c__law_cells : PySem.W.codeIn K cd__law_cells "_law_cells" = true)
    (k__law_cells : PySem.W.keepIn K (.ref f__law_cells) = true)
    (n__law_caught : PySem.W.nsIn K mainGlobals "_law_caught" = some (some (.ref f__law_caught)))
    (l__law_caught : K.lookup f__law_caught = some ⟨oc__law_caught, od__law_caught, .func (PySem.W.fnOf "_law_caught" "_law_caught" (defArgs s__law_caught) (defBody s__law_caught) (defScope s__law_caught) .none kV__law_caught dc__law_caught pm__law_caught an__law_caught cd__law_caught ct__law_caught), sl__law_caught⟩)
    (c__law_caught : PySem.W.codeIn K cd__law_caught "_law_caught" = true)
    (k__law_caught : PySem.W.keepIn K (.ref f__law_caught) = true)
    (n_is_integer : PySem.W.nsIn K mainGlobals "is_integer" = some (some (.ref f_is_integer)))
    (l_is_integer : K.lookup f_is_integer = some ⟨oc_is_integer, od_is_integer, .func (PySem.W.fnOf "is_integer" "is_integer" (defArgs s_is_integer) (defBody s_is_integer) (defScope s_is_integer) .none kV_is_integer dc_is_integer pm_is_integer an_is_integer cd_is_integer ct_is_integer), sl_is_integer⟩)
    (c_is_integer : PySem.W.codeIn K cd_is_integer "is_integer" = true)
    (k_is_integer : PySem.W.keepIn K (.ref f_is_integer) = true)
    (n_is_within : PySem.W.nsIn K mainGlobals "is_within" = some (some (.ref f_is_within)))
    (l_is_within : K.lookup f_is_within = some ⟨oc_is_within, od_is_within, .func (PySem.W.fnOf "is_within" "is_within" (defArgs s_is_within) (defBody s_is_within) (defScope s_is_within) .none kV_is_within dc_is_within pm_is_within an_is_within cd_is_within ct_is_within), sl_is_within⟩)
    (c_is_within : PySem.W.codeIn K cd_is_within "is_within" = true)
    (k_is_within : PySem.W.keepIn K (.ref f_is_within) = true)
    (n_is_slope : PySem.W.nsIn K mainGlobals "is_slope" = some (some (.ref f_is_slope)))
    (l_is_slope : K.lookup f_is_slope = some ⟨oc_is_slope, od_is_slope, .func (PySem.W.fnOf "is_slope" "is_slope" (defArgs s_is_slope) (defBody s_is_slope) (defScope s_is_slope) .none kV_is_slope dc_is_slope pm_is_slope an_is_slope cd_is_slope ct_is_slope), sl_is_slope⟩)
    (c_is_slope : PySem.W.codeIn K cd_is_slope "is_slope" = true)
    (k_is_slope : PySem.W.keepIn K (.ref f_is_slope) = true)
    (n_check_rate : PySem.W.nsIn K mainGlobals "check_rate" = some (some (.ref f_check_rate)))
    (l_check_rate : K.lookup f_check_rate = some ⟨oc_check_rate, od_check_rate, .func (PySem.W.fnOf "check_rate" "check_rate" (defArgs s_check_rateR) (defBody s_check_rateR) (defScope s_check_rateR) .none kV_check_rate dc_check_rate pm_check_rate an_check_rate cd_check_rate ct_check_rate), sl_check_rate⟩)
    (c_check_rate : PySem.W.codeIn K cd_check_rate "check_rate" = true)
    (k_check_rate : PySem.W.keepIn K (.ref f_check_rate) = true)
    (n_check_hindered : PySem.W.nsIn K mainGlobals "check_hindered" = some (some (.ref f_check_hindered)))
    (l_check_hindered : K.lookup f_check_hindered = some ⟨oc_check_hindered, od_check_hindered, .func (PySem.W.fnOf "check_hindered" "check_hindered" (defArgs s_check_hinderedR) (defBody s_check_hinderedR) (defScope s_check_hinderedR) .none kV_check_hindered dc_check_hindered pm_check_hindered an_check_hindered cd_check_hindered ct_check_hindered), sl_check_hindered⟩)
    (c_check_hindered : PySem.W.codeIn K cd_check_hindered "check_hindered" = true)
    (k_check_hindered : PySem.W.keepIn K (.ref f_check_hindered) = true)
    (n_blown_web : PySem.W.nsIn K mainGlobals "blown_web" = some (some (.ref f_blown_web)))
    (l_blown_web : K.lookup f_blown_web = some ⟨oc_blown_web, od_blown_web, .func (PySem.W.fnOf "blown_web" "blown_web" (defArgs s_blown_webR) (defBody s_blown_webR) (defScope s_blown_webR) .none kV_blown_web dc_blown_web pm_blown_web an_blown_web cd_blown_web ct_blown_web), sl_blown_web⟩)
    (c_blown_web : PySem.W.codeIn K cd_blown_web "blown_web" = true)
    (k_blown_web : PySem.W.keepIn K (.ref f_blown_web) = true)
    (n_putter : PySem.W.nsIn K mainGlobals "putter" = some (some (.ref f_putter)))
    (l_putter : K.lookup f_putter = some ⟨oc_putter, od_putter, .func (PySem.W.fnOf "putter" "putter" (defArgs s_putterR) (defBody s_putterR) (defScope s_putterR) .none kV_putter dc_putter pm_putter an_putter cd_putter ct_putter), sl_putter⟩)
    (c_putter : PySem.W.codeIn K cd_putter "putter" = true)
    (k_putter : PySem.W.keepIn K (.ref f_putter) = true)
    (n__law_is_rate : PySem.W.nsIn K mainGlobals "_law_is_rate" = some (some (.ref f__law_is_rate)))
    (l__law_is_rate : K.lookup f__law_is_rate = some ⟨oc__law_is_rate, od__law_is_rate, .func (PySem.W.fnOf "_law_is_rate" "_law_is_rate" (defArgs s__law_is_rate) (defBody s__law_is_rate) (defScope s__law_is_rate) .none kV__law_is_rate dc__law_is_rate pm__law_is_rate an__law_is_rate cd__law_is_rate ct__law_is_rate), sl__law_is_rate⟩)
    (c__law_is_rate : PySem.W.codeIn K cd__law_is_rate "_law_is_rate" = true)
    (k__law_is_rate : PySem.W.keepIn K (.ref f__law_is_rate) = true)
    (n__law_due : PySem.W.nsIn K mainGlobals "_law_due" = some (some (.ref f__law_due)))
    (l__law_due : K.lookup f__law_due = some ⟨oc__law_due, od__law_due, .func (PySem.W.fnOf "_law_due" "_law_due" (defArgs s__law_due) (defBody s__law_due) (defScope s__law_due) .none kV__law_due dc__law_due pm__law_due an__law_due cd__law_due ct__law_due), sl__law_due⟩)
    (c__law_due : PySem.W.codeIn K cd__law_due "_law_due" = true)
    (k__law_due : PySem.W.keepIn K (.ref f__law_due) = true)
    (n__law_is_refused : PySem.W.nsIn K mainGlobals "_law_is_refused" = some (some (.ref f__law_is_refused)))
    (l__law_is_refused : K.lookup f__law_is_refused = some ⟨oc__law_is_refused, od__law_is_refused, .func (PySem.W.fnOf "_law_is_refused" "_law_is_refused" (defArgs s__law_is_refused) (defBody s__law_is_refused) (defScope s__law_is_refused) .none kV__law_is_refused dc__law_is_refused pm__law_is_refused an__law_is_refused (.ref c0__law_is_refused) ct__law_is_refused), sl__law_is_refused⟩)
    (tb__law_is_refused : PySem.W.tabIn K "_law_is_refused" = some (c0__law_is_refused, P0__law_is_refused))
    (kp__law_is_refused : K.lookup P0__law_is_refused = none)
    (c__law_is_refused : PySem.W.codeIn K (.ref c0__law_is_refused) "_law_is_refused" = true)
    (k__law_is_refused : PySem.W.keepIn K (.ref f__law_is_refused) = true)
    (n__law_right : PySem.W.nsIn K mainGlobals "_law_right" = some (some (.ref f__law_right)))
    (l__law_right : K.lookup f__law_right = some ⟨oc__law_right, od__law_right, .func (PySem.W.fnOf "_law_right" "_law_right" (defArgs s__law_right) (defBody s__law_right) (defScope s__law_right) .none kV__law_right dc__law_right pm__law_right an__law_right (.ref c0__law_right) ct__law_right), sl__law_right⟩)
    (tb__law_right : PySem.W.tabIn K "_law_right" = some (c0__law_right, P0__law_right))
    (kp__law_right : K.lookup P0__law_right = none)
    (c__law_right : PySem.W.codeIn K (.ref c0__law_right) "_law_right" = true)
    (k__law_right : PySem.W.keepIn K (.ref f__law_right) = true)
    (n_law : PySem.W.nsIn K mainGlobals "law" = some (some (.ref f_law)))
    (l_law : K.lookup f_law = some ⟨oc_law, od_law, .func (PySem.W.fnOf "law" "law" (defArgs s_law) (defBody s_law) (defScope s_law) .none kV_law dc_law pm_law an_law cd_law ct_law), sl_law⟩)
    (c_law : PySem.W.codeIn K cd_law "law" = true)
    (k_law : PySem.W.keepIn K (.ref f_law) = true)
    (z_abs : PySem.W.nsIn K mainGlobals "abs" = some none)
    (z_all : PySem.W.nsIn K mainGlobals "all" = some none)
    (z_bool : PySem.W.nsIn K mainGlobals "bool" = some none)
    (z_enumerate : PySem.W.nsIn K mainGlobals "enumerate" = some none)
    (z_int : PySem.W.nsIn K mainGlobals "int" = some none)
    (z_isinstance : PySem.W.nsIn K mainGlobals "isinstance" = some none)
    (z_len : PySem.W.nsIn K mainGlobals "len" = some none)
    (z_list : PySem.W.nsIn K mainGlobals "list" = some none)
    (z_max : PySem.W.nsIn K mainGlobals "max" = some none)
    (z_min : PySem.W.nsIn K mainGlobals "min" = some none)
    (z_range : PySem.W.nsIn K mainGlobals "range" = some none)
    (z_repr : PySem.W.nsIn K mainGlobals "repr" = some none)
    (z_str : PySem.W.nsIn K mainGlobals "str" = some none)
    (z_sum : PySem.W.nsIn K mainGlobals "sum" = some none)
    (z_tuple : PySem.W.nsIn K mainGlobals "tuple" = some none)
    (z_zip : PySem.W.nsIn K mainGlobals "zip" = some none)
    (g_GREATEST_BURST : PySem.W.nsIn K mainGlobals "GREATEST_BURST" = some (some (.int 50 t_GREATEST_BURST)))
    (g_GREATEST_GOAL : PySem.W.nsIn K mainGlobals "GREATEST_GOAL" = some (some (.int 400 t_GREATEST_GOAL)))
    (g_GREATEST_Q : PySem.W.nsIn K mainGlobals "GREATEST_Q" = some (some (.int 100 t_GREATEST_Q)))
    (g_LEAST_GOAL : PySem.W.nsIn K mainGlobals "LEAST_GOAL" = some (some (.int 100 t_LEAST_GOAL)))
    (g_RULES : PySem.W.nsIn K mainGlobals "RULES" = some (some (.ref tt_RULES)))
    (gl_RULES : tupB K tt_RULES [.str "first", .str "nearest", .str "gone"] = true)
    (g_SLOWEST : PySem.W.nsIn K mainGlobals "SLOWEST" = some (some (.ref tt_SLOWEST)))
    (gl_SLOWEST : tupB K tt_SLOWEST [.int 9, .int 10, .int 41] = true)
    (pg : PySem.W.plainGet K CW Str.empty = true)
    (hd : PySem.W.hasDictIn K CW = true)
    (po : PySem.W.plainOver K CW = true)
    (sa : PySem.W.findIn K (.ref CW) "__setattr__" = some (some (.builtin "object.__setattr__")))
    (mk : PySem.W.makesIn K CW = true)
    (kc : PySem.W.keepIn K (.ref CW) = true)
    (a_ends : PySem.W.findIn K (.ref CW) "ends" = some none)
    (a_places : PySem.W.findIn K (.ref CW) "places" = some none)
    (a_roads : PySem.W.findIn K (.ref CW) "roads" = some none)
    (a_text : PySem.W.findIn K (.ref CW) "text" = some none)
    (q_gq : PySem.W.nsIn K mainGlobals "QueueError" = some (some (.ref CQ)))
    (q_cn : PySem.W.specialIn K (.builtin "object.__class__") "__get__" = some (some (.builtin "getset_descriptor.__get__")))
    (q_ct : PySem.W.takesIn K (.builtin "object.__class__") = some true)
    (x0_BadNumber : PySem.W.nsIn K mainGlobals "BadNumber" = some (some (.ref C_BadNumber)))
    (x1_BadNumber : excB K C_BadNumber = true)
    (x2_BadNumber : PySem.W.findIn K (.ref C_BadNumber) "__setattr__" = some (some (.builtin "object.__setattr__")))
    (x3_BadNumber : PySem.W.subIn K (.ref C_BadNumber) (.type "BaseException") = some true)
    (x4_BadNumber : PySem.W.typeIn K (.ref C_BadNumber) = some (.type "type"))
    (x5_BadNumber : PySem.W.keepIn K (.ref C_BadNumber) = true)
    (x6_BadNumber : PySem.W.findIn K (.ref C_BadNumber) "value" = some none)
    (x7_BadNumber : PySem.W.findIn K (.ref C_BadNumber) "__getattribute__" = some (some (.builtin "BaseException.__getattribute__")))
    (x8_BadNumber : PySem.W.findIn K (.ref C_BadNumber) "__getattr__" = some none)
    (x9_BadNumber : PySem.W.hasDictIn K C_BadNumber = true)
    (x10_BadNumber : PySem.W.findIn K (.ref C_BadNumber) "__class__" = some (some (.builtin "object.__class__")))
    (x11_BadNumber : PySem.W.mroIn K C_BadNumber (.type "object") = some true)
    (x12_BadNumber : PySem.W.subIn K (.type "NoneType") (.ref C_BadNumber) = some false)
    (x13_BadNumber : PySem.W.subIn K (.type "bool") (.ref C_BadNumber) = some false)
    (x14_BadNumber : PySem.W.subIn K (.type "int") (.ref C_BadNumber) = some false)
    (x15_BadNumber : PySem.W.subIn K (.type "str") (.ref C_BadNumber) = some false)
    (x16_BadNumber : PySem.W.subIn K (.type "list") (.ref C_BadNumber) = some false)
    (x17_BadNumber : PySem.W.subIn K (.type "tuple") (.ref C_BadNumber) = some false)
    (x18_BadNumber : PySem.W.subIn K (.type "dict") (.ref C_BadNumber) = some false)
    (x19_BadNumber : PySem.W.exmOne K (.ref C_BadNumber) (.ref CQ) = some true)
    (x20_BadNumber : PySem.W.findIn K (.ref C_BadNumber) "__init__" = some (some (.ref fI)))
    (x0_BadRate : PySem.W.nsIn K mainGlobals "BadRate" = some (some (.ref C_BadRate)))
    (x1_BadRate : excB K C_BadRate = true)
    (x2_BadRate : PySem.W.findIn K (.ref C_BadRate) "__setattr__" = some (some (.builtin "object.__setattr__")))
    (x3_BadRate : PySem.W.subIn K (.ref C_BadRate) (.type "BaseException") = some true)
    (x4_BadRate : PySem.W.typeIn K (.ref C_BadRate) = some (.type "type"))
    (x5_BadRate : PySem.W.keepIn K (.ref C_BadRate) = true)
    (x6_BadRate : PySem.W.findIn K (.ref C_BadRate) "value" = some none)
    (x7_BadRate : PySem.W.findIn K (.ref C_BadRate) "__getattribute__" = some (some (.builtin "BaseException.__getattribute__")))
    (x8_BadRate : PySem.W.findIn K (.ref C_BadRate) "__getattr__" = some none)
    (x9_BadRate : PySem.W.hasDictIn K C_BadRate = true)
    (x10_BadRate : PySem.W.findIn K (.ref C_BadRate) "__class__" = some (some (.builtin "object.__class__")))
    (x11_BadRate : PySem.W.mroIn K C_BadRate (.type "object") = some true)
    (x12_BadRate : PySem.W.subIn K (.type "NoneType") (.ref C_BadRate) = some false)
    (x13_BadRate : PySem.W.subIn K (.type "bool") (.ref C_BadRate) = some false)
    (x14_BadRate : PySem.W.subIn K (.type "int") (.ref C_BadRate) = some false)
    (x15_BadRate : PySem.W.subIn K (.type "str") (.ref C_BadRate) = some false)
    (x16_BadRate : PySem.W.subIn K (.type "list") (.ref C_BadRate) = some false)
    (x17_BadRate : PySem.W.subIn K (.type "tuple") (.ref C_BadRate) = some false)
    (x18_BadRate : PySem.W.subIn K (.type "dict") (.ref C_BadRate) = some false)
    (x19_BadRate : PySem.W.exmOne K (.ref C_BadRate) (.ref CQ) = some true)
    (x20_BadRate : PySem.W.findIn K (.ref C_BadRate) "__init__" = some (some (.ref fI)))
    (x0_BadRule : PySem.W.nsIn K mainGlobals "BadRule" = some (some (.ref C_BadRule)))
    (x1_BadRule : excB K C_BadRule = true)
    (x2_BadRule : PySem.W.findIn K (.ref C_BadRule) "__setattr__" = some (some (.builtin "object.__setattr__")))
    (x3_BadRule : PySem.W.subIn K (.ref C_BadRule) (.type "BaseException") = some true)
    (x4_BadRule : PySem.W.typeIn K (.ref C_BadRule) = some (.type "type"))
    (x5_BadRule : PySem.W.keepIn K (.ref C_BadRule) = true)
    (x6_BadRule : PySem.W.findIn K (.ref C_BadRule) "value" = some none)
    (x7_BadRule : PySem.W.findIn K (.ref C_BadRule) "__getattribute__" = some (some (.builtin "BaseException.__getattribute__")))
    (x8_BadRule : PySem.W.findIn K (.ref C_BadRule) "__getattr__" = some none)
    (x9_BadRule : PySem.W.hasDictIn K C_BadRule = true)
    (x10_BadRule : PySem.W.findIn K (.ref C_BadRule) "__class__" = some (some (.builtin "object.__class__")))
    (x11_BadRule : PySem.W.mroIn K C_BadRule (.type "object") = some true)
    (x12_BadRule : PySem.W.subIn K (.type "NoneType") (.ref C_BadRule) = some false)
    (x13_BadRule : PySem.W.subIn K (.type "bool") (.ref C_BadRule) = some false)
    (x14_BadRule : PySem.W.subIn K (.type "int") (.ref C_BadRule) = some false)
    (x15_BadRule : PySem.W.subIn K (.type "str") (.ref C_BadRule) = some false)
    (x16_BadRule : PySem.W.subIn K (.type "list") (.ref C_BadRule) = some false)
    (x17_BadRule : PySem.W.subIn K (.type "tuple") (.ref C_BadRule) = some false)
    (x18_BadRule : PySem.W.subIn K (.type "dict") (.ref C_BadRule) = some false)
    (x19_BadRule : PySem.W.exmOne K (.ref C_BadRule) (.ref CQ) = some true)
    (x20_BadRule : PySem.W.findIn K (.ref C_BadRule) "__init__" = some (some (.ref fI)))
    (x0_TooSlow : PySem.W.nsIn K mainGlobals "TooSlow" = some (some (.ref C_TooSlow)))
    (x1_TooSlow : excB K C_TooSlow = true)
    (x2_TooSlow : PySem.W.findIn K (.ref C_TooSlow) "__setattr__" = some (some (.builtin "object.__setattr__")))
    (x3_TooSlow : PySem.W.subIn K (.ref C_TooSlow) (.type "BaseException") = some true)
    (x4_TooSlow : PySem.W.typeIn K (.ref C_TooSlow) = some (.type "type"))
    (x5_TooSlow : PySem.W.keepIn K (.ref C_TooSlow) = true)
    (x6_TooSlow : PySem.W.findIn K (.ref C_TooSlow) "value" = some none)
    (x7_TooSlow : PySem.W.findIn K (.ref C_TooSlow) "__getattribute__" = some (some (.builtin "BaseException.__getattribute__")))
    (x8_TooSlow : PySem.W.findIn K (.ref C_TooSlow) "__getattr__" = some none)
    (x9_TooSlow : PySem.W.hasDictIn K C_TooSlow = true)
    (x10_TooSlow : PySem.W.findIn K (.ref C_TooSlow) "__class__" = some (some (.builtin "object.__class__")))
    (x11_TooSlow : PySem.W.mroIn K C_TooSlow (.type "object") = some true)
    (x12_TooSlow : PySem.W.subIn K (.type "NoneType") (.ref C_TooSlow) = some false)
    (x13_TooSlow : PySem.W.subIn K (.type "bool") (.ref C_TooSlow) = some false)
    (x14_TooSlow : PySem.W.subIn K (.type "int") (.ref C_TooSlow) = some false)
    (x15_TooSlow : PySem.W.subIn K (.type "str") (.ref C_TooSlow) = some false)
    (x16_TooSlow : PySem.W.subIn K (.type "list") (.ref C_TooSlow) = some false)
    (x17_TooSlow : PySem.W.subIn K (.type "tuple") (.ref C_TooSlow) = some false)
    (x18_TooSlow : PySem.W.subIn K (.type "dict") (.ref C_TooSlow) = some false)
    (x19_TooSlow : PySem.W.exmOne K (.ref C_TooSlow) (.ref CQ) = some true)
    (x20_TooSlow : PySem.W.findIn K (.ref C_TooSlow) "__init__" = some (some (.ref fI)))
    (w_BadNumber_BadRate : PySem.W.subIn K (.ref C_BadNumber) (.ref C_BadRate) = some false)
    (w_BadNumber_BadRule : PySem.W.subIn K (.ref C_BadNumber) (.ref C_BadRule) = some false)
    (w_BadNumber_TooSlow : PySem.W.subIn K (.ref C_BadNumber) (.ref C_TooSlow) = some false)
    (w_BadRate_BadNumber : PySem.W.subIn K (.ref C_BadRate) (.ref C_BadNumber) = some false)
    (w_BadRate_BadRule : PySem.W.subIn K (.ref C_BadRate) (.ref C_BadRule) = some false)
    (w_BadRate_TooSlow : PySem.W.subIn K (.ref C_BadRate) (.ref C_TooSlow) = some false)
    (w_BadRule_BadNumber : PySem.W.subIn K (.ref C_BadRule) (.ref C_BadNumber) = some false)
    (w_BadRule_BadRate : PySem.W.subIn K (.ref C_BadRule) (.ref C_BadRate) = some false)
    (w_BadRule_TooSlow : PySem.W.subIn K (.ref C_BadRule) (.ref C_TooSlow) = some false)
    (w_TooSlow_BadNumber : PySem.W.subIn K (.ref C_TooSlow) (.ref C_BadNumber) = some false)
    (w_TooSlow_BadRate : PySem.W.subIn K (.ref C_TooSlow) (.ref C_BadRate) = some false)
    (w_TooSlow_BadRule : PySem.W.subIn K (.ref C_TooSlow) (.ref C_BadRule) = some false)
    (i_t : PySem.W.typeIn K (.ref fI) = some (.type "function"))
    (i_l : K.lookup fI = some ⟨ocI, odI, .func (PySem.W.fnOf "__init__" "QueueError.__init__" (defArgs (inTop 8 0)) (defBody (inTop 8 0)) (defScope (inTop 8 0)) .none kVI dcI pmI anI cdI ctI), slI⟩)
    (i_c : PySem.W.codeIn K cdI "QueueError.__init__" = true)
    (i_k : PySem.W.keepIn K (.ref fI) = true)
    (t0_joined : PySem.W.tabIn K "joined" = none)
    (t0__law_is_long_told : PySem.W.tabIn K "_law_is_long_told" = none)
    (t0__law_are_rates_told : PySem.W.tabIn K "_law_are_rates_told" = none)
    (t0__law_are_rows_told : PySem.W.tabIn K "_law_are_rows_told" = none)
    (t0__law_is_great_told : PySem.W.tabIn K "_law_is_great_told" = none)
    (t0__law_are_rates_refused : PySem.W.tabIn K "_law_are_rates_refused" = none)
    (t0__law_are_crossed_refused : PySem.W.tabIn K "_law_are_crossed_refused" = none)
    (t0__law_is_blown_told : PySem.W.tabIn K "_law_is_blown_told" = none)
    (t0__law_are_judged_told : PySem.W.tabIn K "_law_are_judged_told" = none)
    (t0__law_noted : PySem.W.tabIn K "_law_noted" = none)
    (ne__law_right__law_is_refused : (P0__law_right == P0__law_is_refused) = false)
    (rc__law_is_refused : ∃ e : DefRec, (recsOf q0).find? (fun e => e.name == ("_law_is_refused" : Str)) = some e)
    (rc__law_right : ∃ e : DefRec, (recsOf q0).find? (fun e => e.name == ("_law_right" : Str)) = some e)
    (hD : ∀ ns : List Int, ns.length ≤ 63 → ∃ st', D_law CW [.lsr (ns.map D.int)] [] = .ok (.bl true) st') :
    ∃ (K : PySem.W.Frag) (fd : FuncData) (xs : List Str) (cs : List (Addr × Addr)), K.In h ∧ (∀ (s : Shared) (u : Value), BindsTo s fd ⟨[u], []⟩ [("script", u)]) ∧
      (∀ p ∈ cs, ∃ y ∈ xs, PySem.W.tabIn K y = some p) ∧ (∀ y ∈ xs, ∃ e : DefRec, (recsOf q0).find? (fun e => e.name == y) = some e) ∧ (∀ p ∈ cs, K.lookup p.2 = none) ∧ (∀ p ∈ tabsOf K, p.1 ∈ cs.map (·.2)) ∧
      (∀ base : Heap, K.In base → base.Ns mainGlobals mg → (∀ p ∈ cs, LamX.TabB base mg p.1 p.2) → FG l.prog w K mg base CX0 9 fa fd ["script"] (spF K 1 (D_law (cwOf K)))) ∧ ∀ ns : List Int, ns.length ≤ 63 → ∃ st', D_law (cwOf K) [.lsr (ns.map D.int)] [] = .ok (.bl true) st' := by
  have e := hfa.symm.trans (PySem.W.mg_of X G n_law)
  cases e
  have eC : cwOf K = CW := by unfold cwOf; rw [aC]
  have T__law_pot : At K mg "_law_pot" s__law_pot := ⟨f__law_pot, oc__law_pot, od__law_pot, an__law_pot, sl__law_pot, kV__law_pot, dc__law_pot, pm__law_pot, cd__law_pot, ct__law_pot, PySem.W.mg_of X G n__law_pot, l__law_pot, c__law_pot, k__law_pot⟩
  have T__law_take : At K mg "_law_take" s__law_take := ⟨f__law_take, oc__law_take, od__law_take, an__law_take, sl__law_take, kV__law_take, dc__law_take, pm__law_take, cd__law_take, ct__law_take, PySem.W.mg_of X G n__law_take, l__law_take, c__law_take, k__law_take⟩
  have T__law_of : At K mg "_law_of" s__law_of := ⟨f__law_of, oc__law_of, od__law_of, an__law_of, sl__law_of, kV__law_of, dc__law_of, pm__law_of, cd__law_of, ct__law_of, PySem.W.mg_of X G n__law_of, l__law_of, c__law_of, k__law_of⟩
  have T__law_cells : At K mg "_law_cells" s__law_cells := ⟨f__law_cells, oc__law_cells, od__law_cells, an__law_cells, sl__law_cells, kV__law_cells, dc__law_cells, pm__law_cells, cd__law_cells, ct__law_cells, PySem.W.mg_of X G n__law_cells, l__law_cells, c__law_cells, k__law_cells⟩
  have T__law_caught : At K mg "_law_caught" s__law_caught := ⟨f__law_caught, oc__law_caught, od__law_caught, an__law_caught, sl__law_caught, kV__law_caught, dc__law_caught, pm__law_caught, cd__law_caught, ct__law_caught, PySem.W.mg_of X G n__law_caught, l__law_caught, c__law_caught, k__law_caught⟩
  have T_is_integer : At K mg "is_integer" s_is_integer := ⟨f_is_integer, oc_is_integer, od_is_integer, an_is_integer, sl_is_integer, kV_is_integer, dc_is_integer, pm_is_integer, cd_is_integer, ct_is_integer, PySem.W.mg_of X G n_is_integer, l_is_integer, c_is_integer, k_is_integer⟩
  have T_is_within : At K mg "is_within" s_is_within := ⟨f_is_within, oc_is_within, od_is_within, an_is_within, sl_is_within, kV_is_within, dc_is_within, pm_is_within, cd_is_within, ct_is_within, PySem.W.mg_of X G n_is_within, l_is_within, c_is_within, k_is_within⟩
  have T_is_slope : At K mg "is_slope" s_is_slope := ⟨f_is_slope, oc_is_slope, od_is_slope, an_is_slope, sl_is_slope, kV_is_slope, dc_is_slope, pm_is_slope, cd_is_slope, ct_is_slope, PySem.W.mg_of X G n_is_slope, l_is_slope, c_is_slope, k_is_slope⟩
  have T_check_rate : At K mg "check_rate" s_check_rateR := ⟨f_check_rate, oc_check_rate, od_check_rate, an_check_rate, sl_check_rate, kV_check_rate, dc_check_rate, pm_check_rate, cd_check_rate, ct_check_rate, PySem.W.mg_of X G n_check_rate, l_check_rate, c_check_rate, k_check_rate⟩
  have T_check_hindered : At K mg "check_hindered" s_check_hinderedR := ⟨f_check_hindered, oc_check_hindered, od_check_hindered, an_check_hindered, sl_check_hindered, kV_check_hindered, dc_check_hindered, pm_check_hindered, cd_check_hindered, ct_check_hindered, PySem.W.mg_of X G n_check_hindered, l_check_hindered, c_check_hindered, k_check_hindered⟩
  have T_blown_web : At K mg "blown_web" s_blown_webR := ⟨f_blown_web, oc_blown_web, od_blown_web, an_blown_web, sl_blown_web, kV_blown_web, dc_blown_web, pm_blown_web, cd_blown_web, ct_blown_web, PySem.W.mg_of X G n_blown_web, l_blown_web, c_blown_web, k_blown_web⟩
  have T_putter : At K mg "putter" s_putterR := ⟨f_putter, oc_putter, od_putter, an_putter, sl_putter, kV_putter, dc_putter, pm_putter, cd_putter, ct_putter, PySem.W.mg_of X G n_putter, l_putter, c_putter, k_putter⟩
  have T__law_is_rate : At K mg "_law_is_rate" s__law_is_rate := ⟨f__law_is_rate, oc__law_is_rate, od__law_is_rate, an__law_is_rate, sl__law_is_rate, kV__law_is_rate, dc__law_is_rate, pm__law_is_rate, cd__law_is_rate, ct__law_is_rate, PySem.W.mg_of X G n__law_is_rate, l__law_is_rate, c__law_is_rate, k__law_is_rate⟩
  have T__law_due : At K mg "_law_due" s__law_due := ⟨f__law_due, oc__law_due, od__law_due, an__law_due, sl__law_due, kV__law_due, dc__law_due, pm__law_due, cd__law_due, ct__law_due, PySem.W.mg_of X G n__law_due, l__law_due, c__law_due, k__law_due⟩
  have T__law_is_refused : AtL K mg "_law_is_refused" s__law_is_refused c0__law_is_refused := ⟨f__law_is_refused, oc__law_is_refused, od__law_is_refused, an__law_is_refused, sl__law_is_refused, kV__law_is_refused, dc__law_is_refused, pm__law_is_refused, ct__law_is_refused, PySem.W.mg_of X G n__law_is_refused, l__law_is_refused, c__law_is_refused, k__law_is_refused⟩
  have T__law_right : AtL K mg "_law_right" s__law_right c0__law_right := ⟨f__law_right, oc__law_right, od__law_right, an__law_right, sl__law_right, kV__law_right, dc__law_right, pm__law_right, ct__law_right, PySem.W.mg_of X G n__law_right, l__law_right, c__law_right, k__law_right⟩
  have gt_RULES : GTup K mg "RULES" [.str "first", .str "nearest", .str "gone"] := tupB_ok (PySem.W.mg_of X G g_RULES) gl_RULES
  have gt_SLOWEST : GTup K mg "SLOWEST" [.int 9, .int 10, .int 41] := tupB_ok (PySem.W.mg_of X G g_SLOWEST) gl_SLOWEST
  have E_BadNumber : ErrC K "BadNumber" C_BadNumber := ⟨x0_BadNumber, ⟨excB_ok x1_BadNumber, x2_BadNumber, x3_BadNumber, x4_BadNumber, x5_BadNumber⟩, x6_BadNumber⟩
  have F_BadNumber : ErrD K "BadNumber" C_BadNumber := ⟨E_BadNumber, x7_BadNumber, x8_BadNumber, x9_BadNumber, x10_BadNumber, x11_BadNumber, x12_BadNumber, x13_BadNumber, x14_BadNumber, x15_BadNumber, x16_BadNumber, x17_BadNumber, x18_BadNumber⟩
  have E_BadRate : ErrC K "BadRate" C_BadRate := ⟨x0_BadRate, ⟨excB_ok x1_BadRate, x2_BadRate, x3_BadRate, x4_BadRate, x5_BadRate⟩, x6_BadRate⟩
  have F_BadRate : ErrD K "BadRate" C_BadRate := ⟨E_BadRate, x7_BadRate, x8_BadRate, x9_BadRate, x10_BadRate, x11_BadRate, x12_BadRate, x13_BadRate, x14_BadRate, x15_BadRate, x16_BadRate, x17_BadRate, x18_BadRate⟩
  have E_BadRule : ErrC K "BadRule" C_BadRule := ⟨x0_BadRule, ⟨excB_ok x1_BadRule, x2_BadRule, x3_BadRule, x4_BadRule, x5_BadRule⟩, x6_BadRule⟩
  have F_BadRule : ErrD K "BadRule" C_BadRule := ⟨E_BadRule, x7_BadRule, x8_BadRule, x9_BadRule, x10_BadRule, x11_BadRule, x12_BadRule, x13_BadRule, x14_BadRule, x15_BadRule, x16_BadRule, x17_BadRule, x18_BadRule⟩
  have E_TooSlow : ErrC K "TooSlow" C_TooSlow := ⟨x0_TooSlow, ⟨excB_ok x1_TooSlow, x2_TooSlow, x3_TooSlow, x4_TooSlow, x5_TooSlow⟩, x6_TooSlow⟩
  have F_TooSlow : ErrD K "TooSlow" C_TooSlow := ⟨E_TooSlow, x7_TooSlow, x8_TooSlow, x9_TooSlow, x10_TooSlow, x11_TooSlow, x12_TooSlow, x13_TooSlow, x14_TooSlow, x15_TooSlow, x16_TooSlow, x17_TooSlow, x18_TooSlow⟩
  have q : Errs K mg EL CQ := {
    all := fun x hx => by
      simp only [EL, List.mem_cons, List.not_mem_nil, or_false] at hx
      rcases hx with rfl | rfl | rfl | rfl
      · exact ⟨_, F_BadNumber, PySem.W.mg_of X G x0_BadNumber⟩
      · exact ⟨_, F_BadRate, PySem.W.mg_of X G x0_BadRate⟩
      · exact ⟨_, F_BadRule, PySem.W.mg_of X G x0_BadRule⟩
      · exact ⟨_, F_TooSlow, PySem.W.mg_of X G x0_TooSlow⟩
    two := fun x hx y hy ne Cx Cy e1 e2 => by
      simp only [EL, List.mem_cons, List.not_mem_nil, or_false] at hx hy
      rcases hx with rfl | rfl | rfl | rfl
      · cases x0_BadNumber.symm.trans e1
        rcases hy with rfl | rfl | rfl | rfl
        · exact absurd rfl ne
        · cases x0_BadRate.symm.trans e2; exact w_BadNumber_BadRate
        · cases x0_BadRule.symm.trans e2; exact w_BadNumber_BadRule
        · cases x0_TooSlow.symm.trans e2; exact w_BadNumber_TooSlow
      · cases x0_BadRate.symm.trans e1
        rcases hy with rfl | rfl | rfl | rfl
        · cases x0_BadNumber.symm.trans e2; exact w_BadRate_BadNumber
        · exact absurd rfl ne
        · cases x0_BadRule.symm.trans e2; exact w_BadRate_BadRule
        · cases x0_TooSlow.symm.trans e2; exact w_BadRate_TooSlow
      · cases x0_BadRule.symm.trans e1
        rcases hy with rfl | rfl | rfl | rfl
        · cases x0_BadNumber.symm.trans e2; exact w_BadRule_BadNumber
        · cases x0_BadRate.symm.trans e2; exact w_BadRule_BadRate
        · exact absurd rfl ne
        · cases x0_TooSlow.symm.trans e2; exact w_BadRule_TooSlow
      · cases x0_TooSlow.symm.trans e1
        rcases hy with rfl | rfl | rfl | rfl
        · cases x0_BadNumber.symm.trans e2; exact w_TooSlow_BadNumber
        · cases x0_BadRate.symm.trans e2; exact w_TooSlow_BadRate
        · cases x0_BadRule.symm.trans e2; exact w_TooSlow_BadRule
        · exact absurd rfl ne
    q := fun x hx C e1 => by
      simp only [EL, List.mem_cons, List.not_mem_nil, or_false] at hx
      rcases hx with rfl | rfl | rfl | rfl
      · cases x0_BadNumber.symm.trans e1; exact x19_BadNumber
      · cases x0_BadRate.symm.trans e1; exact x19_BadRate
      · cases x0_BadRule.symm.trans e1; exact x19_BadRule
      · cases x0_TooSlow.symm.trans e1; exact x19_TooSlow
    gq := PySem.W.mg_of X G q_gq
    cn := q_cn
    ct := q_ct }
  have I_BadNumber : ∀ base : Heap, ErrI l.prog w K mg base "BadNumber" C_BadNumber := fun base => ⟨E_BadNumber, init_err x20_BadNumber i_t (fun_mk i_l i_c i_k) ⟨rfl, rfl, rfl, by decide +kernel, rfl, by decide +kernel, by decide +kernel⟩ ((fun_mk i_l i_c i_k).binds fun _ _ _ _ _ _ us hl => match us, hl with | [_, _], _ => rfl) rfl rfl rfl, PySem.W.mg_of X G x0_BadNumber⟩
  have I_BadRate : ∀ base : Heap, ErrI l.prog w K mg base "BadRate" C_BadRate := fun base => ⟨E_BadRate, init_err x20_BadRate i_t (fun_mk i_l i_c i_k) ⟨rfl, rfl, rfl, by decide +kernel, rfl, by decide +kernel, by decide +kernel⟩ ((fun_mk i_l i_c i_k).binds fun _ _ _ _ _ _ us hl => match us, hl with | [_, _], _ => rfl) rfl rfl rfl, PySem.W.mg_of X G x0_BadRate⟩
  have I_BadRule : ∀ base : Heap, ErrI l.prog w K mg base "BadRule" C_BadRule := fun base => ⟨E_BadRule, init_err x20_BadRule i_t (fun_mk i_l i_c i_k) ⟨rfl, rfl, rfl, by decide +kernel, rfl, by decide +kernel, by decide +kernel⟩ ((fun_mk i_l i_c i_k).binds fun _ _ _ _ _ _ us hl => match us, hl with | [_, _], _ => rfl) rfl rfl rfl, PySem.W.mg_of X G x0_BadRule⟩
  have I_TooSlow : ∀ base : Heap, ErrI l.prog w K mg base "TooSlow" C_TooSlow := fun base => ⟨E_TooSlow, init_err x20_TooSlow i_t (fun_mk i_l i_c i_k) ⟨rfl, rfl, rfl, by decide +kernel, rfl, by decide +kernel, by decide +kernel⟩ ((fun_mk i_l i_c i_k).binds fun _ _ _ _ _ _ us hl => match us, hl with | [_, _], _ => rfl) rfl rfl rfl, PySem.W.mg_of X G x0_TooSlow⟩
  have eT : tabsOf K = [(P0__law_right, ("_law_right.<locals>.<lambda>" : Str)), (P0__law_is_refused, ("_law_is_refused.<locals>.<lambda>" : Str))] := by
    unfold tabsOf lamNames
    simp only [List.filterMap_cons, List.filterMap_nil, tb__law_right, t0_joined, t0__law_is_long_told, t0__law_are_rates_told, t0__law_are_rows_told, t0__law_is_great_told, t0__law_are_rates_refused, tb__law_is_refused, t0__law_are_crossed_refused, t0__law_is_blown_told, t0__law_are_judged_told, t0__law_noted, Option.map_some, Option.map_none]
    first | rfl | decide
  have M : Mg mg := ⟨PySem.W.mg_none_of X G z_abs, PySem.W.mg_none_of X G z_all, PySem.W.mg_none_of X G z_bool, PySem.W.mg_none_of X G z_enumerate, PySem.W.mg_none_of X G z_int, PySem.W.mg_none_of X G z_isinstance, PySem.W.mg_none_of X G z_len, PySem.W.mg_none_of X G z_list, PySem.W.mg_none_of X G z_max, PySem.W.mg_none_of X G z_min, PySem.W.mg_none_of X G z_range, PySem.W.mg_none_of X G z_repr, PySem.W.mg_none_of X G z_str, PySem.W.mg_none_of X G z_sum, PySem.W.mg_none_of X G z_tuple, PySem.W.mg_none_of X G z_zip, ⟨_, PySem.W.mg_of X G g_GREATEST_BURST⟩, ⟨_, PySem.W.mg_of X G g_GREATEST_GOAL⟩, ⟨_, PySem.W.mg_of X G g_GREATEST_Q⟩, ⟨_, PySem.W.mg_of X G g_LEAST_GOAL⟩⟩
  have cW : WebF K CW := ⟨⟨pg, hd, po, sa⟩, a_ends, a_places, a_roads, a_text⟩
  refine ⟨K, PySem.W.fnOf "law" "law" (defArgs s_law) (defBody s_law) (defScope s_law) .none kV_law dc_law pm_law an_law cd_law ct_law, (["_law_is_refused", "_law_right"] : List Str), [(c0__law_is_refused, P0__law_is_refused), (c0__law_right, P0__law_right)], X, fun s v => .of_eq rfl, ?_, ?_, ?_, ?_, fun base _ _ hT => ?_, by rw [eC]; exact hD⟩
  · intro y hy
    simp only [List.mem_cons, List.not_mem_nil, or_false] at hy
    rcases hy with rfl | rfl
    · exact ⟨_, by simp, tb__law_is_refused⟩
    · exact ⟨_, by simp, tb__law_right⟩
  · intro y hy
    simp only [List.mem_cons, List.not_mem_nil, or_false] at hy
    rcases hy with rfl | rfl
    · exact rc__law_is_refused
    · exact rc__law_right
  · intro y hy
    simp only [List.mem_cons, List.not_mem_nil, or_false] at hy
    rcases hy with rfl | rfl
    · exact kp__law_is_refused
    · exact kp__law_right
  · rw [eT]; intro p hp; simp only [List.mem_cons, List.not_mem_nil, or_false] at hp; rcases hp with rfl | rfl <;> simp
  rw [eC]
  have lt__law_is_refused : LamT K base mg c0__law_is_refused P0__law_is_refused "_law_is_refused.<locals>.<lambda>" := ⟨hT (c0__law_is_refused, P0__law_is_refused) (by simp), by rw [eT]; simp, by
    rw [eT]; intro p hp e; simp only [List.mem_cons, List.not_mem_nil, or_false] at hp
    rcases hp with rfl | rfl
    · have e : P0__law_right = P0__law_is_refused := e
      have z := ne__law_right__law_is_refused
      rw [e, beq_self_eq_true] at z; cases z
    · rfl
    ⟩
  have lt__law_right : LamT K base mg c0__law_right P0__law_right "_law_right.<locals>.<lambda>" := ⟨hT (c0__law_right, P0__law_right) (by simp), by rw [eT]; simp, by
    rw [eT]; intro p hp e; simp only [List.mem_cons, List.not_mem_nil, or_false] at hp
    rcases hp with rfl | rfl
    · rfl
    · have e : P0__law_is_refused = P0__law_right := e
      have z := ne__law_right__law_is_refused
      rw [← e, beq_self_eq_true] at z; cases z
    ⟩
  have d__law_pot := ok__law_pot (P := l.prog) (w := w) (base := base) (CW := CW) M cW T__law_pot 
  have d__law_take := ok__law_take (P := l.prog) (w := w) (base := base) (CW := CW) M cW T__law_take 
  have d__law_of := ok__law_of (P := l.prog) (w := w) (base := base) (CW := CW) M cW T__law_of d__law_take
  have d__law_cells := ok__law_cells (P := l.prog) (w := w) (base := base) (CW := CW) M cW T__law_cells 
  have h__law_caught := ok__law_caught (P := l.prog) (w := w) (base := base) (CW := CW) M cW q T__law_caught
  have d_is_integer := ok_is_integer (P := l.prog) (w := w) (base := base) (CW := CW) M cW T_is_integer 
  have d_is_within := ok_is_within (P := l.prog) (w := w) (base := base) (CW := CW) M cW T_is_within d_is_integer
  have d_is_slope := ok_is_slope (P := l.prog) (w := w) (base := base) (CW := CW) M cW T_is_slope d_is_integer
  have d_check_rateR := ok_check_rateR (P := l.prog) (w := w) (base := base) (CW := CW) M cW (I_BadRate base) T_check_rate d_is_slope d_is_within
  have d_check_hinderedR := ok_check_hinderedR (P := l.prog) (w := w) (base := base) (CW := CW) M cW gt_RULES (I_BadRule base) T_check_hindered 
  have d_blown_webR := ok_blown_webR (P := l.prog) (w := w) (base := base) (CW := CW) M cW T_blown_web d_check_hinderedR
  have d_putterR := ok_putterR (P := l.prog) (w := w) (base := base) (CW := CW) M cW gt_SLOWEST (I_BadNumber base) (I_TooSlow base) T_putter d_check_hinderedR d_check_rateR d_is_within
  have d__law_is_rate := ok__law_is_rate (P := l.prog) (w := w) (base := base) (CW := CW) M cW T__law_is_rate 
  have d__law_due := ok__law_due (P := l.prog) (w := w) (base := base) (CW := CW) M cW T__law_due d__law_is_rate
  have d__law_is_refused := ok__law_is_refused (P := l.prog) (w := w) (base := base) (CW := CW) M cW T__law_is_refused lt__law_is_refused h__law_caught d__law_due d_putterR
  have d__law_right := ok__law_right (P := l.prog) (w := w) (base := base) (CW := CW) M cW T__law_right lt__law_right h__law_caught d__law_is_refused d__law_of d_blown_webR
  exact ok_law (P := l.prog) (w := w) (base := base) (CW := CW) M cW l_law c_law k_law d__law_cells d__law_pot d__law_right
theorem walk {l : PySem.W.OpenLaw} {q : Program} {loose : List Str} {XP : (Str → Option Value) → Heap → Prop} {YP : World → Heap → Prop} {d : DefRec} (hn : l.most = some 63) (hdf : d.params.defaults = [])
    (F : ∀ (w : World) (mg : Str → Option Value) (fa : Addr) (h : Heap), YP w h → h.Ns mainGlobals mg → mg d.name = some (.ref fa) → ∃ (K : PySem.W.Frag) (fd : FuncData) (xs : List Str) (cs : List (Addr × Addr)), K.In h ∧ (∀ (s : Shared) (u : Value), BindsTo s fd ⟨[u], []⟩ [("script", u)]) ∧
      (∀ p ∈ cs, ∃ y ∈ xs, PySem.W.tabIn K y = some p) ∧ (∀ y ∈ xs, ∃ e : DefRec, (recsOf q).find? (fun e => e.name == y) = some e) ∧ (∀ p ∈ cs, K.lookup p.2 = none) ∧ (∀ p ∈ tabsOf K, p.1 ∈ cs.map (·.2)) ∧
      (∀ base : Heap, K.In base → base.Ns mainGlobals mg → (∀ p ∈ cs, LamX.TabB base mg p.1 p.2) → FG l.prog w K mg base CX0 9 fa fd ["script"] (spF K 1 (D_law (cwOf K)))) ∧ ∀ ns : List Int, ns.length ≤ 63 → ∃ st', D_law (cwOf K) [.lsr (ns.map D.int)] [] = .ok (.bl true) st') :
    PySem.W.WalkO q loose XP YP l.row.toRowW d [] (fun f vs => PySem.call f vs) :=
  walk_ofG (n := 63) (k := 9) (x := "script") (F := fun _ K _ => D_law (cwOf K)) hn (by decide) hdf ⟨rfl, by decide, by decide⟩ F
end K36
open PySem PySem.W PyProof.Rows in
set_option maxRecDepth 100000 in
set_option maxHeartbeats 0 in
theorem PySem.Challenge.cw_roadqueues_k36_putters_refused_holds : PySem.Challenge.rw_roadqueues_k36_putters_refused.Holds := by
  w_on; o_law; k_head; (case hw => w_witness2)
  k_fill
  refine K36.walk (l := PySem.Challenge.rw_roadqueues_k36_putters_refused) rfl rfl ?F
  case F =>
    intro w mg fa h Y G hmg
    have KX := PySem.W.km_in_of Y
    refine' K36.all_mk KX G hmg ?aC ?n__law_pot ?l__law_pot ?c__law_pot ?k__law_pot ?n__law_take ?l__law_take ?c__law_take ?k__law_take ?n__law_of ?l__law_of ?c__law_of ?k__law_of ?n__law_cells ?l__law_cells ?c__law_cells ?k__law_cells ?n__law_caught ?l__law_caught ?c__law_caught ?k__law_caught ?n_is_integer ?l_is_integer ?c_is_integer ?k_is_integer ?n_is_within ?l_is_within ?c_is_within ?k_is_within ?n_is_slope ?l_is_slope ?c_is_slope ?k_is_slope ?n_check_rate ?l_check_rate ?c_check_rate ?k_check_rate ?n_check_hindered ?l_check_hindered ?c_check_hindered ?k_check_hindered ?n_blown_web ?l_blown_web ?c_blown_web ?k_blown_web ?n_putter ?l_putter ?c_putter ?k_putter ?n__law_is_rate ?l__law_is_rate ?c__law_is_rate ?k__law_is_rate ?n__law_due ?l__law_due ?c__law_due ?k__law_due ?n__law_is_refused ?l__law_is_refused ?tb__law_is_refused ?kp__law_is_refused ?c__law_is_refused ?k__law_is_refused ?n__law_right ?l__law_right ?tb__law_right ?kp__law_right ?c__law_right ?k__law_right ?n_law ?l_law ?c_law ?k_law ?z_abs ?z_all ?z_bool ?z_enumerate ?z_int ?z_isinstance ?z_len ?z_list ?z_max ?z_min ?z_range ?z_repr ?z_str ?z_sum ?z_tuple ?z_zip ?g_GREATEST_BURST ?g_GREATEST_GOAL ?g_GREATEST_Q ?g_LEAST_GOAL ?g_RULES ?gl_RULES ?g_SLOWEST ?gl_SLOWEST ?pg ?hd ?po ?sa ?mk ?kc ?a_ends ?a_places ?a_roads ?a_text ?q_gq ?q_cn ?q_ct ?x0_BadNumber ?x1_BadNumber ?x2_BadNumber ?x3_BadNumber ?x4_BadNumber ?x5_BadNumber ?x6_BadNumber ?x7_BadNumber ?x8_BadNumber ?x9_BadNumber ?x10_BadNumber ?x11_BadNumber ?x12_BadNumber ?x13_BadNumber ?x14_BadNumber ?x15_BadNumber ?x16_BadNumber ?x17_BadNumber ?x18_BadNumber ?x19_BadNumber ?x20_BadNumber ?x0_BadRate ?x1_BadRate ?x2_BadRate ?x3_BadRate ?x4_BadRate ?x5_BadRate ?x6_BadRate ?x7_BadRate ?x8_BadRate ?x9_BadRate ?x10_BadRate ?x11_BadRate ?x12_BadRate ?x13_BadRate ?x14_BadRate ?x15_BadRate ?x16_BadRate ?x17_BadRate ?x18_BadRate ?x19_BadRate ?x20_BadRate ?x0_BadRule ?x1_BadRule ?x2_BadRule ?x3_BadRule ?x4_BadRule ?x5_BadRule ?x6_BadRule ?x7_BadRule ?x8_BadRule ?x9_BadRule ?x10_BadRule ?x11_BadRule ?x12_BadRule ?x13_BadRule ?x14_BadRule ?x15_BadRule ?x16_BadRule ?x17_BadRule ?x18_BadRule ?x19_BadRule ?x20_BadRule ?x0_TooSlow ?x1_TooSlow ?x2_TooSlow ?x3_TooSlow ?x4_TooSlow ?x5_TooSlow ?x6_TooSlow ?x7_TooSlow ?x8_TooSlow ?x9_TooSlow ?x10_TooSlow ?x11_TooSlow ?x12_TooSlow ?x13_TooSlow ?x14_TooSlow ?x15_TooSlow ?x16_TooSlow ?x17_TooSlow ?x18_TooSlow ?x19_TooSlow ?x20_TooSlow ?w_BadNumber_BadRate ?w_BadNumber_BadRule ?w_BadNumber_TooSlow ?w_BadRate_BadNumber ?w_BadRate_BadRule ?w_BadRate_TooSlow ?w_BadRule_BadNumber ?w_BadRule_BadRate ?w_BadRule_TooSlow ?w_TooSlow_BadNumber ?w_TooSlow_BadRate ?w_TooSlow_BadRule ?i_t ?i_l ?i_c ?i_k ?t0_joined ?t0__law_is_long_told ?t0__law_are_rates_told ?t0__law_are_rows_told ?t0__law_is_great_told ?t0__law_are_rates_refused ?t0__law_are_crossed_refused ?t0__law_is_blown_told ?t0__law_are_judged_told ?t0__law_noted ?ne__law_right__law_is_refused ?rc__law_is_refused ?rc__law_right ?hD
    (case aC => k_is)
    (case n__law_pot => k_is)
    (case l__law_pot => k_is)
    (case c__law_pot => k_is)
    (case k__law_pot => k_is)
    (case n__law_take => k_is)
    (case l__law_take => k_is)
    (case c__law_take => k_is)
    (case k__law_take => k_is)
    (case n__law_of => k_is)
    (case l__law_of => k_is)
    (case c__law_of => k_is)
    (case k__law_of => k_is)
    (case n__law_cells => k_is)
    (case l__law_cells => k_is)
    (case c__law_cells => k_is)
    (case k__law_cells => k_is)
    (case n__law_caught => k_is)
    (case l__law_caught => k_is)
    (case c__law_caught => k_is)
    (case k__law_caught => k_is)
    (case n_is_integer => k_is)
    (case l_is_integer => k_is)
    (case c_is_integer => k_is)
    (case k_is_integer => k_is)
    (case n_is_within => k_is)
    (case l_is_within => k_is)
    (case c_is_within => k_is)
    (case k_is_within => k_is)
    (case n_is_slope => k_is)
    (case l_is_slope => k_is)
    (case c_is_slope => k_is)
    (case k_is_slope => k_is)
    (case n_check_rate => k_is)
    (case l_check_rate => k_is)
    (case c_check_rate => k_is)
    (case k_check_rate => k_is)
    (case n_check_hindered => k_is)
    (case l_check_hindered => k_is)
    (case c_check_hindered => k_is)
    (case k_check_hindered => k_is)
    (case n_blown_web => k_is)
    (case l_blown_web => k_is)
    (case c_blown_web => k_is)
    (case k_blown_web => k_is)
    (case n_putter => k_is)
    (case l_putter => k_is)
    (case c_putter => k_is)
    (case k_putter => k_is)
    (case n__law_is_rate => k_is)
    (case l__law_is_rate => k_is)
    (case c__law_is_rate => k_is)
    (case k__law_is_rate => k_is)
    (case n__law_due => k_is)
    (case l__law_due => k_is)
    (case c__law_due => k_is)
    (case k__law_due => k_is)
    (case n__law_is_refused => k_is)
    (case l__law_is_refused => k_is)
    (case tb__law_is_refused => first | rfl | k_is)
    (case kp__law_is_refused => first | rfl | k_is)
    (case c__law_is_refused => k_is)
    (case k__law_is_refused => k_is)
    (case n__law_right => k_is)
    (case l__law_right => k_is)
    (case tb__law_right => first | rfl | k_is)
    (case kp__law_right => first | rfl | k_is)
    (case c__law_right => k_is)
    (case k__law_right => k_is)
    (case n_law => k_is)
    (case l_law => k_is)
    (case c_law => k_is)
    (case k_law => k_is)
    (case z_abs => k_is)
    (case z_all => k_is)
    (case z_bool => k_is)
    (case z_enumerate => k_is)
    (case z_int => k_is)
    (case z_isinstance => k_is)
    (case z_len => k_is)
    (case z_list => k_is)
    (case z_max => k_is)
    (case z_min => k_is)
    (case z_range => k_is)
    (case z_repr => k_is)
    (case z_str => k_is)
    (case z_sum => k_is)
    (case z_tuple => k_is)
    (case z_zip => k_is)
    (case g_GREATEST_BURST => k_is)
    (case g_GREATEST_GOAL => k_is)
    (case g_GREATEST_Q => k_is)
    (case g_LEAST_GOAL => k_is)
    (case g_RULES => k_is)
    (case gl_RULES => first | decide +kernel | rfl | k_is)
    (case g_SLOWEST => k_is)
    (case gl_SLOWEST => first | decide +kernel | rfl | k_is)
    (case pg => k_is)
    (case hd => k_is)
    (case po => k_is)
    (case sa => k_is)
    (case mk => k_is)
    (case kc => k_is)
    (case a_ends => k_is)
    (case a_places => k_is)
    (case a_roads => k_is)
    (case a_text => k_is)
    (case q_gq => k_is)
    (case q_cn => k_is)
    (case q_ct => k_is)
    (case x0_BadNumber => k_is)
    (case x1_BadNumber => first | rfl | k_is)
    (case x2_BadNumber => k_is)
    (case x3_BadNumber => k_is)
    (case x4_BadNumber => k_is)
    (case x5_BadNumber => k_is)
    (case x6_BadNumber => k_is)
    (case x7_BadNumber => k_is)
    (case x8_BadNumber => k_is)
    (case x9_BadNumber => k_is)
    (case x10_BadNumber => k_is)
    (case x11_BadNumber => k_is)
    (case x12_BadNumber => k_is)
    (case x13_BadNumber => k_is)
    (case x14_BadNumber => k_is)
    (case x15_BadNumber => k_is)
    (case x16_BadNumber => k_is)
    (case x17_BadNumber => k_is)
    (case x18_BadNumber => k_is)
    (case x19_BadNumber => first | rfl | k_is)
    (case x20_BadNumber => k_is)
    (case x0_BadRate => k_is)
    (case x1_BadRate => first | rfl | k_is)
    (case x2_BadRate => k_is)
    (case x3_BadRate => k_is)
    (case x4_BadRate => k_is)
    (case x5_BadRate => k_is)
    (case x6_BadRate => k_is)
    (case x7_BadRate => k_is)
    (case x8_BadRate => k_is)
    (case x9_BadRate => k_is)
    (case x10_BadRate => k_is)
    (case x11_BadRate => k_is)
    (case x12_BadRate => k_is)
    (case x13_BadRate => k_is)
    (case x14_BadRate => k_is)
    (case x15_BadRate => k_is)
    (case x16_BadRate => k_is)
    (case x17_BadRate => k_is)
    (case x18_BadRate => k_is)
    (case x19_BadRate => first | rfl | k_is)
    (case x20_BadRate => k_is)
    (case x0_BadRule => k_is)
    (case x1_BadRule => first | rfl | k_is)
    (case x2_BadRule => k_is)
    (case x3_BadRule => k_is)
    (case x4_BadRule => k_is)
    (case x5_BadRule => k_is)
    (case x6_BadRule => k_is)
    (case x7_BadRule => k_is)
    (case x8_BadRule => k_is)
    (case x9_BadRule => k_is)
    (case x10_BadRule => k_is)
    (case x11_BadRule => k_is)
    (case x12_BadRule => k_is)
    (case x13_BadRule => k_is)
    (case x14_BadRule => k_is)
    (case x15_BadRule => k_is)
    (case x16_BadRule => k_is)
    (case x17_BadRule => k_is)
    (case x18_BadRule => k_is)
    (case x19_BadRule => first | rfl | k_is)
    (case x20_BadRule => k_is)
    (case x0_TooSlow => k_is)
    (case x1_TooSlow => first | rfl | k_is)
    (case x2_TooSlow => k_is)
    (case x3_TooSlow => k_is)
    (case x4_TooSlow => k_is)
    (case x5_TooSlow => k_is)
    (case x6_TooSlow => k_is)
    (case x7_TooSlow => k_is)
    (case x8_TooSlow => k_is)
    (case x9_TooSlow => k_is)
    (case x10_TooSlow => k_is)
    (case x11_TooSlow => k_is)
    (case x12_TooSlow => k_is)
    (case x13_TooSlow => k_is)
    (case x14_TooSlow => k_is)
    (case x15_TooSlow => k_is)
    (case x16_TooSlow => k_is)
    (case x17_TooSlow => k_is)
    (case x18_TooSlow => k_is)
    (case x19_TooSlow => first | rfl | k_is)
    (case x20_TooSlow => k_is)
    (case w_BadNumber_BadRate => k_is)
    (case w_BadNumber_BadRule => k_is)
    (case w_BadNumber_TooSlow => k_is)
    (case w_BadRate_BadNumber => k_is)
    (case w_BadRate_BadRule => k_is)
    (case w_BadRate_TooSlow => k_is)
    (case w_BadRule_BadNumber => k_is)
    (case w_BadRule_BadRate => k_is)
    (case w_BadRule_TooSlow => k_is)
    (case w_TooSlow_BadNumber => k_is)
    (case w_TooSlow_BadRate => k_is)
    (case w_TooSlow_BadRule => k_is)
    (case i_t => k_is)
    (case i_l => k_is)
    (case i_c => k_is)
    (case i_k => k_is)
    (case t0_joined => first | rfl | k_is)
    (case t0__law_is_long_told => first | rfl | k_is)
    (case t0__law_are_rates_told => first | rfl | k_is)
    (case t0__law_are_rows_told => first | rfl | k_is)
    (case t0__law_is_great_told => first | rfl | k_is)
    (case t0__law_are_rates_refused => first | rfl | k_is)
    (case t0__law_are_crossed_refused => first | rfl | k_is)
    (case t0__law_is_blown_told => first | rfl | k_is)
    (case t0__law_are_judged_told => first | rfl | k_is)
    (case t0__law_noted => first | rfl | k_is)
    (case ne__law_right__law_is_refused => first | rfl | k_is)
    (case rc__law_is_refused => exact ⟨_, rfl⟩)
    (case rc__law_right => exact ⟨_, rfl⟩)
    (case hD => exact K36.math _)
