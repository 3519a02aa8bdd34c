import PyProof.Rows.All
import Wide.All
import OpenK.AllK
import Wide.FinOn
import HandS.ForMost
import KE.KeyNested
import HandS.Flow
import HandS.Deep
import KE.DataEq
import KE.DataCmp
import HandS.TupAny
import HandS.TupMul
import HandS.Wide
import HandS.IsInst
import HandS.Text
import KE.SortData
import HandS.WordsExc
import HandS.Style
import HandS.Iter
import HandS.Zip
import HandS.Comp
import HandS.DictComp
import KE.KDictCopyH
import HandS.CallLocal
import HandS.ExcInit
import PyProof.ExcBaseAll.LookupError
import PyProof.ExcBaseAll.ValueError
import KE.KExcInit
import HandS.TryMany
import HandS.ExcField
import HandS.ExcIs
import KE.KExcIs
import HandS.Defaults
import HandS.SetFor
import HandS.Strs
import KE.KDictList
import KE.KDictZip
import HandS.HeadHook2
import HandS.NoneIn
import HandS.WideBits
import HandS.DictTup
import KE.KPairComp
import HandS.SetKeys
import PyProof.DictMoreH
import HandS.MakeKw
import HandS.RevRange
import HandS.Conv
import PyProof.DictRoadsH
import KE.DataFind
import PyProof.SeqIndex
import HandS.Rev
import HandS.SortKw
import KE.DataMinMax
import PyProof.Rows.IntBool
import KE.GoesMore
import HandS.TupLen
import KE.KDictPairs
import HandS.Small
import PyProof.Rows.CallKwBuiltin
import KE.SortCalls
import HandS.TupSets
import HandS.ExcValue
import KE.GoesEnum
import KE.GoesComp
import PyProof.Rows.SumAny
import PyProof.WalksMore
import KE.KDictItemsList
import KE.KDictWalk
import HandS.Star
import KE.KStateDown
import HandS.HeadEnd
import HandS.Head3
import PySem.Challenge.RW_tatamirooms_k04_whole_rims_and_points
set_option Elab.async false
set_option linter.all false
set_option maxRecDepth 100000
set_option maxHeartbeats 2000000
namespace RE
open PySem PySem.Spec PyProof.Rows L2
inductive D where
  | non | bl (b : Bool) | int (i : Int) | str (s : Str)
  | lst (ds : List D) | tup (ds : List D) | kt (ds : List D) | ks (ds : List D) | dK (kvs : List (Key × D)) | dT (kvs : List (List Key × D)) | fn (i : Nat) | ob (c : Nat) (fs : List (Str × D))
/-- a tuple whose object is known to have no dict: of the written part, or told when it was made -/
def KT (K : PySem.W.Frag) (A : Addr → Prop) (H : Hp) (a : Addr) (xs : List V) : Prop :=
  (∃ (o : Obj) (its : Array Value) (n : Nat), K.lookup a = some o ∧ o.cls = Value.type "tuple" ∧ o.dict = none ∧ o.data = .seq its n ∧ its.size ≤ sizeLine ∧ Vals xs its.toList) ∨
    ∃ o : Obj, H a = some (.frz o (.tup xs)) ∧ o.dict = none ∧ ¬ A a
theorem KT.sq {K : PySem.W.Frag} {A : Addr → Prop} {H : Hp} {a : Addr} {xs : List V} (h : KT K A H a xs) : SqT K H a xs := by
  rcases h with ⟨o, its, n, h1, h2, _, h3⟩ | ⟨o, h, _⟩
  · exact .inr ⟨o, its, n, h1, h2, h3⟩
  · exact .inl (.inr ⟨o, h⟩)
theorem KT.ext {K : PySem.W.Frag} {A A' : Addr → Prop} {H H' : Hp} {a : Addr} {xs : List V} (h : KT K A H a xs) (k : ∀ a o, H a = some o → ¬ A a → H' a = some o ∧ ¬ A' a) : KT K A' H' a xs := by
  rcases h with h | ⟨o, h, hd, n⟩
  · exact .inl h
  · exact .inr ⟨o, (k _ _ h n).1, hd, (k _ _ h n).2⟩
mutual
/-- a key without texts -/
def noTxt : NestedKey → Bool
  | .text _ => false
  | .tup ks => noTxts ks
  | _ => true
def noTxts : List NestedKey → Bool
  | [] => true
  | k :: ks => noTxt k && noTxts ks
end
/-- a dict whose keys are tuples of any depth -/
def NdO (a : Addr) (xs : List (NestedKey × Addr × V)) : HO := .ext fun h => (a == sysModules) = false ∧ ∃ ys : List (NestedKey × Addr × Value),
  Paired (fun (p : NestedKey × Addr × V) (q : NestedKey × Addr × Value) => p.1 = q.1 ∧ p.2.1 = q.2.1 ∧ RelV p.2.2 q.2.2) xs ys ∧ (xs.map (·.1)).Nodup ∧ noTxts (xs.map (·.1)) = true ∧
  ∃ o es ep, h.get? a = some o ∧ o.ExactDict ∧ o.data = .dict es ep ∧ ∀ w : World, es.toList = ys.map fun y => (⟨y.1.hash w, .ref y.2.1, y.2.2⟩ : DictEntry)
/-- a list of the written part -/
def KL (K : PySem.W.Frag) (a : Addr) (xs : List V) : Prop :=
  ∃ (o : Obj) (its : Array Value) (n : Nat), K.lookup a = some o ∧ o.cls = Value.type "list" ∧ o.dict = none ∧ o.data = .seq its n ∧ its.size ≤ sizeLine ∧ Vals xs its.toList
/-- the program: its written part, where its defs stand -/
structure G where
  K : PySem.W.Frag
  F : Nat → Addr
  /-- own exceptions: their classes, their fields' names -/
  C : Nat → Addr
  fld : Nat → List Str
/-- no tuple -/
def NT (o : HO) : Prop := ∀ xs, o ≠ .tup xs
/-- how v, over the heap H, stands for d; A: the addresses that may still change -/
inductive Rp (g : G) (A : Addr → Prop) (H : Hp) : V → D → Prop where
  | non : Rp g A H .non .non
  | bl (b : Bool) : Rp g A H (.bl b) (.bl b)
  | int (i : Int) : Rp g A H (.int i) (.int i)
  | str (s : Str) : Rp g A H (.str s) (.str s)
  | lst {a : Addr} {xs : List V} {ds : List D} : H a = some (.lst xs) → ¬ A a → xs.length = ds.length → (∀ (i : Nat) x d, xs[i]? = some x → ds[i]? = some d → Rp g A H x d) → Rp g A H (.ref a) (.lst ds)
  | tup {a : Addr} {xs : List V} {ds : List D} : H a = some (.tup xs) → ¬ A a → xs.length = ds.length → (∀ (i : Nat) x d, xs[i]? = some x → ds[i]? = some d → Rp g A H x d) → Rp g A H (.ref a) (.tup ds)
  | ktup {a : Addr} {xs : List V} {ds : List D} : KT g.K A H a xs → xs.length = ds.length → (∀ (i : Nat) x d, xs[i]? = some x → ds[i]? = some d → Rp g A H x d) → Rp g A H (.ref a) (.kt ds)
  | kls {a : Addr} {o : Obj} {xs : List V} {ds : List D} : H a = some (.frz o (.lst xs)) → ¬ A a → xs.length = ds.length → (∀ (i : Nat) x d, xs[i]? = some x → ds[i]? = some d → Rp g A H x d) → Rp g A H (.ref a) (.ks ds)
  | klw {a : Addr} {xs : List V} {ds : List D} : KL g.K a xs → xs.length = ds.length → (∀ (i : Nat) x d, xs[i]? = some x → ds[i]? = some d → Rp g A H x d) → Rp g A H (.ref a) (.ks ds)
  | dK {a : Addr} {xs : List (Key × V)} {ds : List (Key × D)} : Rd H a (.dK xs) → ¬ A a → xs.length = ds.length → (∀ (i : Nat) x d, xs[i]? = some x → ds[i]? = some d → x.1 = d.1) → (∀ (i : Nat) x d, xs[i]? = some x → ds[i]? = some d → Rp g A H x.2 d.2) → Rp g A H (.ref a) (.dK ds)
  | dT {a : Addr} {xs : List (List Key × V)} {ds : List (List Key × D)} : Rd H a (.dT xs) → ¬ A a → xs.length = ds.length → (∀ (i : Nat) x d, xs[i]? = some x → ds[i]? = some d → x.1 = d.1) → (∀ (i : Nat) x d, xs[i]? = some x → ds[i]? = some d → Rp g A H x.2 d.2) → Rp g A H (.ref a) (.dT ds)
  | fn (i : Nat) : Rp g A H (.ref (g.F i)) (.fn i)
  | ob {a dx : Addr} {c : Nat} {xs : List (Str × V)} {ds : List (Str × D)} : H a = some (.ins (g.C c) dx xs) → ¬ A a → xs.length = ds.length → (∀ (i : Nat) x d, xs[i]? = some x → ds[i]? = some d → x.1 = d.1) → (∀ (i : Nat) x d, xs[i]? = some x → ds[i]? = some d → Rp g A H x.2 d.2) → Rp g A H (.ref a) (.ob c ds)
/-- item by item -/
def RpA (g : G) (A : Addr → Prop) (H : Hp) (xs : List V) (ds : List D) : Prop :=
  xs.length = ds.length ∧ ∀ (i : Nat) x d, xs[i]? = some x → ds[i]? = some d → Rp g A H x d
section
variable {g : G} {A A' : Addr → Prop} {H H' : Hp}
theorem rd_ext {a : Addr} {u : HO} (h : Rd H a u) (na : ¬ A a) (k : ∀ a o, H a = some o → ¬ A a → H' a = some o ∧ ¬ A' a) : Rd H' a u ∧ ¬ A' a := by
  rcases h with h | ⟨o, h⟩
  · exact ⟨.inl (k _ _ h na).1, (k _ _ h na).2⟩
  · exact ⟨.inr ⟨o, (k _ _ h na).1⟩, (k _ _ h na).2⟩
/-- what stands is kept -/
theorem Rp.ext {v : V} {d : D} (r : Rp g A H v d) (k : ∀ a o, H a = some o → ¬ A a → H' a = some o ∧ ¬ A' a) : Rp g A' H' v d := by
  induction r with
  | non => exact .non
  | bl b => exact .bl b
  | int i => exact .int i
  | str s => exact .str s
  | lst h na hl _ ih => exact .lst (k _ _ h na).1 (k _ _ h na).2 hl fun i x d hx hd => ih i x d hx hd
  | tup h na hl _ ih => exact .tup (k _ _ h na).1 (k _ _ h na).2 hl fun i x d hx hd => ih i x d hx hd
  | ktup h hl _ ih => exact .ktup (h.ext k) hl fun i x d hx hd => ih i x d hx hd
  | kls h na hl _ ih => exact .kls (k _ _ h na).1 (k _ _ h na).2 hl fun i x d hx hd => ih i x d hx hd
  | klw h hl _ ih => exact .klw h hl fun i x d hx hd => ih i x d hx hd
  | dK h na hl hk _ ih => exact .dK (rd_ext h na k).1 (rd_ext h na k).2 hl hk fun i x d hx hd => ih i x d hx hd
  | dT h na hl hk _ ih => exact .dT (rd_ext h na k).1 (rd_ext h na k).2 hl hk fun i x d hx hd => ih i x d hx hd
  | fn i => exact .fn i
  | ob h na hl hk _ ih => exact .ob (k _ _ h na).1 (k _ _ h na).2 hl hk fun i x d hx hd => ih i x d hx hd
theorem RpA.ext {xs : List V} {ds : List D} (r : RpA g A H xs ds) (k : ∀ a o, H a = some o → ¬ A a → H' a = some o ∧ ¬ A' a) : RpA g A' H' xs ds :=
  ⟨r.1, fun i x d hx hd => (r.2 i x d hx hd).ext k⟩
theorem RpA.nil : RpA g A H [] [] := ⟨rfl, fun i x d hx => by simp at hx⟩
theorem RpA.cons {x : V} {xs : List V} {d : D} {ds : List D} (h : Rp g A H x d) (t : RpA g A H xs ds) : RpA g A H (x :: xs) (d :: ds) :=
  ⟨by simp [t.1], fun i y e hy he => by
    cases i with
    | zero =>
      have e1 : x = y := by simpa using hy
      have e2 : d = e := by simpa using he
      subst e1; subst e2; exact h
    | succ i => exact t.2 i y e (by simpa using hy) (by simpa using he)⟩
theorem RpA.uncons {x : V} {xs : List V} {d : D} {ds : List D} (h : RpA g A H (x :: xs) (d :: ds)) : Rp g A H x d ∧ RpA g A H xs ds :=
  ⟨h.2 0 x d rfl rfl, by have := h.1; simpa using this, fun i y e hy he => h.2 (i + 1) y e (by simpa using hy) (by simpa using he)⟩
theorem RpA.cases_cons {vs : List V} {d : D} {ds : List D} (h : RpA g A H vs (d :: ds)) : ∃ x xs, vs = x :: xs ∧ Rp g A H x d ∧ RpA g A H xs ds := by
  cases vs with
  | nil => have := h.1; simp at this
  | cons x xs => exact ⟨x, xs, rfl, h.uncons.1, h.uncons.2⟩
theorem RpA.cases_nil {vs : List V} (h : RpA g A H vs []) : vs = [] := by
  cases vs with
  | nil => rfl
  | cons x xs => have := h.1; simp at this
theorem RpA.append {xs ys : List V} {ds es : List D} (h : RpA g A H xs ds) (t : RpA g A H ys es) : RpA g A H (xs ++ ys) (ds ++ es) := by
  induction xs generalizing ds with
  | nil =>
    cases ds with
    | nil => exact t
    | cons d ds => have := h.1; simp at this
  | cons x xs ih =>
    cases ds with
    | nil => have := h.1; simp at this
    | cons d ds => exact RpA.cons h.uncons.1 (ih h.uncons.2)
theorem RpA.take {xs : List V} {ds : List D} (n : Nat) (h : RpA g A H xs ds) : RpA g A H (xs.take n) (ds.take n) :=
  ⟨by simp [h.1], fun i x d hx hd => by
    rw [List.getElem?_take] at hx hd
    split at hx
    · rename_i hi; rw [if_pos hi] at hd; exact h.2 i x d hx hd
    · cases hx⟩
theorem RpA.drop {xs : List V} {ds : List D} (n : Nat) (h : RpA g A H xs ds) : RpA g A H (xs.drop n) (ds.drop n) :=
  ⟨by simp [h.1], fun i x d hx hd => by
    rw [List.getElem?_drop] at hx hd
    exact h.2 _ x d hx hd⟩
theorem RpA.get {xs : List V} {ds : List D} {i : Nat} {d : D} (h : RpA g A H xs ds) (e : ds[i]? = some d) : ∃ x, xs[i]? = some x ∧ Rp g A H x d := by
  obtain ⟨hi, _⟩ := List.getElem?_eq_some_iff.mp e
  have hx : xs[i]? = some (xs[i]'(by rw [h.1]; exact hi)) := List.getElem?_eq_getElem _
  exact ⟨_, hx, h.2 i _ d hx e⟩
theorem Rp.lst' {a : Addr} {xs : List V} {ds : List D} (h : H a = some (.lst xs)) (n : ¬ A a) (r : RpA g A H xs ds) : Rp g A H (.ref a) (.lst ds) := .lst h n r.1 r.2
theorem Rp.tup' {a : Addr} {xs : List V} {ds : List D} (h : H a = some (.tup xs)) (n : ¬ A a) (r : RpA g A H xs ds) : Rp g A H (.ref a) (.tup ds) := .tup h n r.1 r.2
theorem Rp.inv_non {v : V} (r : Rp g A H v .non) : v = .non := by cases r; rfl
theorem Rp.inv_bl {v : V} {b : Bool} (r : Rp g A H v (.bl b)) : v = .bl b := by cases r; rfl
theorem Rp.inv_int {v : V} {i : Int} (r : Rp g A H v (.int i)) : v = .int i := by cases r; rfl
theorem Rp.inv_str {v : V} {s : Str} (r : Rp g A H v (.str s)) : v = .str s := by cases r; rfl
theorem Rp.inv_lst {v : V} {ds : List D} (r : Rp g A H v (.lst ds)) : ∃ a xs, v = .ref a ∧ H a = some (.lst xs) ∧ ¬ A a ∧ RpA g A H xs ds := by
  cases r with
  | lst h n hl q => exact ⟨_, _, rfl, h, n, hl, q⟩
theorem Rp.inv_tup {v : V} {ds : List D} (r : Rp g A H v (.tup ds)) : ∃ a xs, v = .ref a ∧ H a = some (.tup xs) ∧ ¬ A a ∧ RpA g A H xs ds := by
  cases r with
  | tup h n hl q => exact ⟨_, _, rfl, h, n, hl, q⟩
theorem Rp.inv_kt {v : V} {ds : List D} (r : Rp g A H v (.kt ds)) : ∃ a xs, v = .ref a ∧ KT g.K A H a xs ∧ RpA g A H xs ds := by
  cases r with
  | ktup h hl q => exact ⟨_, _, rfl, h, hl, q⟩
/-- the items of a list, a tuple -/
def seqD : D → Option (List D)
  | .lst ds => some ds
  | .tup ds => some ds
  | .kt ds => some ds
  | .ks ds => some ds
  | _ => none
theorem Rp.seq {v : V} {d : D} {ds : List D} (r : Rp g A H v d) (e : seqD d = some ds) : ∃ a xs, v = .ref a ∧ (SqL g.K H a xs ∨ SqT g.K H a xs) ∧ RpA g A H xs ds := by
  cases r with
  | lst h n hl q => cases Option.some.inj e; exact ⟨_, _, rfl, .inl (SqL.of h), hl, q⟩
  | tup h n hl q => cases Option.some.inj e; exact ⟨_, _, rfl, .inr (SqT.of h), hl, q⟩
  | ktup h hl q => cases Option.some.inj e; exact ⟨_, _, rfl, .inr h.sq, hl, q⟩
  | kls h n hl q => cases Option.some.inj e; exact ⟨_, _, rfl, .inl (.inl (.inr ⟨_, h⟩)), hl, q⟩
  | klw h hl q => cases Option.some.inj e; exact ⟨_, _, rfl, .inl (.inr h), hl, q⟩
  | _ => cases e
theorem Rp.inv_fn {v : V} {i : Nat} (r : Rp g A H v (.fn i)) : v = .ref (g.F i) := by cases r; rfl
end
inductive Sl where
  | no | d (x : D) | rf (k : Nat)
/-- rK, rT: a dict of cells; o: an instance that is being made -/
inductive Ce where
  | dead | l (ds : List D) | dK (kvs : List (Key × D)) | dT (kvs : List (List Key × D)) | dN (kvs : List (D × D)) | rK (kvs : List (Key × Nat)) | rT (kvs : List (List Key × Nat)) | o (c : Nat) (fs : List (Str × Sl))
structure S where
  sl : List Sl
  ce : List Ce
def Ce.alive : Ce → Bool
  | .dead => false
  | _ => true
/-- where a frame's cells stand; what is not to be spoken of -/
structure Rh where
  ad : List Addr
  U : Addr → Prop
/-- the addresses that may change: those of the cells that are alive -/
def Vol (ρ : Rh) (st : S) (a : Addr) : Prop := ρ.U a ∨ ∃ (k : Nat) (c : Ce), st.ce[k]? = some c ∧ c.alive = true ∧ ρ.ad[k]? = some a
/-- cells, item by item -/
def RfA (ad : List Addr) (vs : List V) (ks : List Nat) : Prop := vs.length = ks.length ∧ ∀ (i : Nat) v k, vs[i]? = some v → ks[i]? = some k → ∃ b, v = .ref b ∧ ad[k]? = some b
def SlV (g : G) (A : Addr → Prop) (ad : List Addr) (H : Hp) (v : V) : Sl → Prop
  | .no => False
  | .d x => Rp g A H v x
  | .rf k => ∃ b, v = .ref b ∧ ad[k]? = some b
def SlA (g : G) (A : Addr → Prop) (ad : List Addr) (H : Hp) (vs : List V) (ss : List Sl) : Prop := vs.length = ss.length ∧ ∀ (i : Nat) v s, vs[i]? = some v → ss[i]? = some s → SlV g A ad H v s
mutual
/-- a datum as a key -/
def nkD : D → Option NestedKey
  | .int i => some (.num i)
  | .bl b => some (.num (if b = true then 1 else 0))
  | .tup ds => match nkDs ds with
    | some ks => some (.tup ks)
    | none => none
  | .kt ds => match nkDs ds with
    | some ks => some (.tup ks)
    | none => none
  | _ => none
def nkDs : List D → Option (List NestedKey)
  | [] => some []
  | d :: ds => match nkD d, nkDs ds with
    | some k, some ks => some (k :: ks)
    | _, _ => none
end
/-- what a cell says of its object -/
def CeOk (g : G) (A : Addr → Prop) (ad : List Addr) (H : Hp) (a : Addr) : Ce → Prop
  | .rK ds => ∃ xs : List (Key × V), H a = some (.dK xs) ∧ xs.map (·.1) = ds.map (·.1) ∧ RfA ad (xs.map (·.2)) (ds.map (·.2))
  | .rT ds => ∃ xs : List (List Key × V), H a = some (.dT xs) ∧ xs.map (·.1) = ds.map (·.1) ∧ RfA ad (xs.map (·.2)) (ds.map (·.2))
  | .o c fs => ∃ (dx : Addr) (xs : List (Str × V)), H a = some (.ins (g.C c) dx xs) ∧ xs.map (·.1) = fs.map (·.1) ∧ SlA g A ad H (xs.map (·.2)) (fs.map (·.2))
  | .dead => True
  | .l ds => ∃ xs, H a = some (.lst xs) ∧ RpA g A H xs ds
  | .dK ds => ∃ xs : List (Key × V), H a = some (.dK xs) ∧ xs.map (·.1) = ds.map (·.1) ∧ RpA g A H (xs.map (·.2)) (ds.map (·.2))
  | .dT ds => ∃ xs : List (List Key × V), H a = some (.dT xs) ∧ xs.map (·.1) = ds.map (·.1) ∧ RpA g A H (xs.map (·.2)) (ds.map (·.2))
  | .dN ds => ∃ xs : List (NestedKey × Addr × V), H a = some (NdO a xs) ∧ xs.map (fun x => some x.1) = ds.map (fun d => nkD d.1) ∧ RpA g A H (xs.map fun x => V.ref x.2.1) (ds.map (·.1)) ∧ RpA g A H (xs.map (·.2.2)) (ds.map (·.2))
def SlOk (g : G) (A : Addr → Prop) (ρ : Rh) (H : Hp) (v : Option V) : Sl → Prop
  | .no => True
  | .d x => ∃ u, v = some u ∧ Rp g A H u x
  | .rf k => ∃ a, v = some (.ref a) ∧ ρ.ad[k]? = some a
/-- the cells' part of it -/
structure Cells (g : G) (ρ : Rh) (H : Hp) (st : S) : Prop where
  uok : ∀ a, ρ.U a → ∃ o, H a = some o ∧ NT o
  clen : ρ.ad.length = st.ce.length
  cell : ∀ (k : Nat) c a, st.ce[k]? = some c → ρ.ad[k]? = some a → CeOk g (Vol ρ st) ρ.ad H a c
  inj : ∀ (j k : Nat) (c c' : Ce) a, st.ce[j]? = some c → st.ce[k]? = some c' → c.alive = true → c'.alive = true → ρ.ad[j]? = some a → ρ.ad[k]? = some a → j = k
  out : ∀ (k : Nat) c a, st.ce[k]? = some c → c.alive = true → ρ.ad[k]? = some a → ¬ ρ.U a
theorem Cells.uo {g : G} {ρ : Rh} {H : Hp} {st : S} (s : Cells g ρ H st) : ∀ a, ρ.U a → ∃ o, H a = some o := fun a h => let ⟨o, e, _⟩ := s.uok a h; ⟨o, e⟩
theorem CeOk.nt {g : G} {A : Addr → Prop} {ad : List Addr} {H : Hp} {a : Addr} {c : Ce} (h : CeOk g A ad H a c) (al : c.alive = true) : ∃ o, H a = some o ∧ NT o := by
  cases c with
  | dead => cases al
  | l ds => obtain ⟨xs, e, _⟩ := h; exact ⟨_, e, fun _ z => by cases z⟩
  | dK ds => obtain ⟨xs, e, _⟩ := h; exact ⟨_, e, fun _ z => by cases z⟩
  | dT ds => obtain ⟨xs, e, _⟩ := h; exact ⟨_, e, fun _ z => by cases z⟩
  | dN ds => obtain ⟨xs, e, _⟩ := h; exact ⟨_, e, fun _ z => by unfold NdO at z; cases z⟩
  | rK ds => obtain ⟨xs, e, _⟩ := h; exact ⟨_, e, fun _ z => by cases z⟩
  | rT ds => obtain ⟨xs, e, _⟩ := h; exact ⟨_, e, fun _ z => by cases z⟩
  | o c fs => obtain ⟨dx, xs, e, _⟩ := h; exact ⟨_, e, fun _ z => by cases z⟩
structure Sim (g : G) (ρ : Rh) (σ : L2.St) (H : Hp) (st : S) : Prop extends Cells g ρ H st where
  len : σ.length = st.sl.length
  slot : ∀ (i : Nat) s v, st.sl[i]? = some s → σ[i]? = some v → SlOk g (Vol ρ st) ρ H v s
/-- from one state to a later one -/
structure Ext (ρ : Rh) (st : S) (H : Hp) (ρ' : Rh) (st' : S) (H' : Hp) : Prop where
  keep : ∀ a o, H a = some o → ¬ Vol ρ st a → H' a = some o ∧ ¬ Vol ρ' st' a
  pre : ∀ (k : Nat) a, ρ.ad[k]? = some a → ρ'.ad[k]? = some a
  same : ρ'.U = ρ.U
  un : ∀ a, ρ.U a → H' a = H a
  more : ∀ a, Vol ρ' st' a → Vol ρ st a ∨ H a = none
  mono : ∀ a, H' a = none → H a = none
theorem Ext.refl {ρ : Rh} {st : S} {H : Hp} : Ext ρ st H ρ st H := ⟨fun _ _ h n => ⟨h, n⟩, fun _ _ h => h, rfl, fun _ _ => rfl, fun _ h => .inl h, fun _ h => h⟩
theorem Ext.trans {ρ ρ1 ρ2 : Rh} {st st1 st2 : S} {H H1 H2 : Hp} (a : Ext ρ st H ρ1 st1 H1) (b : Ext ρ1 st1 H1 ρ2 st2 H2) : Ext ρ st H ρ2 st2 H2 where
  keep := fun x o h n => by
    obtain ⟨h1, n1⟩ := a.keep x o h n
    exact b.keep x o h1 n1
  pre := fun k x h => b.pre k x (a.pre k x h)
  same := b.same.trans a.same
  un := fun x h => (b.un x (by rw [a.same]; exact h)).trans (a.un x h)
  more := fun x h => by
    rcases b.more x h with h1 | h1
    · exact a.more x h1
    · exact .inr (a.mono x h1)
  mono := fun x h => a.mono x (b.mono x h)
theorem Sim.volT {g : G} {ρ : Rh} {σ : L2.St} {H : Hp} {st : S} (s : Sim g ρ σ H st) {a : Addr} (v : Vol ρ st a) : ∃ o, H a = some o ∧ NT o := by
  rcases v with v | ⟨k, c, hc, ha, hr⟩
  · exact s.uok a v
  · exact (s.cell k c a hc hr).nt ha
theorem Sim.vol {g : G} {ρ : Rh} {σ : L2.St} {H : Hp} {st : S} (s : Sim g ρ σ H st) {a : Addr} (v : Vol ρ st a) : ∃ o, H a = some o := by
  rcases v with v | ⟨k, c, hc, ha, hr⟩
  · exact s.uo a v
  obtain ⟨o, e, _⟩ := (s.cell k c a hc hr).nt ha
  exact ⟨o, e⟩
theorem Rp.go {g : G} {ρ ρ' : Rh} {st st' : S} {H H' : Hp} {v : V} {d : D} (r : Rp g (Vol ρ st) H v d) (e : Ext ρ st H ρ' st' H') : Rp g (Vol ρ' st') H' v d := r.ext e.keep
theorem RpA.go {g : G} {ρ ρ' : Rh} {st st' : S} {H H' : Hp} {v : List V} {d : List D} (r : RpA g (Vol ρ st) H v d) (e : Ext ρ st H ρ' st' H') : RpA g (Vol ρ' st') H' v d := r.ext e.keep
section
variable {g : G} {ρ : Rh} {σ : L2.St} {H : Hp} {st : S} {p : Addr} {o : HO}
theorem Ext.new (s : Sim g ρ σ H st) (hp : H p = none) : Ext ρ st H ρ st (upd H p o) where
  keep := fun a u h n => ⟨by rw [upd_ne (ne_of_none h hp)]; exact h, n⟩
  pre := fun _ _ h => h
  same := rfl
  un := fun a h => by
    obtain ⟨u, hu⟩ := s.uo a h
    exact upd_ne (ne_of_none hu hp)
  more := fun _ h => .inl h
  mono := fun a h => by
    by_cases e : a = p
    · rw [e]; exact hp
    · rw [upd_ne e] at h; exact h
theorem Sim.nvol (s : Sim g ρ σ H st) (hp : H p = none) : ¬ Vol ρ st p := fun v => by
  obtain ⟨o, h⟩ := s.vol v
  rw [hp] at h; cases h
theorem RfA.go {ad ad' : List Addr} {vs : List V} {ks : List Nat} (h : RfA ad vs ks) (pre : ∀ (k : Nat) b, ad[k]? = some b → ad'[k]? = some b) : RfA ad' vs ks :=
  ⟨h.1, fun i v k h1 h2 => let ⟨b, e, q⟩ := h.2 i v k h1 h2; ⟨b, e, pre k b q⟩⟩
theorem SlA.go {A A' : Addr → Prop} {H' : Hp} {ad ad' : List Addr} {vs : List V} {ss : List Sl} (h : SlA g A ad H vs ss) (k : ∀ a o, H a = some o → ¬ A a → H' a = some o ∧ ¬ A' a) (pre : ∀ (k : Nat) b, ad[k]? = some b → ad'[k]? = some b) : SlA g A' ad' H' vs ss :=
  ⟨h.1, fun i v s h1 h2 => by
    have q := h.2 i v s h1 h2
    cases s with
    | no => exact q
    | d x => exact Rp.ext q k
    | rf j => obtain ⟨b, e, z⟩ := q; exact ⟨b, e, pre j b z⟩⟩
theorem CeOk.ext {A A' : Addr → Prop} {ad ad' : List Addr} {H' : Hp} {a : Addr} {c : Ce} (h : CeOk g A ad H a c) (ha : H' a = H a) (k : ∀ a o, H a = some o → ¬ A a → H' a = some o ∧ ¬ A' a) (pre : ∀ (k : Nat) b, ad[k]? = some b → ad'[k]? = some b := by exact fun _ _ h => h) : CeOk g A' ad' H' a c := by
  cases c with
  | dN ds => obtain ⟨xs, e, q, r, u⟩ := h; exact ⟨xs, by rw [ha]; exact e, q, r.ext k, u.ext k⟩
  | rK ds => obtain ⟨xs, e, q, r⟩ := h; exact ⟨xs, by rw [ha]; exact e, q, r.go pre⟩
  | rT ds => obtain ⟨xs, e, q, r⟩ := h; exact ⟨xs, by rw [ha]; exact e, q, r.go pre⟩
  | o c fs => obtain ⟨dx, xs, e, q, r⟩ := h; exact ⟨dx, xs, by rw [ha]; exact e, q, r.go k pre⟩
  | dead => trivial
  | l ds => obtain ⟨xs, e, r⟩ := h; exact ⟨xs, by rw [ha]; exact e, r.ext k⟩
  | dK ds => obtain ⟨xs, e, q, r⟩ := h; exact ⟨xs, by rw [ha]; exact e, q, r.ext k⟩
  | dT ds => obtain ⟨xs, e, q, r⟩ := h; exact ⟨xs, by rw [ha]; exact e, q, r.ext k⟩
/-- a new object beside -/
theorem Cells.new (s : Cells g ρ H st) (hp : H p = none) (e : Ext ρ st H ρ st (upd H p o)) : Cells g ρ (upd H p o) st where
  uok := fun a h => by
    obtain ⟨u, hu, nt⟩ := s.uok a h
    exact ⟨u, by rw [upd_ne (ne_of_none hu hp)]; exact hu, nt⟩
  clen := s.clen
  cell := fun k c a h1 h2 => by
    have q := s.cell k c a h1 h2
    by_cases hc : c.alive = true
    · have hv : Vol ρ st a := .inr ⟨k, c, h1, hc, h2⟩
      have hs : ∃ u, H a = some u := by
        obtain ⟨u, e, _⟩ := q.nt hc
        exact ⟨u, e⟩
      obtain ⟨u, hu⟩ := hs
      exact q.ext (upd_ne (ne_of_none hu hp)) e.keep
    · cases c <;> first | trivial | exact absurd rfl hc
  inj := s.inj
  out := s.out
theorem Sim.new (s : Sim g ρ σ H st) (hp : H p = none) : Sim g ρ σ (upd H p o) st where
  toCells := s.toCells.new hp (Ext.new s hp)
  len := s.len
  slot := fun i sl v h1 h2 => by
    have q := s.slot i sl v h1 h2
    cases sl with
    | no => trivial
    | d x => obtain ⟨u, e, r⟩ := q; exact ⟨u, e, r.go (Ext.new s hp)⟩
    | rf k => exact q
end
end RE
set_option maxHeartbeats 2000000
namespace RE
open PySem PySem.Spec PyProof.Rows L2
inductive O (α : Type) where
  | ok (a : α) (st : S)
  | er (c : Nat) (vs : List D) (st : S)
  | no
/-- an answer that may lack -/
def optO {α : Type} (o : Option α) (st : S) : O α := match o with
  | some d => .ok d st
  | none => .no
def bindO {α β : Type} (o : O α) (f : α → S → O β) : O β := match o with
  | .ok a st => f a st
  | .er c vs st => .er c vs st
  | .no => .no
/-- what is wanted of an error: its class, its fields, the state -/
abbrev EK := Nat → List D → Rh → S → Hp → Prop
def OutC {α : Type} (ER : EK) (ρ : Rh) (st : S) (H : Hp) (o : O α) (k : α → S → Rh → Hp → Prop) : Prop := match o with
  | .ok a st' => ∀ ρ' H', Ext ρ st H ρ' st' H' → k a st' ρ' H'
  | .er c vs st' => ∀ ρ' H', Ext ρ st H ρ' st' H' → ER c vs ρ' st' H'
  | .no => False
section
variable {ER : EK} {ρ ρ1 : Rh} {st st1 : S} {H H1 : Hp} {α β : Type}
theorem OutC.mono {o : O α} {k k' : α → S → Rh → Hp → Prop} (h : OutC ER ρ st H o k) (hk : ∀ a st' ρ' H', Ext ρ st H ρ' st' H' → k a st' ρ' H' → k' a st' ρ' H') : OutC ER ρ st H o k' := by
  cases o with
  | ok a st' => exact fun ρ' H' e => hk a st' ρ' H' e (h ρ' H' e)
  | er c vs st' => exact h
  | no => exact h
theorem OutC.later {o : O α} {k : α → S → Rh → Hp → Prop} (h : OutC ER ρ st H o k) (e : Ext ρ st H ρ1 st1 H1) : OutC ER ρ1 st1 H1 o k := by
  cases o with
  | ok a st' => exact fun ρ' H' e' => h ρ' H' (e.trans e')
  | er c vs st' => exact fun ρ' H' e' => h ρ' H' (e.trans e')
  | no => exact h
theorem OutC.bind {o : O α} {f : α → S → O β} {k : β → S → Rh → Hp → Prop} (h : OutC ER ρ st H (bindO o f) k) : OutC ER ρ st H o fun a st' ρ' H' => OutC ER ρ' st' H' (f a st') k := by
  cases o with
  | ok a st' => exact fun ρ' H' e => OutC.later h e
  | er c vs st' => exact h
  | no => exact h
end
abbrev M := S → O D
abbrev MT := S → O Bool
abbrev MA := S → O (List D)
section
variable (g : G) (ER : EK)
def tM (m : M) : TE := fun σ H Q => ∃ ρ st, Sim g ρ σ H st ∧ OutC ER ρ st H (m st) fun d st' ρ' H' => Sim g ρ' σ H' st' → ∀ v, Rp g (Vol ρ' st') H' v d → Q v H'
def tMT (m : MT) : TT := fun σ H Q => ∃ ρ st, Sim g ρ σ H st ∧ OutC ER ρ st H (m st) fun b st' ρ' H' => Sim g ρ' σ H' st' → Q b H'
def tMA (m : MA) : TA := fun σ H Q => ∃ ρ st, Sim g ρ σ H st ∧ OutC ER ρ st H (m st) fun ds st' ρ' H' => Sim g ρ' σ H' st' → ∀ vs, RpA g (Vol ρ' st') H' vs ds → Q vs H'
end
theorem PEi {X : Cx} {e : Expr} {t t' : TE} (p : PE X e t) (h : ∀ σ H Q, t' σ H Q → t σ H Q) : PE X e t' := ⟨fun pq s σ H Q I q => p.run pq s σ H Q I (h _ _ _ q)⟩
theorem PTi {X : Cx} {e : Expr} {t t' : TT} (p : PT X e t) (h : ∀ σ H Q, t' σ H Q → t σ H Q) : PT X e t' := ⟨fun pq s σ H Q I q => p.run pq s σ H Q I (h _ _ _ q)⟩
theorem PWi {X : Cx} {e : Expr} {t t' : TT} (p : PW X e t) (h : ∀ σ H Q, t' σ H Q → t σ H Q) : PW X e t' := ⟨fun wh pq s σ H Q I q => p.run wh pq s σ H Q I (h _ _ _ q)⟩
theorem PAi {X : Cx} {e : List Expr} {t t' : TA} (p : PA X e t) (h : ∀ σ H Q, t' σ H Q → t σ H Q) : PA X e t' := ⟨fun pos pq s σ H Q I q => p.run pos pq s σ H Q I (h _ _ _ q)⟩
def mC (d : D) : M := fun st => .ok d st
section
variable {X : Cx} {g : G} {ER : EK} {pos : Pos}
theorem pe_mC {e : Expr} {v : V} {d : D} (p : PE X e (tC v)) (r : ∀ A H, Rp g A H v d) : PE X e (tM g ER (mC d)) := by
  refine PEi p fun σ H Q h => ?_
  obtain ⟨ρ, st, s, h⟩ := h
  exact h ρ H Ext.refl s v (r _ _)
theorem pe_mInt {i : Int} {j} : PE X (.Constant (.int i) j pos) (tM g ER (mC (.int i))) := pe_mC pe_int fun _ _ => .int i
theorem pe_mBl {b : Bool} {j} : PE X (.Constant (.bool b) j pos) (tM g ER (mC (.bl b))) := pe_mC pe_bl fun _ _ => .bl b
theorem pe_mNon {j} : PE X (.Constant .none j pos) (tM g ER (mC .non)) := pe_mC pe_non fun _ _ => .non
def mBin (f : D → D → Option D) (ma mb : M) : M := fun st => bindO (ma st) fun a st1 => bindO (mb st1) fun b st2 => optO (f a b) st2
def ROp (g : G) (r : R2) (f : D → D → Option D) : Prop := ∀ (ρ : Rh) (σ : L2.St) (st : S) (H : Hp) (x y : V) (dx dy d : D) (Q : VK), f dx dy = some d → Sim g ρ σ H st → Rp g (Vol ρ st) H x dx → Rp g (Vol ρ st) H y dy →
  (∀ ρ' H' v, Ext ρ st H ρ' st H' → Sim g ρ' σ H' st → Rp g (Vol ρ' st) H' v d → Q v H') → r x y H Q
theorem tM_bin {r : R2} {f : D → D → Option D} {ma mb : M} (hf : ROp g r f) {σ : L2.St} {H : Hp} {Q : VK} (h : tM g ER (mBin f ma mb) σ H Q) : tOp r (tM g ER ma) (tM g ER mb) σ H Q := by
  obtain ⟨ρ, st, s, h⟩ := h
  refine ⟨ρ, st, s, (OutC.bind h).mono fun a st1 ρ1 H1 _ h1 s1 x rx => ?_⟩
  refine ⟨ρ1, st1, s1, (OutC.bind h1).mono fun b st2 ρ2 H2 e2 h2 s2 y ry => ?_⟩
  cases e : f a b with
  | none => rw [e] at h2; exact h2.elim
  | some d =>
    rw [e] at h2
    exact hf ρ2 σ st2 H2 x y a b d Q e s2 (rx.go e2) ry fun ρ' H' v e' s' r' => h2 ρ' H' e' s' v r'
theorem pe_mBin {op : Operator} {a b : Expr} {r : R2} {f : D → D → Option D} {ma mb : M} (ho : OpR X (binaryOp op) r) (hf : ROp g r f) (ha : PE X a (tM g ER ma)) (hb : PE X b (tM g ER mb)) : PE X (.BinOp a op b pos) (tM g ER (mBin f ma mb)) :=
  PEi (pe_op ho ha hb) fun _ _ _ h => tM_bin hf h
theorem pe_mCmp {op : CmpOp} {a b : Expr} {r : R2} {f : D → D → Option D} {ma mb : M} (ho : OpR X (compareOp op) r) (hf : ROp g r f) (ha : PE X a (tM g ER ma)) (hb : PE X b (tM g ER mb)) (hm : behindInMarks op b = false) : PE X (.Compare a [op] [b] pos) (tM g ER (mBin f ma mb)) :=
  PEi (pe_cmpR ho ha hb hm) fun _ _ _ h => tM_bin hf h
/-- a value that is a truth value, as a test -/
def mB (m : M) : MT := fun st => bindO (m st) fun d st' => match d with
  | .bl b => .ok b st'
  | _ => .no
theorem tMT_B {m : M} {σ : L2.St} {H : Hp} {Q : Bool → Hp → Prop} (h : tMT g ER (mB m) σ H Q) : tTest (tM g ER m) σ H Q := by
  obtain ⟨ρ, st, s, h⟩ := h
  refine ⟨ρ, st, s, (OutC.bind h).mono fun a st1 ρ1 H1 _ h1 s1 x rx => ?_⟩
  split at h1
  · exact ⟨_, rx.inv_bl, h1 ρ1 H1 Ext.refl s1⟩
  · exact h1.elim
theorem pt_mCmp {op : CmpOp} {a b : Expr} {r : R2} {f : D → D → Option D} {ma mb : M} (ho : OpR X (compareOp op) r) (hf : ROp g r f) (ha : PE X a (tM g ER ma)) (hb : PE X b (tM g ER mb)) (hm : behindInMarks op b = false) : PT X (.Compare a [op] [b] pos) (tMT g ER (mB (mBin f ma mb))) := by
  refine PTi (pt_cmpR ho ha hb hm) fun σ H Q h => ?_
  obtain ⟨ρ, st, s, h⟩ := tMT_B h
  exact tM_bin hf ⟨ρ, st, s, h⟩
def truD : D → Option Bool
  | .non => some false
  | .bl b => some b
  | .int i => some (i != 0)
  | .str s => if s.length ≤ sizeLine then some ((s.length : Int) != 0) else none
  | .lst ds => some (!ds.isEmpty)
  | .tup ds => some (!ds.isEmpty)
  | .kt ds => some (!ds.isEmpty)
  | _ => none
theorem empty_of {α β : Type} {xs : List α} {ds : List β} (h : xs.length = ds.length) : xs.isEmpty = ds.isEmpty := by
  cases xs <;> cases ds <;> simp_all
theorem truD_ok {A : Addr → Prop} {H : Hp} {v : V} {d : D} {k : Bool} (r : Rp g A H v d) (h : truD d = some k) : TruV g.K v H k := by
  cases r with
  | non => exact (Option.some.inj h).symm
  | bl b => exact (Option.some.inj h).symm
  | int i => exact (Option.some.inj h).symm
  | str s =>
    have h' : (if s.length ≤ sizeLine then some ((s.length : Int) != 0) else none) = some k := h
    by_cases hz : s.length ≤ sizeLine
    · rw [if_pos hz] at h'
      exact ⟨hz, (Option.some.inj h').symm⟩
    · rw [if_neg hz] at h'
      cases h'
  | lst h1 _ hl _ => exact .inl ⟨_, SqL.of h1, by rw [empty_of hl]; exact (Option.some.inj h).symm⟩
  | tup h1 _ hl _ => exact .inr (.inl ⟨_, SqT.of h1, by rw [empty_of hl]; exact (Option.some.inj h).symm⟩)
  | ktup h1 hl _ => exact .inr (.inl ⟨_, h1.sq, by rw [empty_of hl]; exact (Option.some.inj h).symm⟩)
  | kls h1 _ hl _ => cases h
  | klw h1 hl _ => cases h
  | dK _ _ _ _ _ => cases h
  | dT _ _ _ _ _ => cases h
  | fn i => cases h
  | ob _ _ _ _ _ => cases h
def mTru (m : M) : MT := fun st => bindO (m st) fun d st' => match truD d with
  | some b => .ok b st'
  | none => .no
theorem pt_mTru {a : Expr} {m : M} (hk : X.K = g.K) (ha : PE X a (tM g ER m)) (he : ∀ whole, isTrue a X.env whole = (do let v ← whole; standAt a.pos; holding [v] (truthy v))) : PT X a (tMT g ER (mTru m)) := by
  refine PTi (pt_truth ha he) fun σ H Q h => ?_
  obtain ⟨ρ, st, s, h⟩ := h
  refine ⟨ρ, st, s, (OutC.bind h).mono fun d st1 ρ1 H1 _ h1 s1 x rx => ?_⟩
  split at h1
  · rename_i b e
    exact ⟨b, by rw [hk]; exact truD_ok rx e, h1 ρ1 H1 Ext.refl s1⟩
  · exact h1.elim
def mNotT (m : MT) : MT := fun st => bindO (m st) fun b st' => .ok (!b) st'
theorem pt_mNot {a : Expr} {m : MT} (ha : PT X a (tMT g ER m)) : PT X (.UnaryOp .Not a pos) (tMT g ER (mNotT m)) := by
  refine PTi (pt_not ha) fun σ H Q h => ?_
  obtain ⟨ρ, st, s, h⟩ := h
  exact ⟨ρ, st, s, (OutC.bind h).mono fun b st1 ρ1 H1 _ h1 s1 => h1 ρ1 H1 Ext.refl s1⟩
def mAndT (m n : MT) : MT := fun st => bindO (m st) fun b st' => if b = true then n st' else .ok false st'
def mOrT (m n : MT) : MT := fun st => bindO (m st) fun b st' => if b = true then .ok true st' else n st'
theorem pw_mAnd {a b : Expr} {rest : List Expr} {m n : MT} (ha : PT X a (tMT g ER m)) (hb : PW X (.BoolOp .And (b :: rest) pos) (tMT g ER n)) : PW X (.BoolOp .And (a :: b :: rest) pos) (tMT g ER (mAndT m n)) := by
  refine PWi (pw_and ha hb) fun σ H Q h => ?_
  obtain ⟨ρ, st, s, h⟩ := h
  refine ⟨ρ, st, s, (OutC.bind h).mono fun b st1 ρ1 H1 _ h1 s1 => ?_⟩
  cases b with
  | true => exact ⟨ρ1, st1, s1, h1⟩
  | false => exact h1 ρ1 H1 Ext.refl s1
theorem pw_mOr {a b : Expr} {rest : List Expr} {m n : MT} (ha : PT X a (tMT g ER m)) (hb : PW X (.BoolOp .Or (b :: rest) pos) (tMT g ER n)) : PW X (.BoolOp .Or (a :: b :: rest) pos) (tMT g ER (mOrT m n)) := by
  refine PWi (pw_or ha hb) fun σ H Q h => ?_
  obtain ⟨ρ, st, s, h⟩ := h
  refine ⟨ρ, st, s, (OutC.bind h).mono fun b st1 ρ1 H1 _ h1 s1 => ?_⟩
  cases b with
  | false => exact ⟨ρ1, st1, s1, h1⟩
  | true => exact h1 ρ1 H1 Ext.refl s1
/-- and, or, not as values, by truth -/
def mAnd (m n : M) : M := fun st => bindO (m st) fun d st' => match truD d with
  | some true => n st'
  | some false => .ok d st'
  | none => .no
def mOr (m n : M) : M := fun st => bindO (m st) fun d st' => match truD d with
  | some true => .ok d st'
  | some false => n st'
  | none => .no
def mNot (m : M) : M := fun st => bindO (m st) fun d st' => match truD d with
  | some b => .ok (.bl (!b)) st'
  | none => .no
theorem pe_mAnd {a b : Expr} {rest : List Expr} {m n : M} (hk : X.K = g.K) (ha : PE X a (tM g ER m)) (hb : PE X (.BoolOp .And (b :: rest) pos) (tM g ER n)) : PE X (.BoolOp .And (a :: b :: rest) pos) (tM g ER (mAnd m n)) := by
  refine PEi (pe_andT ha hb) fun σ H Q h => ?_
  obtain ⟨ρ, st, s, h⟩ := h
  refine ⟨ρ, st, s, (OutC.bind h).mono fun d st1 ρ1 H1 _ h1 s1 x rx => ?_⟩
  split at h1
  · rename_i e
    exact ⟨true, by rw [hk]; exact truD_ok rx e, iteT ⟨ρ1, st1, s1, h1⟩⟩
  · rename_i e
    exact ⟨false, by rw [hk]; exact truD_ok rx e, iteF (h1 ρ1 H1 Ext.refl s1 x rx)⟩
  · exact h1.elim
theorem pe_mOr {a b : Expr} {rest : List Expr} {m n : M} (hk : X.K = g.K) (ha : PE X a (tM g ER m)) (hb : PE X (.BoolOp .Or (b :: rest) pos) (tM g ER n)) : PE X (.BoolOp .Or (a :: b :: rest) pos) (tM g ER (mOr m n)) := by
  refine PEi (pe_orT ha hb) fun σ H Q h => ?_
  obtain ⟨ρ, st, s, h⟩ := h
  refine ⟨ρ, st, s, (OutC.bind h).mono fun d st1 ρ1 H1 _ h1 s1 x rx => ?_⟩
  split at h1
  · rename_i e
    exact ⟨true, by rw [hk]; exact truD_ok rx e, iteT (h1 ρ1 H1 Ext.refl s1 x rx)⟩
  · rename_i e
    exact ⟨false, by rw [hk]; exact truD_ok rx e, iteF ⟨ρ1, st1, s1, h1⟩⟩
  · exact h1.elim
theorem pe_mNot {a : Expr} {m : M} (hk : X.K = g.K) (ha : PE X a (tM g ER m)) : PE X (.UnaryOp .Not a pos) (tM g ER (mNot m)) := by
  refine PEi (pe_notT ha) fun σ H Q h => ?_
  obtain ⟨ρ, st, s, h⟩ := h
  refine ⟨ρ, st, s, (OutC.bind h).mono fun d st1 ρ1 H1 _ h1 s1 x rx => ?_⟩
  split at h1
  · rename_i b e
    exact ⟨b, by rw [hk]; exact truD_ok rx e, h1 ρ1 H1 Ext.refl s1 _ (.bl _)⟩
  · exact h1.elim
def mIfE (t : MT) (m n : M) : M := fun st => bindO (t st) fun b st' => if b = true then m st' else n st'
theorem pe_mIfE {c a b : Expr} {t : MT} {m n : M} (hc : PT X c (tMT g ER t)) (ha : PE X a (tM g ER m)) (hb : PE X b (tM g ER n)) : PE X (.IfExp c a b pos) (tM g ER (mIfE t m n)) := by
  refine PEi (pe_ifExp hc ha hb) fun σ H Q h => ?_
  obtain ⟨ρ, st, s, h⟩ := h
  refine ⟨ρ, st, s, (OutC.bind h).mono fun b st1 ρ1 H1 _ h1 s1 => ?_⟩
  cases b with
  | true => exact ⟨ρ1, st1, s1, h1⟩
  | false => exact ⟨ρ1, st1, s1, h1⟩
def mNeg (m : M) : M := fun st => bindO (m st) fun d st' => match d with
  | .int i => .ok (.int (-i)) st'
  | _ => .no
theorem pe_mNeg {a : Expr} {m : M} (ha : PE X a (tM g ER m)) : PE X (.UnaryOp .USub a pos) (tM g ER (mNeg m)) := by
  refine PEi (pe_un un_neg ha) fun σ H Q h => ?_
  obtain ⟨ρ, st, s, h⟩ := h
  refine ⟨ρ, st, s, (OutC.bind h).mono fun d st1 ρ1 H1 _ h1 s1 x rx => ?_⟩
  split at h1
  · rename_i i
    exact ⟨i, rx.inv_int, h1 ρ1 H1 Ext.refl s1 _ (.int _)⟩
  · exact h1.elim
def mNil : MA := fun st => .ok [] st
def mCons (m : M) (ms : MA) : MA := fun st => bindO (m st) fun d st1 => bindO (ms st1) fun ds st2 => .ok (d :: ds) st2
theorem pa_mNil : PA X [] (tMA g ER mNil) := PAi pa_nil fun σ H Q h => by
  obtain ⟨ρ, st, s, h⟩ := h
  exact h ρ H Ext.refl s [] RpA.nil
theorem pa_mCons {e : Expr} {es : List Expr} {m : M} {ms : MA} (ha : PE X e (tM g ER m)) (hr : PA X es (tMA g ER ms)) (hs : starEach (e :: es) X.env = (false, eval e X.env) :: starEach es X.env := by rfl) : PA X (e :: es) (tMA g ER (mCons m ms)) := by
  refine PAi (pa_cons ha hr hs) fun σ H Q h => ?_
  obtain ⟨ρ, st, s, h⟩ := h
  refine ⟨ρ, st, s, (OutC.bind h).mono fun d st1 ρ1 H1 _ h1 s1 x rx => ?_⟩
  refine ⟨ρ1, st1, s1, (OutC.bind h1).mono fun ds st2 ρ2 H2 e2 h2 s2 xs rs => ?_⟩
  exact h2 ρ2 H2 Ext.refl s2 (x :: xs) (RpA.cons (rx.go e2) rs)
def mTup (ms : MA) : M := fun st => bindO (ms st) fun ds st1 => if ds.length ≤ 1000 then .ok (.tup ds) st1 else .no
def mLst (ms : MA) : M := fun st => bindO (ms st) fun ds st1 => if ds.length ≤ 1000 then .ok (.lst ds) st1 else .no
theorem pe_mTup {es : List Expr} {ms : MA} {x1} (h : PA X es (tMA g ER ms)) : PE X (.Tuple es x1 pos) (tM g ER (mTup ms)) := by
  refine PEi (pe_tup h) fun σ H Q h => ?_
  obtain ⟨ρ, st, s, h⟩ := h
  refine ⟨ρ, st, s, (OutC.bind h).mono fun ds st1 ρ1 H1 _ h1 s1 xs rs => ?_⟩
  split at h1
  · rename_i hz
    refine ⟨by rw [rs.1]; exact Nat.le_of_lt (small1000 hz), fun p hp => ?_⟩
    exact h1 ρ1 _ (Ext.new s1 hp) (s1.new hp) _ (Rp.tup' upd_same (s1.nvol hp) (rs.go (Ext.new s1 hp)))
  · exact h1.elim
theorem pe_mLst {es : List Expr} {ms : MA} (h : PA X es (tMA g ER ms)) : PE X (.List es pos) (tM g ER (mLst ms)) := by
  refine PEi (pe_lst h) fun σ H Q h => ?_
  obtain ⟨ρ, st, s, h⟩ := h
  refine ⟨ρ, st, s, (OutC.bind h).mono fun ds st1 ρ1 H1 _ h1 s1 xs rs => ?_⟩
  split at h1
  · rename_i hz
    refine ⟨by rw [rs.1]; exact Nat.le_of_lt (small1000 hz), fun p hp => ?_⟩
    exact h1 ρ1 _ (Ext.new s1 hp) (s1.new hp) _ (Rp.lst' upd_same (s1.nvol hp) (rs.go (Ext.new s1 hp)))
  · exact h1.elim
end
end RE
set_option maxHeartbeats 2000000
namespace RE
open PySem PySem.Spec PyProof.Rows L2
def mapO {α β : Type} (f : α → Option β) : List α → Option (List β)
  | [] => some []
  | x :: xs => match f x with
    | some y => match mapO f xs with
      | some ys => some (y :: ys)
      | none => none
    | none => none
theorem mapO_cons {α β : Type} {f : α → Option β} {x : α} {xs : List α} {zs : List β} (h : mapO f (x :: xs) = some zs) : ∃ y ys, f x = some y ∧ mapO f xs = some ys ∧ zs = y :: ys := by
  unfold mapO at h
  cases e : f x with
  | none => (rw [e] at h; cases h)
  | some y =>
    rw [e] at h
    cases e2 : mapO f xs with
    | none => rw [e2] at h; cases h
    | some ys => rw [e2] at h; exact ⟨y, ys, rfl, rfl, (Option.some.inj h).symm⟩
/-- as data, nested at most n deep -/
def toP : Nat → D → Option PyData
  | _, .non => some .none
  | _, .bl b => some (.bool b)
  | _, .int i => some (.int i)
  | _, .str s => some (.str s)
  | n + 1, .lst ds => (mapO (toP n) ds).map .list
  | n + 1, .tup ds => (mapO (toP n) ds).map .tuple
  | n + 1, .kt ds => (mapO (toP n) ds).map .tuple
  | _, _ => none
section
variable {g : G} {A : Addr → Prop} {H : Hp}
theorem toP_ok : ∀ (n : Nat) (d : D) (p : PyData) (v : V), toP n d = some p → Rp g A H v d → Dp g.K H v p ∧ p.plain = true ∧ p.depth ≤ n := by
  intro n
  induction n with
  | zero =>
    intro d p v h r
    cases d <;> first
      | (simp only [toP] at h; cases r; cases (Option.some.inj h); exact ⟨by constructor, rfl, Nat.le_refl _⟩)
      | (simp only [toP] at h; cases h)
  | succ n ih =>
    have all : ∀ (ds : List D) (ps : List PyData) (vs : List V), mapO (toP n) ds = some ps → RpA g A H vs ds → DpAll g.K H vs ps ∧ PyData.plainAll ps = true ∧ PyData.depthAll ps ≤ n := by
      intro ds
      induction ds with
      | nil =>
        intro ps vs h r
        cases (Option.some.inj h)
        rw [r.cases_nil]
        exact ⟨.nil, rfl, Nat.zero_le _⟩
      | cons d ds ihd =>
        intro ps vs h r
        obtain ⟨x, xs, rfl, r1, r2⟩ := r.cases_cons
        obtain ⟨y, ys, e1, e2, rfl⟩ := mapO_cons h
        obtain ⟨a1, a2, a3⟩ := ih d y x e1 r1
        obtain ⟨b1, b2, b3⟩ := ihd ys xs e2 r2
        exact ⟨.cons a1 b1, by simp only [PyData.plainAll, a2, b2]; rfl, by simp only [PyData.depthAll]; omega⟩
    intro d p v h r
    cases d with
    | non => simp only [toP] at h; cases r; cases (Option.some.inj h); exact ⟨.non, rfl, Nat.zero_le _⟩
    | bl b => simp only [toP] at h; cases r; cases (Option.some.inj h); exact ⟨.bl b, rfl, Nat.zero_le _⟩
    | int i => simp only [toP] at h; cases r; cases (Option.some.inj h); exact ⟨.int i, rfl, Nat.zero_le _⟩
    | str s => simp only [toP] at h; cases r; cases (Option.some.inj h); exact ⟨.str s, rfl, Nat.zero_le _⟩
    | lst ds =>
      simp only [toP] at h
      obtain ⟨ps, e, rfl⟩ := Option.map_eq_some_iff.mp h
      obtain ⟨a, xs, rfl, ha, _, rs⟩ := r.inv_lst
      obtain ⟨q1, q2, q3⟩ := all ds ps xs e rs
      exact ⟨.lst (SqL.of ha) q1, by simp only [PyData.plain, q2], by simp only [PyData.depth]; omega⟩
    | tup ds =>
      simp only [toP] at h
      obtain ⟨ps, e, rfl⟩ := Option.map_eq_some_iff.mp h
      obtain ⟨a, xs, rfl, ha, _, rs⟩ := r.inv_tup
      obtain ⟨q1, q2, q3⟩ := all ds ps xs e rs
      exact ⟨.tup (SqT.of ha) q1, by simp only [PyData.plain, q2], by simp only [PyData.depth]; omega⟩
    | kt ds =>
      simp only [toP] at h
      obtain ⟨ps, e, rfl⟩ := Option.map_eq_some_iff.mp h
      obtain ⟨a, xs, rfl, ha, rs⟩ := r.inv_kt
      obtain ⟨q1, q2, q3⟩ := all ds ps xs e rs
      exact ⟨.tup ha.sq q1, by simp only [PyData.plain, q2], by simp only [PyData.depth]; omega⟩
    | ks _ => simp only [toP] at h; cases h
    | dK _ => simp only [toP] at h; cases h
    | dT _ => simp only [toP] at h; cases h
    | fn _ => simp only [toP] at h; cases h
    | ob _ _ => simp only [toP] at h; cases h
end
section
variable {X : Cx}
theorem OpR.or {f : Value → Value → Sem Value} {r1 r2 : R2} (h1 : OpR X f r1) (h2 : OpR X f r2) : OpR X f (fun x y H Q => r1 x y H Q ∨ r2 x y H Q) := by
  intro pq s σ H x y v u Q I rx ry h
  rcases h with h | h
  · exact h1 pq s σ H x y v u Q I rx ry h
  · exact h2 pq s σ H x y v u Q I rx ry h
def rData (K : PySem.W.Frag) (ok : PyData → PyData → Prop) (f : PyData → PyData → Bool) : R2 := fun x y H Q => ∃ d e, Dp K H x d ∧ Dp K H y e ∧ d.plain = true ∧ e.plain = true ∧ d.depth ≤ 30 ∧ e.depth ≤ 30 ∧ ok d e ∧ Q (.bl (f d e)) H
theorem op_eqP (hu : X.A.units + 64 < cLine) : OpR X (compareOp .Eq) (rData X.K (fun _ _ => True) PyData.eqv) := by
  intro pq s σ H x y v u Q I rx ry h
  obtain ⟨d, e, hd, he, sd, se, d1, d2, _, q⟩ := h
  obtain ⟨la, r1⟩ := Dp.reads I d x v hd rx
  obtain ⟨lb, r2⟩ := Dp.reads I e y u he ry
  exact SeqAt.eq_plain r1 r2 sd se (by have := Nat.min_le_left d.depth e.depth; omega) ⟨.bl _, H, I, rfl, q⟩
theorem op_neP (hu : X.A.units + 64 < cLine) : OpR X (compareOp .NotEq) (rData X.K (fun _ _ => True) fun d e => !PyData.eqv d e) := by
  intro pq s σ H x y v u Q I rx ry h
  obtain ⟨d, e, hd, he, sd, se, d1, d2, _, q⟩ := h
  obtain ⟨la, r1⟩ := Dp.reads I d x v hd rx
  obtain ⟨lb, r2⟩ := Dp.reads I e y u he ry
  exact SeqAt.ne_plain r1 r2 sd se (by have := Nat.min_le_left d.depth e.depth; omega) ⟨.bl _, H, I, rfl, q⟩
def okLt (d e : PyData) : Prop := PySem.W.alike d e = true ∧ d ≠ .none
theorem op_ltP (hu : X.A.units + 64 < cLine) : OpR X (compareOp .Lt) (rData X.K okLt PySem.W.dataLt) := by
  intro pq s σ H x y v u Q I rx ry h
  obtain ⟨d, e, hd, he, sd, se, d1, d2, ⟨a1, a2⟩, q⟩ := h
  obtain ⟨la, r1⟩ := Dp.reads I d x v hd rx
  obtain ⟨lb, r2⟩ := Dp.reads I e y u he ry
  exact PySem.W.lt_data r1 r2 a1 a2 (by have := Nat.min_le_left d.depth e.depth; omega) ⟨.bl _, H, I, rfl, q⟩
theorem op_gtP (hu : X.A.units + 64 < cLine) : OpR X (compareOp .Gt) (rData X.K okLt fun d e => PySem.W.dataLt e d) := by
  intro pq s σ H x y v u Q I rx ry h
  obtain ⟨d, e, hd, he, sd, se, d1, d2, ⟨a1, a2⟩, q⟩ := h
  obtain ⟨la, r1⟩ := Dp.reads I d x v hd rx
  obtain ⟨lb, r2⟩ := Dp.reads I e y u he ry
  exact PySem.W.gt_data r1 r2 a1 a2 (by have := Nat.min_le_left d.depth e.depth; omega) ⟨.bl _, H, I, rfl, q⟩
theorem op_geP (hu : X.A.units + 64 < cLine) : OpR X (compareOp .GtE) (rData X.K okLt fun d e => !PySem.W.dataLt d e) := by
  intro pq s σ H x y v u Q I rx ry h
  obtain ⟨d, e, hd, he, sd, se, d1, d2, ⟨a1, a2⟩, q⟩ := h
  obtain ⟨la, r1⟩ := Dp.reads I d x v hd rx
  obtain ⟨lb, r2⟩ := Dp.reads I e y u he ry
  exact PySem.W.ge_data r1 r2 a1 a2 (by have := Nat.min_le_left d.depth e.depth; omega) ⟨.bl _, H, I, rfl, q⟩
def rInP (K : PySem.W.Frag) (neg : Bool) : R2 := fun x y H Q => ∃ d ds, Dp K H x d ∧ (Dp K H y (.list ds) ∨ Dp K H y (.tuple ds)) ∧ d.plain = true ∧ PyData.plainAll ds = true ∧ d.depth ≤ 30 ∧ PyData.depthAll ds ≤ 30 ∧ Q (.bl (Bool.xor neg (ds.any fun z => PyData.eqv z d))) H
theorem op_inP (hu : X.A.units + 64 < cLine) : OpR X (compareOp .In) (rInP X.K false) := by
  intro pq s σ H x y v u Q I rx ry h
  obtain ⟨d, ds, hd, he, sd, se, d1, d2, q⟩ := h
  rw [Bool.false_xor] at q
  obtain ⟨la, r1⟩ := Dp.reads I d x v hd rx
  have hm : X.A.units + 1 + min (PyData.depthAll ds) d.depth < cLine := by have := Nat.min_le_left (PyData.depthAll ds) d.depth; omega
  rcases he with he | he
  · obtain ⟨lb, r2⟩ := Dp.reads I _ y u he ry
    exact SeqAt.in_list_data r2 r1 se sd hm ⟨.bl _, H, I, rfl, q⟩
  · obtain ⟨lb, r2⟩ := Dp.reads I _ y u he ry
    exact SeqAt.in_tuple_data r2 r1 se sd hm ⟨.bl _, H, I, rfl, q⟩
theorem op_notInP (hu : X.A.units + 64 < cLine) : OpR X (compareOp .NotIn) (rInP X.K true) := by
  intro pq s σ H x y v u Q I rx ry h
  obtain ⟨d, ds, hd, he, sd, se, d1, d2, q⟩ := h
  rw [Bool.true_xor] at q
  obtain ⟨la, r1⟩ := Dp.reads I d x v hd rx
  have hm : X.A.units + 1 + min (PyData.depthAll ds) d.depth < cLine := by have := Nat.min_le_left (PyData.depthAll ds) d.depth; omega
  rcases he with he | he
  · obtain ⟨lb, r2⟩ := Dp.reads I _ y u he ry
    exact SeqAt.notIn_list_data r2 r1 se sd hm ⟨.bl _, H, I, rfl, q⟩
  · obtain ⟨lb, r2⟩ := Dp.reads I _ y u he ry
    exact SeqAt.notIn_tuple_data r2 r1 se sd hm ⟨.bl _, H, I, rfl, q⟩
/-- k in d, d a dict -/
def rInDc (neg : Bool) : R2 := fun x y H Q => ∃ a o, y = .ref a ∧ DGet H a x o ∧ Q (.bl (Bool.xor neg o.isSome)) H
theorem op_inDc (hu : X.A.units + 1 < cLine) : OpR X (compareOp .In) (rInDc false) := by
  intro pq s σ H x y v u Q I rx ry h
  obtain ⟨a, o, rfl, gd, q⟩ := h
  rw [Bool.false_xor] at q
  cases ry
  exact d_in hu I gd rx fun s3 I3 => ⟨.bl o.isSome, H, I3, rfl, q⟩
theorem op_notInDc (hu : X.A.units + 1 < cLine) : OpR X (compareOp .NotIn) (rInDc true) := by
  intro pq s σ H x y v u Q I rx ry h
  obtain ⟨a, o, rfl, gd, q⟩ := h
  rw [Bool.true_xor] at q
  cases ry
  exact d_notIn hu I gd rx fun s3 I3 => ⟨.bl (!o.isSome), H, I3, rfl, q⟩
end
end RE
set_option maxHeartbeats 2000000
namespace RE
open PySem PySem.Spec PyProof.Rows L2
section
variable {g : G} {ρ : Rh} {σ : L2.St} {st : S} {H : Hp} {Q : VK} {d : D}
/-- what is wanted behind a new list, a new tuple -/
theorem fresh_lst {xs : List V} {ds : List D} (s : Sim g ρ σ H st) (r : RpA g (Vol ρ st) H xs ds) (k : ∀ ρ' H' v, Ext ρ st H ρ' st H' → Sim g ρ' σ H' st → Rp g (Vol ρ' st) H' v (.lst ds) → Q v H') : ∀ p, H p = none → Q (.ref p) (upd H p (.lst xs)) := fun p hp =>
  k ρ _ _ (Ext.new s hp) (s.new hp) (Rp.lst' upd_same (s.nvol hp) (r.go (Ext.new s hp)))
theorem fresh_tup {xs : List V} {ds : List D} (s : Sim g ρ σ H st) (r : RpA g (Vol ρ st) H xs ds) (k : ∀ ρ' H' v, Ext ρ st H ρ' st H' → Sim g ρ' σ H' st → Rp g (Vol ρ' st) H' v (.tup ds) → Q v H') : ∀ p, H p = none → Q (.ref p) (upd H p (.tup xs)) := fun p hp =>
  k ρ _ _ (Ext.new s hp) (s.new hp) (Rp.tup' upd_same (s.nvol hp) (r.go (Ext.new s hp)))
end
def cmpD (ok : PyData → PyData → Bool) (f : PyData → PyData → Bool) (a b : D) : Option D := match toP 20 a, toP 20 b with
  | some p, some q => if ok p q = true then some (.bl (f p q)) else none
  | _, _ => none
theorem ROp.data {g : G} {okP : PyData → PyData → Prop} {ok f : PyData → PyData → Bool} (h : ∀ p q, ok p q = true → okP p q) : ROp g (rData g.K okP f) (cmpD ok f) := by
  intro ρ σ st H x y dx dy d Q e s rx ry k
  unfold cmpD at e
  split at e
  · rename_i p q e1 e2
    split at e
    · rename_i ho
      obtain ⟨a1, a2, a3⟩ := toP_ok 20 dx p x e1 rx
      obtain ⟨b1, b2, b3⟩ := toP_ok 20 dy q y e2 ry
      exact ⟨p, q, a1, b1, a2, b2, by omega, by omega, h p q ho, k ρ H _ Ext.refl s (by rw [← Option.some.inj e]; exact .bl _)⟩
    · cases e
  · cases e
def anyOk (_ _ : PyData) : Bool := true
def ltOk (p q : PyData) : Bool := PySem.W.alike p q && (match p with | .none => false | _ => true)
theorem ltOk_ok (p q : PyData) (h : ltOk p q = true) : okLt p q := by
  unfold ltOk at h
  obtain ⟨h1, h2⟩ := Bool.and_eq_true_iff.mp h
  exact ⟨h1, fun e => by rw [e] at h2; cases h2⟩
def eqD : D → D → Option D := cmpD anyOk PyData.eqv
def neD : D → D → Option D := cmpD anyOk fun p q => !PyData.eqv p q
/-- ints quickly, else data -/
def ordD (fi : Int → Int → Bool) (f : PyData → PyData → Bool) (a b : D) : Option D := match a, b with
  | .int i, .int j => some (.bl (fi i j))
  | _, _ => cmpD ltOk f a b
def ltD : D → D → Option D := ordD (fun i j => decide (i < j)) PySem.W.dataLt
def gtD : D → D → Option D := ordD (fun i j => decide (j < i)) fun p q => PySem.W.dataLt q p
def geD : D → D → Option D := ordD (fun i j => decide (j ≤ i)) fun p q => !PySem.W.dataLt p q
theorem ROp.ord {g : G} {fi : Int → Int → Bool} {f : PyData → PyData → Bool} : ROp g (fun x y H Q => rI0 (fun i j => .bl (fi i j)) x y H Q ∨ rData g.K okLt f x y H Q) (ordD fi f) := by
  intro ρ σ st H x y dx dy d Q e s rx ry k
  unfold ordD at e
  split at e
  · rename_i i j
    exact .inl ⟨i, j, rx.inv_int, ry.inv_int, k ρ H _ Ext.refl s (by rw [← Option.some.inj e]; exact .bl _)⟩
  · exact .inr (ROp.data ltOk_ok ρ σ st H x y dx dy d Q e s rx ry k)
section
variable {X : Cx} {g : G} {ER : EK} {pos : Pos} {a b : Expr} {ma mb : M}
theorem rop_eq : ROp g (rData g.K (fun _ _ => True) PyData.eqv) eqD := ROp.data fun _ _ _ => trivial
theorem rop_ne : ROp g (rData g.K (fun _ _ => True) fun d e => !PyData.eqv d e) neD := ROp.data fun _ _ _ => trivial
/-- is None, is not None -/
def nonD : D → Bool
  | .non => true
  | _ => false
def isND (neg : Bool) (a b : D) : Option D := match b with
  | .non => some (.bl (Bool.xor neg (nonD a)))
  | _ => none
theorem Rp.non_iff {A : Addr → Prop} {H : Hp} {v : V} {d : D} (r : Rp g A H v d) : decide (v = .non) = nonD d := by
  cases r <;> simp [nonD]
theorem rop_isN : ROp g (fun x y H Q => y = .non ∧ Q (.bl (decide (x = .non))) H) (isND false) := by
  intro ρ σ st H x y dx dy d Q e s rx ry k
  unfold isND at e
  split at e
  · refine ⟨ry.inv_non, k ρ H _ Ext.refl s ?_⟩
    rw [← Option.some.inj e, rx.non_iff, Bool.false_xor]
    exact .bl _
  · cases e
end
def keyD : D → Option Key
  | .int i => some (.inl i)
  | .str s => some (.inr s)
  | _ => none
def keysD : D → Option (List Key)
  | .tup ds => mapO keyD ds
  | _ => none
def valD {κ α : Type} [DecidableEq κ] : List (κ × α) → κ → Option α
  | [], _ => none
  | (x, v) :: r, k => if x = k then some v else valD r k
theorem keyD_ok {g : G} {A : Addr → Prop} {H : Hp} {v : V} {d : D} {k : Key} (r : Rp g A H v d) (e : keyD d = some k) : v = kV k := by
  cases r with
  | int i => cases Option.some.inj e; rfl
  | str s => cases Option.some.inj e; rfl
  | _ => cases e
theorem keysD_all {g : G} {A : Addr → Prop} {H : Hp} : ∀ {ds : List D} {vs : List V} {ks : List Key}, RpA g A H vs ds → mapO keyD ds = some ks → vs = ks.map kV
  | [], vs, ks, r, e => by
    cases Option.some.inj e
    exact r.cases_nil
  | d :: ds, vs, ks, r, e => by
    obtain ⟨x, xs, rfl, r1, r2⟩ := r.cases_cons
    obtain ⟨y, ys, e1, e2, rfl⟩ := mapO_cons e
    rw [keyD_ok r1 e1, keysD_all r2 e2]
    rfl
theorem keysD_ok {g : G} {A : Addr → Prop} {H : Hp} {v : V} {d : D} {ks : List Key} (r : Rp g A H v d) (e : keysD d = some ks) : ∃ b, v = .ref b ∧ H b = some (.tup (ks.map kV)) := by
  cases d with
  | tup ds =>
    obtain ⟨b, xs, rfl, hb, _, rs⟩ := r.inv_tup
    exact ⟨b, rfl, by rw [hb, keysD_all rs e]⟩
  | _ => cases e
theorem valD_ok {κ : Type} [DecidableEq κ] {g : G} {A : Addr → Prop} {H : Hp} (k : κ) : ∀ {ds : List (κ × D)} {xs : List (κ × V)}, xs.map (·.1) = ds.map (·.1) → RpA g A H (xs.map (·.2)) (ds.map (·.2)) →
    (valD ds k = none ∧ valV xs k = none) ∨ ∃ d v, valD ds k = some d ∧ valV xs k = some v ∧ Rp g A H v d
  | [], [], _, _ => .inl ⟨rfl, rfl⟩
  | [], x :: xs, e, _ => by simp at e
  | d :: ds, [], e, _ => by simp at e
  | (kd, d) :: ds, (kx, x) :: xs, e, r => by
    simp only [List.cons.injEq, List.map_cons] at e
    obtain ⟨e1, e2⟩ := e
    have e1 : kx = kd := e1
    subst e1
    have r' := RpA.uncons r
    by_cases h : kx = k
    · exact .inr ⟨d, x, by simp [valD, h], valV_pos (p := (kx, x)) h, r'.1⟩
    · have e3 : valD ((kx, d) :: ds) k = valD ds k := by simp [valD, h]
      rw [e3, valV_neg (p := (kx, x)) h]
      exact valD_ok k e2 r'.2
theorem keys_of {κ : Type} {xs : List (κ × V)} {ds : List (κ × D)} (hl : xs.length = ds.length) (h : ∀ (i : Nat) x d, xs[i]? = some x → ds[i]? = some d → x.1 = d.1) : xs.map (·.1) = ds.map (·.1) := by
  apply List.ext_getElem?
  intro i
  rw [List.getElem?_map]
  rw [List.getElem?_map]
  by_cases hi : i < xs.length
  · have h1 : xs[i]? = some xs[i] := List.getElem?_eq_getElem hi
    have h2 : ds[i]? = some (ds[i]'(by omega)) := List.getElem?_eq_getElem _
    rw [h1, h2]
    exact congrArg some (h i _ _ h1 h2)
  · rw [List.getElem?_eq_none (by omega), List.getElem?_eq_none (by omega)]
    rfl
theorem vals_of {κ : Type} {g : G} {A : Addr → Prop} {H : Hp} {xs : List (κ × V)} {ds : List (κ × D)} (hl : xs.length = ds.length) (h : ∀ (i : Nat) x d, xs[i]? = some x → ds[i]? = some d → Rp g A H x.2 d.2) : RpA g A H (xs.map (·.2)) (ds.map (·.2)) := by
  refine ⟨by simp [hl], fun i x d hx hd => ?_⟩
  rw [List.getElem?_map] at hx hd
  obtain ⟨y, hy, rfl⟩ := Option.map_eq_some_iff.mp hx
  obtain ⟨z, hz, rfl⟩ := Option.map_eq_some_iff.mp hd
  exact h i y z hy hz
theorem Rp.inv_dK {g : G} {A : Addr → Prop} {H : Hp} {v : V} {ds : List (Key × D)} (r : Rp g A H v (.dK ds)) : ∃ a xs, v = .ref a ∧ Rd H a (.dK xs) ∧ ¬ A a ∧ xs.map (·.1) = ds.map (·.1) ∧ RpA g A H (xs.map (·.2)) (ds.map (·.2)) := by
  cases r with
  | dK h n hl hk q => exact ⟨_, _, rfl, h, n, keys_of hl hk, vals_of hl q⟩
theorem Rp.inv_dT {g : G} {A : Addr → Prop} {H : Hp} {v : V} {ds : List (List Key × D)} (r : Rp g A H v (.dT ds)) : ∃ a xs, v = .ref a ∧ Rd H a (.dT xs) ∧ ¬ A a ∧ xs.map (·.1) = ds.map (·.1) ∧ RpA g A H (xs.map (·.2)) (ds.map (·.2)) := by
  cases r with
  | dT h n hl hk q => exact ⟨_, _, rfl, h, n, keys_of hl hk, vals_of hl q⟩
/-- what a dict holds under d -/
def getD (c d : D) : Option (Option D) := match c with
  | .dK kvs => match keyD d with
    | some k => some (valD kvs k)
    | none => none
  | .dT kvs => match keysD d with
    | some k => some (valD kvs k)
    | none => none
  | _ => none
theorem getD_ok {g : G} {A : Addr → Prop} {H : Hp} {vc v : V} {c d : D} {o : Option D} (rc : Rp g A H vc c) (r : Rp g A H v d) (e : getD c d = some o) : ∃ a ov, vc = .ref a ∧ DGet H a v ov ∧ ((o = none ∧ ov = none) ∨ ∃ x y, o = some x ∧ ov = some y ∧ Rp g A H y x) := by
  unfold getD at e
  cases c with
  | dK kvs =>
    obtain ⟨a, xs, rfl, ha, _, ek, rv⟩ := rc.inv_dK
    cases e1 : keyD d with
    | none => simp only [e1] at e; cases e
    | some k =>
      simp only [e1] at e
      cases Option.some.inj e
      have ev := keyD_ok r e1
      subst ev
      refine ⟨a, valV xs k, rfl, .inl ⟨xs, k, ha, rfl, rfl⟩, ?_⟩
      rcases valD_ok k ek rv with ⟨h1, h2⟩ | ⟨x, y, h1, h2, h3⟩
      · exact .inl ⟨h1, h2⟩
      · exact .inr ⟨x, y, h1, h2, h3⟩
  | dT kvs =>
    obtain ⟨a, xs, rfl, ha, _, ek, rv⟩ := rc.inv_dT
    cases e1 : keysD d with
    | none => simp only [e1] at e; cases e
    | some k =>
      simp only [e1] at e
      cases Option.some.inj e
      obtain ⟨b, rfl, hb⟩ := keysD_ok r e1
      refine ⟨a, valV xs k, rfl, .inr ⟨xs, k, b, ha, rfl, hb, rfl⟩, ?_⟩
      rcases valD_ok k ek rv with ⟨h1, h2⟩ | ⟨x, y, h1, h2, h3⟩
      · exact .inl ⟨h1, h2⟩
      · exact .inr ⟨x, y, h1, h2, h3⟩
  | _ => cases e
def memD (a : D) (ds : List D) : Option Bool := match toP 20 a, mapO (toP 20) ds with
  | some p, some ps => some (ps.any fun z => PyData.eqv z p)
  | _, _ => none
def inD (neg : Bool) (a b : D) : Option D := match seqD b with
  | some ds => match memD a ds with
    | some k => some (.bl (Bool.xor neg k))
    | none => none
  | none => match getD b a with
    | some o => some (.bl (Bool.xor neg o.isSome))
    | none => none
theorem toP_all {g : G} {A : Addr → Prop} {H : Hp} {n : Nat} : ∀ {ds : List D} {ps : List PyData} {vs : List V}, mapO (toP n) ds = some ps → RpA g A H vs ds → DpAll g.K H vs ps ∧ PyData.plainAll ps = true ∧ PyData.depthAll ps ≤ n
  | [], ps, vs, h, r => by
    cases (Option.some.inj h)
    rw [r.cases_nil]
    exact ⟨.nil, rfl, Nat.zero_le _⟩
  | d :: ds, ps, vs, h, r => by
    obtain ⟨x, xs, rfl, r1, r2⟩ := r.cases_cons
    obtain ⟨y, ys, e1, e2, rfl⟩ := mapO_cons h
    obtain ⟨a1, a2, a3⟩ := toP_ok n d y x e1 r1
    obtain ⟨b1, b2, b3⟩ := toP_all e2 r2
    exact ⟨.cons a1 b1, by simp only [PyData.plainAll, a2, b2]; rfl, by simp only [PyData.depthAll]; omega⟩
end RE
set_option maxHeartbeats 2000000
namespace RE
open PySem PySem.Spec PyProof.Rows L2
abbrev lim : Nat := 100000
theorem lim_ok {n : Nat} (h : n ≤ lim) : n ≤ sizeLine := Nat.le_trans h (by rw [sizeLine_eq]; decide)
def addD (a b : D) : Option D := match a, b with
  | .int i, .int j => some (.int (i + j))
  | .lst ds, .lst es => if ds.length + es.length ≤ lim then some (.lst (ds ++ es)) else none
  | .str s, .str t => if s.length + t.length ≤ lim then some (.str (s ++ t)) else none
  | .tup ds, .tup es => if ds.length + es.length ≤ lim then some (.tup (ds ++ es)) else none
  | _, _ => none
def rAddU (K : PySem.W.Frag) : R2 := fun x y H Q => rI0 (fun i j => .int (i + j)) x y H Q ∨ (rCat x y H Q ∨ ((∃ i j, x = .str i ∧ y = .str j ∧ i.length + j.length ≤ sizeLine ∧ Q (.str (i ++ j)) H) ∨ rCatA K x y H Q))
theorem op_addU {X : Cx} : OpR X (binaryOp .Add) (rAddU X.K) := OpR.or op_add (OpR.or op_cat (OpR.or op_add_str op_catA))
theorem nil_of {xs : List V} {ds : List D} (h : xs.length = ds.length) : xs = [] ↔ ds = [] := by
  cases xs <;> cases ds <;> simp_all
theorem rop_add {g : G} : ROp g (rAddU g.K) addD := by
  intro ρ σ st H x y dx dy d Q e s rx ry k
  unfold addD at e
  split at e
  · rename_i i j
    exact .inl ⟨i, j, rx.inv_int, ry.inv_int, k ρ H _ Ext.refl s (by rw [← Option.some.inj e]; exact .int _)⟩
  · rename_i ds es
    split at e
    · rename_i hz
      cases Option.some.inj e
      obtain ⟨a, xs, rfl, ha, _, ra⟩ := rx.inv_lst
      obtain ⟨b, ys, rfl, hb, _, rb⟩ := ry.inv_lst
      exact .inr (.inl ⟨a, b, xs, ys, rfl, rfl, ha, hb, lim_ok (by rw [ra.1, rb.1]; exact hz), fresh_lst s (ra.append rb) k⟩)
    · cases e
  · rename_i s1 s2
    split at e
    · rename_i hz
      exact .inr (.inr (.inl ⟨s1, s2, rx.inv_str, ry.inv_str, lim_ok hz, k ρ H _ Ext.refl s (by rw [← Option.some.inj e]; exact .str _)⟩))
    · cases e
  · rename_i ds es
    split at e
    · rename_i hz
      cases Option.some.inj e
      obtain ⟨a, xs, rfl, ha, na, ra⟩ := rx.inv_tup
      obtain ⟨b, ys, rfl, hb, nb, rb⟩ := ry.inv_tup
      refine .inr (.inr (.inr ⟨a, b, xs, ys, rfl, rfl, SqT.of ha, SqT.of hb, lim_ok (by rw [ra.1, rb.1]; exact hz), fun h => ?_, fun _ h => ?_, fun _ _ => fresh_tup s (ra.append rb) k⟩))
      · rw [(nil_of ra.1).mp h] at k
        exact k ρ H _ Ext.refl s (Rp.tup' hb nb rb)
      · rw [(nil_of rb.1).mp h, List.append_nil] at k
        exact k ρ H _ Ext.refl s (Rp.tup' ha na ra)
    · cases e
  · cases e
def subD (a b : D) : Option D := match a, b with
  | .int i, .int j => some (.int (i - j))
  | _, _ => none
theorem rop_sub {g : G} : ROp g (rI0 fun i j => .int (i - j)) subD := by
  intro ρ σ st H x y dx dy d Q e s rx ry k
  unfold subD at e
  split at e
  · rename_i i j
    exact ⟨i, j, rx.inv_int, ry.inv_int, k ρ H _ Ext.refl s (by rw [← Option.some.inj e]; exact .int _)⟩
  · cases e
def smallI (i : Int) : Bool := decide (-18446744073709551616 < i) && decide (i < 18446744073709551616)
theorem smallI_ok {i : Int} (h : smallI i = true) : -(2 ^ 64) < i ∧ i < 2 ^ 64 := by
  unfold smallI at h
  obtain ⟨h1, h2⟩ := Bool.and_eq_true_iff.mp h
  exact ⟨by have := of_decide_eq_true h1; omega, by have := of_decide_eq_true h2; omega⟩
def mulD (a b : D) : Option D := match a, b with
  | .int i, .int j => if smallI j = true then some (.int (i * j)) else none
  | .lst ds, .int k => if 0 ≤ k ∧ k ≤ 1000 ∧ ds.length ≤ 100 then some (.lst (List.replicate k.toNat ds).flatten) else none
  | .tup ds, .int k => if 2 ≤ k ∧ k ≤ 1000 ∧ ds.length ≤ 100 ∧ ds.isEmpty = false then some (.tup (List.replicate k.toNat ds).flatten) else none
  | _, _ => none
def rMulU (K : PySem.W.Frag) : R2 := fun x y H Q => rI CMul (fun i j => .int (i * j)) x y H Q ∨ (rRep x y H Q ∨ rRepT K x y H Q)
theorem op_mulU {X : Cx} : OpR X (binaryOp .Mult) (rMulU X.K) := OpR.or op_mul (OpR.or op_rep op_repT)
theorem RpA.rep {g : G} {A : Addr → Prop} {H : Hp} {xs : List V} {ds : List D} (r : RpA g A H xs ds) : ∀ n : Nat, RpA g A H (List.replicate n xs).flatten (List.replicate n ds).flatten
  | 0 => RpA.nil
  | n + 1 => by
    rw [List.replicate_succ, List.flatten_cons, List.replicate_succ, List.flatten_cons]
    exact r.append (r.rep n)
theorem rop_mul {g : G} : ROp g (rMulU g.K) mulD := by
  intro ρ σ st H x y dx dy d Q e s rx ry k
  unfold mulD at e
  split at e
  · rename_i i j
    split at e
    · rename_i hz
      exact .inl ⟨i, j, rx.inv_int, ry.inv_int, .inr (smallI_ok hz), k ρ H _ Ext.refl s (by rw [← Option.some.inj e]; exact .int _)⟩
    · cases e
  · rename_i ds j
    split at e
    · rename_i hz
      obtain ⟨h1, h2, h3⟩ := hz
      cases Option.some.inj e
      obtain ⟨a, xs, rfl, ha, _, ra⟩ := rx.inv_lst
      refine .inr (.inl ⟨a, j, xs, rfl, ry.inv_int, ha, by omega, by omega, ?_, fresh_lst s (ra.rep _) k⟩)
      rw [ra.1]
      have q : ds.length * j.toNat ≤ 100 * 1000 := Nat.mul_le_mul h3 (by omega)
      exact lim_ok (by omega)
    · cases e
  · rename_i ds j
    split at e
    · rename_i hz
      obtain ⟨h1, h2, h3, h4⟩ := hz
      cases Option.some.inj e
      obtain ⟨a, xs, rfl, ha, _, ra⟩ := rx.inv_tup
      refine .inr (.inr ⟨a, j, xs, rfl, ry.inv_int, SqT.of ha, fun z => ?_, h1, h2, by rw [ra.1]; omega, fresh_tup s (ra.rep _) k⟩)
      rw [(nil_of ra.1).mp z] at h4
      cases h4
    · cases e
  · cases e
def modD (a b : D) : Option D := match a, b with
  | .int i, .int j => if 0 < j then some (.int (i % j)) else none
  | _, _ => none
theorem rop_mod {g : G} : ROp g (rI (fun _ j => 0 < j) fun i j => .int (i % j)) modD := by
  intro ρ σ st H x y dx dy d Q e s rx ry k
  unfold modD at e
  split at e
  · rename_i i j
    split at e
    · rename_i hz
      exact ⟨i, j, rx.inv_int, ry.inv_int, hz, k ρ H _ Ext.refl s (by rw [← Option.some.inj e]; exact .int _)⟩
    · cases e
  · cases e
def divD (a b : D) : Option D := match a, b with
  | .int i, .int j => if 0 < j ∧ j < 1073741824 then some (.int (i / j)) else none
  | _, _ => none
theorem rop_div {g : G} : ROp g (rI CDiv fun i j => .int (i / j)) divD := by
  intro ρ σ st H x y dx dy d Q e s rx ry k
  unfold divD at e
  split at e
  · rename_i i j
    split at e
    · rename_i hz
      exact ⟨i, j, rx.inv_int, ry.inv_int, hz, k ρ H _ Ext.refl s (by rw [← Option.some.inj e]; exact .int _)⟩
    · cases e
  · cases e
def atD (ds : List D) (i : Int) : Option D := match ixN ds.length i with
  | some j => ds[j]?
  | none => none
theorem atD_ok {g : G} {A : Addr → Prop} {H : Hp} {xs : List V} {ds : List D} {i : Int} {d : D} (r : RpA g A H xs ds) (e : atD ds i = some d) : ∃ x, atI xs i = some x ∧ Rp g A H x d := by
  unfold atD at e
  unfold atI
  rw [r.1]
  split at e
  · rename_i j ej
    obtain ⟨x, hx, rx⟩ := r.get e
    exact ⟨x, by rw [ej]; exact hx, rx⟩
  · cases e
def ixI (ds : List D) : D → Option D
  | .int i => atD ds i
  | _ => none
def ixG (a b : D) : Option D := match getD a b with
  | some (some d) => some d
  | _ => none
def ixD (a b : D) : Option D := match seqD a with
  | some ds => ixI ds b
  | none => ixG a b
theorem ixD_seq {a b : D} {ds : List D} (e : seqD a = some ds) : ixD a b = ixI ds b := by unfold ixD; rw [e]
theorem ixD_dict {a b : D} (e : seqD a = none) : ixD a b = ixG a b := by unfold ixD; rw [e]
theorem PE.or {X : Cx} {e : Expr} {t u : TE} (p : PE X e t) (q : PE X e u) : PE X e (fun σ H Q => t σ H Q ∨ u σ H Q) := ⟨fun pq s σ H Q I h => h.elim (p.run pq s σ H Q I) (q.run pq s σ H Q I)⟩
theorem PT.or {X : Cx} {e : Expr} {t u : TT} (p : PT X e t) (q : PT X e u) : PT X e (fun σ H Q => t σ H Q ∨ u σ H Q) := ⟨fun pq s σ H Q I h => h.elim (p.run pq s σ H Q I) (q.run pq s σ H Q I)⟩
section
variable {X : Cx} {g : G} {ER : EK} {pos : Pos} {a b : Expr} {ma mb : M}
theorem pe_mIx (hk : X.K = g.K) (hu : X.A.units + 1 < cLine) (ha : PE X a (tM g ER ma)) (hb : PE X b (tM g ER mb)) (hs : PlainIx b) (hn : NoSl b) : PE X (.Subscript a b pos) (tM g ER (mBin ixD ma mb)) := by
  refine PEi (PE.or (pe_ix ix_seq ha hb hs) (pe_dget hu ha hb hn)) fun σ H Q h => ?_
  obtain ⟨ρ, st, s, h⟩ := h
  have hq := h
  unfold mBin at hq
  by_cases hd : ∃ da st1 db st2, ma st = .ok da st1 ∧ mb st1 = .ok db st2 ∧ seqD da = none
  · obtain ⟨da, st1, db, st2, e1, e2, e3⟩ := hd
    refine .inr ⟨ρ, st, s, ?_⟩
    rw [e1] at hq ⊢
    intro ρ1 H1 x1 s1 x rx
    refine ⟨ρ1, st1, s1, ?_⟩
    have hq := OutC.later hq x1
    have hq : OutC ER ρ1 st1 H1 (bindO (mb st1) fun b st2 => optO (ixD da b) st2) _ := hq
    rw [e2] at hq ⊢
    intro ρ2 H2 x2 s2 y ry
    have hq := OutC.later hq x2
    have hq : OutC ER ρ2 st2 H2 (optO (ixD da db) st2) _ := hq
    have hq : OutC ER ρ2 st2 H2 (optO (ixD da db) st2) _ := hq
    rw [ixD_dict e3] at hq
    unfold ixG at hq
    cases eg : getD da db with
    | none => rw [eg] at hq; exact hq.elim
    | some o =>
      rw [eg] at hq
      obtain ⟨c, ov, rfl, gd, hh⟩ := getD_ok (rx.go x2) ry eg
      rcases hh with ⟨z, _⟩ | ⟨d2, v2, z1, z2, rr⟩
      · subst z
        exact hq.elim
      · subst z1
        rw [z2] at gd
        exact ⟨c, v2, rfl, gd, hq ρ2 H2 Ext.refl s2 v2 rr⟩
  · refine .inl ⟨ρ, st, s, ?_⟩
    cases e1 : ma st with
    | no => rw [e1] at hq; exact hq
    | er c vs st' => rw [e1] at hq; exact hq
    | ok da st1 =>
      rw [e1] at hq
      intro ρ1 H1 x1 s1 x rx
      refine ⟨ρ1, st1, s1, ?_⟩
      have hq := OutC.later hq x1
      have hq : OutC ER ρ1 st1 H1 (bindO (mb st1) fun b st2 => optO (ixD da b) st2) _ := hq
      cases e2 : mb st1 with
      | no => rw [e2] at hq; exact hq
      | er c vs st' => rw [e2] at hq; exact hq
      | ok db st2 =>
        rw [e2] at hq
        intro ρ2 H2 x2 s2 y ry
        have hq := OutC.later hq x2
        have hq : OutC ER ρ2 st2 H2 (optO (ixD da db) st2) _ := hq
        cases e3 : seqD da with
        | none => exact absurd ⟨da, st1, db, st2, e1, e2, e3⟩ hd
        | some ds =>
          have hq : OutC ER ρ2 st2 H2 (optO (ixD da db) st2) _ := hq
          rw [ixD_seq e3] at hq
          cases db with
          | int i =>
            have hq : OutC ER ρ2 st2 H2 (optO (atD ds i) st2) _ := hq
            cases ed : atD ds i with
            | none => rw [ed] at hq; exact hq.elim
            | some d =>
              rw [ed] at hq
              obtain ⟨p, xs, rfl, hp, rs⟩ := (rx.go x2).seq e3
              obtain ⟨v, ev, rv⟩ := atD_ok rs ed
              rw [hk]
              rcases hp with hp | hp
              · exact .inl ⟨p, xs, i, v, rfl, ry.inv_int, hp, ev, hq ρ2 H2 Ext.refl s2 v rv⟩
              · exact .inr (.inl ⟨p, xs, i, v, rfl, ry.inv_int, hp, ev, hq ρ2 H2 Ext.refl s2 v rv⟩)
          | _ => exact hq.elim
end
end RE
set_option maxHeartbeats 2000000
namespace RE
open PySem PySem.Spec PyProof.Rows L2
def mFun (f : List D → Option D) (ms : MA) : M := fun st => bindO (ms st) fun ds st1 => optO (f ds) st1
def ROpN (g : G) (r : List V → Hp → VK → Prop) (f : List D → Option D) : Prop := ∀ (ρ : Rh) (σ : L2.St) (st : S) (H : Hp) (xs : List V) (ds : List D) (d : D) (Q : VK), f ds = some d → Sim g ρ σ H st → RpA g (Vol ρ st) H xs ds →
  (∀ ρ' H' v, Ext ρ st H ρ' st H' → Sim g ρ' σ H' st → Rp g (Vol ρ' st) H' v d → Q v H') → r xs H Q
section
variable {X : Cx} {g : G} {ER : EK} {pos p : Pos} {x : Str} {e : Expr} {es : List Expr} {ms : MA} {r : List V → Hp → VK → Prop} {f : List D → Option D}
theorem tM_fun (hf : ROpN g r f) {σ : L2.St} {H : Hp} {Q : VK} (h : tM g ER (mFun f ms) σ H Q) : tCB r (tMA g ER ms) σ H Q := by
  obtain ⟨ρ, st, s, h⟩ := h
  refine ⟨ρ, st, s, (OutC.bind h).mono fun ds st1 ρ1 H1 _ h1 s1 xs rs => ?_⟩
  cases ed : f ds with
  | none => rw [ed] at h1; exact h1.elim
  | some d =>
    rw [ed] at h1
    exact hf ρ1 σ st1 H1 xs ds d Q ed s1 rs fun ρ' H' v e' s' r' => h1 ρ' H' e' s' v r'
theorem pe_mCallB {id : String} (hc : CallR X (.builtin id) r) (hf : ROpN g r f) (hg : Gl X x) (hm : X.mg x = none) (hv : bootBuiltins x = some (.builtin id)) (ha : PA X (e :: es) (tMA g ER ms)) (hn : x ≠ "__name__" := by decide) (hdb : (x == ("__debug__" : Str)) = false := by decide)
    (he : starEach (e :: es) X.env = (false, eval e X.env) :: starEach es X.env := by rfl) (hpl : (backTo pos (starEach es X.env)).any (·.1) = false := by rfl) : PE X (.Call (.Name x p) (e :: es) [] pos) (tM g ER (mFun f ms)) :=
  PEi (pe_callB hc hg hm hv ha hn hdb he hpl) fun _ _ _ h => tM_fun hf h
theorem pe_mCallT {T : String} (hc : CallR X (.type T) r) (hf : ROpN g r f) (hg : Gl X x) (hm : X.mg x = none) (hv : bootBuiltins x = some (.type T)) (ha : PA X (e :: es) (tMA g ER ms)) (hn : x ≠ "__name__" := by decide) (hdb : (x == ("__debug__" : Str)) = false := by decide)
    (he : starEach (e :: es) X.env = (false, eval e X.env) :: starEach es X.env := by rfl) (hpl : (backTo pos (starEach es X.env)).any (·.1) = false := by rfl) : PE X (.Call (.Name x p) (e :: es) [] pos) (tM g ER (mFun f ms)) :=
  PEi (pe_callTy hc hg hm hv ha hn hdb he hpl) fun _ _ _ h => tM_fun hf h
end
section
variable {g : G} {A : Addr → Prop} {H : Hp} {vs : List V}
theorem RpA.one {d : D} (r : RpA g A H vs [d]) : ∃ v, vs = [v] ∧ Rp g A H v d := by
  obtain ⟨x, xs, rfl, r1, r2⟩ := r.cases_cons
  rw [r2.cases_nil]
  exact ⟨x, rfl, r1⟩
theorem RpA.two {d e : D} (r : RpA g A H vs [d, e]) : ∃ v u, vs = [v, u] ∧ Rp g A H v d ∧ Rp g A H u e := by
  obtain ⟨x, xs, rfl, r1, r2⟩ := r.cases_cons
  obtain ⟨u, rfl, r3⟩ := r2.one
  exact ⟨x, u, rfl, r1, r3⟩
end
def lenD : List D → Option D
  | [.str s] => if s.length ≤ lim then some (.int s.length) else none
  | [d] => match seqD d with
    | some ds => some (.int ds.length)
    | none => none
  | _ => none
theorem rop_len {g : G} : ROpN g (fun xs H Q => ∃ x n, xs = [x] ∧ LenV g.K x H n ∧ Q (.int (n : Nat)) H) lenD := by
  intro ρ σ st H xs ds d Q e s rs k
  unfold lenD at e
  split at e
  · rename_i z
    obtain ⟨v, rfl, r⟩ := rs.one
    obtain rfl := r.inv_str
    split at e
    · rename_i hz
      exact ⟨_, _, rfl, ⟨lim_ok hz, rfl⟩, k ρ H _ Ext.refl s (by rw [← Option.some.inj e]; exact .int _)⟩
    · cases e
  · rename_i d' _
    obtain ⟨v, rfl, r⟩ := rs.one
    cases e1 : seqD d' with
    | none => simp only [e1] at e; cases e
    | some es =>
      simp only [e1] at e
      obtain ⟨a, ys, rfl, ha, ra⟩ := r.seq e1
      refine ⟨_, ys.length, rfl, ?_, k ρ H _ Ext.refl s (by rw [← Option.some.inj e, ra.1]; exact .int _)⟩
      rcases ha with ha | ha
      · exact .inl ⟨_, ha, rfl⟩
      · exact .inr ⟨_, ha, rfl⟩
  · cases e
def listD : List D → Option D
  | [d] => match seqD d with
    | some ds => some (.lst ds)
    | none => none
  | _ => none
theorem rop_list {g : G} : ROpN g (fun xs H Q => ∃ p ys, xs = [.ref p] ∧ (SqL g.K H p ys ∨ SqT g.K H p ys) ∧ ∀ l, H l = none → Q (.ref l) (upd H l (.lst ys))) listD := by
  intro ρ σ st H xs ds d Q e s rs k
  unfold listD at e
  split at e
  · rename_i d'
    obtain ⟨v, rfl, r⟩ := rs.one
    cases e1 : seqD d' with
    | none => simp only [e1] at e; cases e
    | some es =>
      simp only [e1] at e
      cases Option.some.inj e
      obtain ⟨a, ys, rfl, ha, ra⟩ := r.seq e1
      exact ⟨a, ys, rfl, ha, fresh_lst s ra k⟩
  · cases e
def tupleD : List D → Option D
  | [.lst ds] => some (.tup ds)
  | [.tup ds] => some (.tup ds)
  | [.kt ds] => some (.kt ds)
  | _ => none
theorem rop_tuple {g : G} : ROpN g (fun xs H Q => ∃ p ys, xs = [.ref p] ∧ ((SqL g.K H p ys ∧ ∀ l, H l = none → Q (.ref l) (upd H l (.tup ys))) ∨ (SqT g.K H p ys ∧ Q (.ref p) H))) tupleD := by
  intro ρ σ st H xs ds d Q e s rs k
  unfold tupleD at e
  split at e
  · cases Option.some.inj e
    obtain ⟨v, rfl, r⟩ := rs.one
    obtain ⟨a, ys, rfl, ha, _, ra⟩ := r.inv_lst
    exact ⟨a, ys, rfl, .inl ⟨SqL.of ha, fresh_tup s ra k⟩⟩
  · cases Option.some.inj e
    obtain ⟨v, rfl, r⟩ := rs.one
    obtain ⟨a, ys, rfl, ha, na, ra⟩ := r.inv_tup
    exact ⟨a, ys, rfl, .inr ⟨SqT.of ha, k ρ H _ Ext.refl s r⟩⟩
  · cases Option.some.inj e
    obtain ⟨v, rfl, r⟩ := rs.one
    obtain ⟨a, ys, rfl, ha, ra⟩ := r.inv_kt
    exact ⟨a, ys, rfl, .inr ⟨ha.sq, k ρ H _ Ext.refl s r⟩⟩
  · cases e
def intD : List D → Option D
  | [.int i] => some (.int i)
  | [.bl b] => some (.int (if b then 1 else 0))
  | _ => none
theorem rop_int {g : G} : ROpN g (fun xs H Q => (∃ i, xs = [.int i] ∧ Q (.int i) H) ∨ ∃ k, xs = [.bl k] ∧ Q (.int (if k then 1 else 0)) H) intD := by
  intro ρ σ st H xs ds d Q e s rs k
  unfold intD at e
  split at e
  · cases Option.some.inj e
    obtain ⟨v, rfl, r⟩ := rs.one
    obtain rfl := r.inv_int
    exact .inl ⟨_, rfl, k ρ H _ Ext.refl s (.int _)⟩
  · cases Option.some.inj e
    obtain ⟨v, rfl, r⟩ := rs.one
    obtain rfl := r.inv_bl
    exact .inr ⟨_, rfl, k ρ H _ Ext.refl s (.int _)⟩
  · cases e
def absD : List D → Option D
  | [.int i] => some (.int (if i < 0 then -i else i))
  | _ => none
theorem rop_abs {g : G} : ROpN g (fun xs H Q => ∃ i, xs = [.int i] ∧ Q (.int (if i < 0 then -i else i)) H) absD := by
  intro ρ σ st H xs ds d Q e s rs k
  unfold absD at e
  split at e
  · cases Option.some.inj e
    obtain ⟨v, rfl, r⟩ := rs.one
    obtain rfl := r.inv_int
    exact ⟨_, rfl, k ρ H _ Ext.refl s (.int _)⟩
  · cases e
def blD : D → Option Bool
  | .bl b => some b
  | _ => none
theorem bls_ok {g : G} {A : Addr → Prop} {H : Hp} : ∀ {ds : List D} {vs : List V} {bs : List Bool}, mapO blD ds = some bs → RpA g A H vs ds → vs = bs.map V.bl
  | [], vs, bs, e, r => by
    cases Option.some.inj e
    exact r.cases_nil
  | d :: ds, vs, bs, e, r => by
    obtain ⟨x, xs, rfl, r1, r2⟩ := r.cases_cons
    obtain ⟨y, ys, e1, e2, rfl⟩ := mapO_cons e
    rw [bls_ok e2 r2]
    cases d with
    | bl b => cases Option.some.inj e1; rw [r1.inv_bl]; rfl
    | _ => cases e1
def anyD : List D → Option D
  | [.lst ds] => match mapO blD ds with
    | some bs => some (.bl (bs.any id))
    | none => none
  | _ => none
def allD : List D → Option D
  | [.lst ds] => match mapO blD ds with
    | some bs => some (.bl (bs.all id))
    | none => none
  | _ => none
theorem rop_any {g : G} : ROpN g (rAny g.K) anyD := by
  intro ρ σ st H xs ds d Q e s rs k
  unfold anyD at e
  split at e
  · rename_i es
    obtain ⟨v, rfl, r⟩ := rs.one
    obtain ⟨a, ys, rfl, ha, _, ra⟩ := r.inv_lst
    cases e1 : mapO blD es with
    | none => simp only [e1] at e; cases e
    | some bs =>
      simp only [e1] at e
      cases Option.some.inj e
      rw [bls_ok e1 ra] at ha
      exact ⟨a, bs, rfl, SqL.of ha, k ρ H _ Ext.refl s (.bl _)⟩
  · cases e
theorem rop_all {g : G} : ROpN g (rAll g.K) allD := by
  intro ρ σ st H xs ds d Q e s rs k
  unfold allD at e
  split at e
  · rename_i es
    obtain ⟨v, rfl, r⟩ := rs.one
    obtain ⟨a, ys, rfl, ha, _, ra⟩ := r.inv_lst
    cases e1 : mapO blD es with
    | none => simp only [e1] at e; cases e
    | some bs =>
      simp only [e1] at e
      cases Option.some.inj e
      rw [bls_ok e1 ra] at ha
      exact ⟨a, bs, rfl, SqL.of ha, k ρ H _ Ext.refl s (.bl _)⟩
  · cases e
inductive Ty where
  | list | tuple | int | bool | str
def Ty.nm : Ty → String
  | .list => "list"
  | .tuple => "tuple"
  | .int => "int"
  | .bool => "bool"
  | .str => "str"
/-- the name of a datum's class, as Ty; None and dicts apart -/
def isaD : Ty → D → Option Bool
  | .list, .lst _ => some true
  | .tuple, .tup _ => some true
  | .tuple, .kt _ => some true
  | .int, .int _ => some true
  | .int, .bl _ => some true
  | .bool, .bl _ => some true
  | .str, .str _ => some true
  | _, .fn _ => none
  | _, .ks _ => none
  | _, .dK _ => none
  | _, .dT _ => none
  | _, .ob _ _ => none
  | _, _ => some false
def clsD : D → Option String
  | .non => some "NoneType"
  | .bl _ => some "bool"
  | .int _ => some "int"
  | .str _ => some "str"
  | .lst _ => some "list"
  | .tup _ => some "tuple"
  | .kt _ => some "tuple"
  | .dK _ => none
  | .dT _ => none
  | .fn _ => none
  | .ks _ => none
  | .ob _ _ => none
theorem clsD_ok {g : G} {A : Addr → Prop} {H : Hp} {v : V} {d : D} {c : String} (r : Rp g A H v d) (e : clsD d = some c) : TyX g.K H v (.type c) := by
  cases r with
  | non => cases Option.some.inj e; exact .base .non
  | bl b => cases Option.some.inj e; exact .base (.bl b)
  | int i => cases Option.some.inj e; exact .base (.int i)
  | str z => cases Option.some.inj e; exact .base (.str z)
  | lst h _ _ _ => cases Option.some.inj e; exact .base (.lst h)
  | tup h _ _ _ => cases Option.some.inj e; exact .base (.tup h)
  | kls _ _ _ _ => cases e
  | klw _ _ _ => cases e
  | ktup h _ _ =>
    cases Option.some.inj e
    rcases h with ⟨o, _, _, ho, hc, _⟩ | ⟨o, ho, _⟩
    · exact .kTuple ho hc
    · exact .fTuple ho
  | dK _ _ _ _ _ => cases e
  | dT _ _ _ _ _ => cases e
  | fn i => cases e
  | ob _ _ _ _ _ => cases e
theorem isaD_kit {t : Ty} {d : D} {b : Bool} (e : isaD t d = some b) : ∃ c, clsD d = some c ∧ kitB c t.nm = some b := by
  cases d <;> cases t <;> first
    | (cases e; done)
    | (cases Option.some.inj e; exact ⟨_, rfl, by decide +kernel⟩)
end RE
set_option maxHeartbeats 2000000
namespace RE
open PySem PySem.Spec PyProof.Rows L2
def mIsa (t : Ty) (m : M) : M := fun st => bindO (m st) fun d st1 => match isaD t d with
  | some b => .ok (.bl b) st1
  | none => .no
def isa2 (t u : Ty) (d : D) : Option Bool := match isaD t d with
  | some true => some true
  | some false => isaD u d
  | none => none
def mIsa2 (t u : Ty) (m : M) : M := fun st => bindO (m st) fun d st1 => match isa2 t u d with
  | some b => .ok (.bl b) st1
  | none => .no
section
variable {X : Cx} {g : G} {ER : EK} {pos p : Pos} {a b : Expr} {m : M}
theorem pe_mIsa (t : Ty) (hk : X.K = g.K) (hg : Gl X "isinstance") (hm : X.mg "isinstance" = none) (ha : PE X a (tM g ER m)) (hb : PE X b (tC (.ty t.nm)))
    (he : starEach [a, b] X.env = (false, eval a X.env) :: starEach [b] X.env := by rfl) (he2 : starEach [b] X.env = (false, eval b X.env) :: starEach [] X.env := by rfl) (hpl : (backTo pos (starEach [b] X.env)).any (·.1) = false := by rfl) :
    PE X (.Call (.Name "isinstance" p) [a, b] [] pos) (tM g ER (mIsa t m)) := by
  refine PEi (pe_callB call_isi hg hm (by decide +kernel) (pa_cons ha (pa_cons hb pa_nil he2) he) (he := he) (hpl := hpl)) fun σ H Q h => ?_
  obtain ⟨ρ, st, s, h⟩ := h
  refine ⟨ρ, st, s, (OutC.bind h).mono fun d st1 ρ1 H1 _ h1 s1 x rx => ?_⟩
  cases e : isaD t d with
  | none => simp only [e] at h1; exact h1.elim
  | some k =>
    simp only [e] at h1
    obtain ⟨c, e1, e2⟩ := isaD_kit e
    rw [hk]
    exact ⟨x, _, _, _, k, rfl, .ty _, clsD_ok rx e1, kit_ty e2, h1 ρ1 H1 Ext.refl s1 _ (.bl _)⟩
theorem isa2_kit {K : PySem.W.Frag} {t u : Ty} {d : D} {k : Bool} (e : isa2 t u d = some k) : ∃ c, clsD d = some c ∧ PySem.W.kitAny K (.type c) [.type t.nm, .type u.nm] = some k := by
  unfold isa2 at e
  cases e1 : isaD t d with
  | none => simp only [e1] at e; cases e
  | some k1 =>
    simp only [e1] at e
    obtain ⟨c, c1, c2⟩ := isaD_kit e1
    cases k1 with
    | true =>
      cases Option.some.inj e
      exact ⟨c, c1, kitAny_cons (kit_ty c2) (fun z => nomatch z) fun _ => rfl⟩
    | false =>
      obtain ⟨c', d1, d2⟩ := isaD_kit (show isaD u d = some k from e)
      rw [c1] at d1
      cases Option.some.inj d1
      refine ⟨c, c1, kitAny_cons (kit_ty c2) (fun _ => ?_) fun z => nomatch z⟩
      refine kitAny_cons (kit_ty d2) (fun z => ?_) fun z => z
      rw [z]
      rfl
theorem pe_mIsa2 {e1 e2 : Expr} {x1 : _} {p2 : Pos} (t u : Ty) (hk : X.K = g.K) (hg : Gl X "isinstance") (hm : X.mg "isinstance" = none) (ha : PE X a (tM g ER m)) (h1 : PE X e1 (tC (.ty t.nm))) (h2 : PE X e2 (tC (.ty u.nm)))
    (he : starEach [a, .Tuple [e1, e2] x1 p2] X.env = (false, eval a X.env) :: starEach [.Tuple [e1, e2] x1 p2] X.env := by rfl) (hpl : (backTo pos (starEach [.Tuple [e1, e2] x1 p2] X.env)).any (·.1) = false := by rfl)
    (he1 : starEach [e1, e2] X.env = (false, eval e1 X.env) :: starEach [e2] X.env := by rfl) (he2 : starEach [e2] X.env = (false, eval e2 X.env) :: starEach [] X.env := by rfl) :
    PE X (.Call (.Name "isinstance" p) [a, .Tuple [e1, e2] x1 p2] [] pos) (tM g ER (mIsa2 t u m)) := by
  refine PEi (pe_callB call_isiT hg hm (by decide +kernel) (pa_cons ha (pa_cons (pe_tup (pa_cons h1 (pa_cons h2 pa_nil he2) he1)) pa_nil) he) (he := he) (hpl := hpl)) fun σ H Q h => ?_
  obtain ⟨ρ, st, s, h⟩ := h
  refine ⟨ρ, st, s, (OutC.bind h).mono fun d st1 ρ1 H1 _ h1 s1 x rx => ?_⟩
  refine ⟨by show 2 ≤ sizeLine; rw [sizeLine_eq]; decide, fun q hq => ?_⟩
  cases e : isa2 t u d with
  | none => simp only [e] at h1; exact h1.elim
  | some k =>
    simp only [e] at h1
    obtain ⟨c, c1, c2⟩ := isa2_kit (K := g.K) e
    rw [hk]
    exact ⟨x, q, [.ty t.nm, .ty u.nm], _, _, k, rfl, upd_same, .cons (.ty _) (.cons (.ty _) .nil), clsD_ok (rx.go (Ext.new s1 hq)) c1, c2, h1 ρ1 _ (Ext.new s1 hq) (s1.new hq) _ (.bl _)⟩
end
end RE
set_option maxHeartbeats 2000000
namespace RE
open PySem PySem.Spec PyProof.Rows L2
section
variable {α : Type} {le : α → α → Bool}
def insL (le : α → α → Bool) (x : α) : List α → List α
  | [] => [x]
  | y :: r => if le y x = true then y :: insL le x r else x :: y :: r
def sortL (le : α → α → Bool) (l : List α) : List α := l.foldl (fun acc x => insL le x acc) []
theorem insL_mem {x z : α} : ∀ {l : List α}, z ∈ insL le x l → z = x ∨ z ∈ l
  | [], h => by
    have : z = x := by simpa [insL] using h
    exact .inl this
  | y :: r, h => by
    unfold insL at h
    split at h
    · rcases List.mem_cons.mp h with h | h
      · exact .inr (by rw [h]; exact List.mem_cons_self)
      · rcases insL_mem h with h | h
        · exact .inl h
        · exact .inr (List.mem_cons_of_mem _ h)
    · rcases List.mem_cons.mp h with h | h
      · exact .inl h
      · exact .inr h
theorem le_of_not (T : PySem.W.TotalLe le) {x y : α} (h : ¬ le y x = true) : le x y = true := by
  rcases T.total x y with q | q
  · exact q
  · exact absurd q h
theorem insL_sorted (T : PySem.W.TotalLe le) (x : α) : ∀ {l : List α}, l.Pairwise (fun a b => le a b = true) → (insL le x l).Pairwise (fun a b => le a b = true)
  | [], _ => List.pairwise_singleton _ _
  | y :: r, h => by
    obtain ⟨h1, h2⟩ := (List.pairwise_cons).mp h
    unfold insL
    split
    · rename_i hyx
      refine List.pairwise_cons.mpr ⟨fun z hz => ?_, insL_sorted T x h2⟩
      rcases insL_mem hz with e | e
      · rw [e]; exact hyx
      · exact h1 z e
    · rename_i hyx
      have hxy := le_of_not T hyx
      refine List.pairwise_cons.mpr ⟨fun z hz => ?_, h⟩
      rcases List.mem_cons.mp hz with e | e
      · rw [e]; exact hxy
      · exact T.trans _ _ _ hxy (h1 z e)
theorem insL_filter (T : PySem.W.TotalLe le) (x c : α) : ∀ {l : List α}, l.Pairwise (fun a b => le a b = true) → (insL le x l).filter (PySem.W.sameRank le c) = (l ++ [x]).filter (PySem.W.sameRank le c)
  | [], _ => rfl
  | y :: r, h => by
    obtain ⟨h1, h2⟩ := (List.pairwise_cons).mp h
    unfold insL
    split
    · rw [List.cons_append, List.filter_cons, List.filter_cons, insL_filter T x c h2]
    · rename_i hyx
      -- x is below all of y :: r
      by_cases hs : PySem.W.sameRank le c x = true
      · have hno : ∀ z ∈ y :: r, PySem.W.sameRank le c z = false := by
          intro z hz
          cases q : PySem.W.sameRank le c z with
          | false => rfl
          | true =>
            exfalso
            unfold PySem.W.sameRank at q hs
            obtain ⟨q1, q2⟩ := (Bool.and_eq_true_iff).mp q
            obtain ⟨s1, s2⟩ := Bool.and_eq_true_iff.mp hs
            have hzx : le z x = true := T.trans _ _ _ q2 s1
            rcases List.mem_cons.mp hz with e | e
            · subst e; exact hyx hzx
            · exact hyx (T.trans _ _ _ (h1 z e) hzx)
        have hf : (y :: r).filter (PySem.W.sameRank le c) = [] := List.filter_eq_nil_iff.mpr fun z hz => by rw [hno z hz]; exact Bool.false_ne_true
        rw [List.filter_cons_of_pos hs, hf, List.filter_append, hf, List.filter_cons_of_pos hs]
        rfl
      · rw [List.filter_cons_of_neg hs, List.filter_append, List.filter_cons_of_neg hs, List.filter_nil, List.append_nil]
theorem foldl_ins (T : PySem.W.TotalLe le) : ∀ (l acc : List α), acc.Pairwise (fun a b => le a b = true) → (l.foldl (fun acc x => insL le x acc) acc).Pairwise (fun a b => le a b = true) ∧ ∀ c, (l.foldl (fun acc x => insL le x acc) acc).filter (PySem.W.sameRank le c) = (acc ++ l).filter (PySem.W.sameRank le c)
  | [], acc, h => ⟨h, fun c => by rw [List.append_nil]; rfl⟩
  | x :: l, acc, h => by
    obtain ⟨h1, h2⟩ := foldl_ins T l (insL le x acc) (insL_sorted T x h)
    refine ⟨h1, fun c => ?_⟩
    show (l.foldl (fun acc x => insL le x acc) (insL le x acc)).filter _ = _
    rw [h2 c, List.filter_append, insL_filter T x c h, ← List.filter_append, List.append_assoc]
    rfl
theorem sortL_is (T : PySem.W.TotalLe le) (l : List α) : sortL le l = l.mergeSort le := by
  obtain ⟨h1, h2⟩ := foldl_ins T l [] List.Pairwise.nil
  exact PySem.W.sort_unique T h1 fun c => h2 c
end
/-- data in order: each with what it reads as -/
def leP (a b : D × PyData) : Bool := !PySem.W.dataLt b.2 a.2
def shapeB (p : PyData) : Bool := match p with
  | .tuple (_ :: _) => true
  | _ => false
def plainB (p : PyData) : Bool := match p with
  | .tuple _ => false
  | .none => false
  | _ => true
def sortD : List D → Option D
  | [.lst ds] => match mapO (toP 20) ds with
    | some ps => if (ps.all fun p => ps.all fun q => PySem.W.alike p q) = true ∧ (ps.all shapeB = true ∨ ps.all plainB = true) then some (.lst ((sortL leP (ds.zip ps)).map (·.1))) else none
    | none => none
  | _ => none
def rSortDt (K : PySem.W.Frag) : List V → Hp → VK → Prop := fun vs H Q => ∃ (a : Addr) (xs : List V) (ps : List PyData), vs = [V.ref a] ∧ SqL K H a xs ∧ DpAll K H xs ps ∧ PyData.depthAll ps ≤ 30 ∧ PySem.W.AllAlike ps ∧ PySem.W.Sortable ps ∧
  ∀ p, H p = none → Q (.ref p) (upd H p (.lst (((xs.zip ps).mergeSort (PySem.W.dataLe false fun b => b.2)).map (·.1))))
theorem dpAll_len {K : PySem.W.Frag} {H : Hp} : ∀ {xs : List V} {ps : List PyData}, DpAll K H xs ps → xs.length = ps.length
  | _, _, .nil => rfl
  | _, _, .cons _ t => by rw [List.length_cons, List.length_cons, dpAll_len t]
theorem depth_mem : ∀ {ps : List PyData} {p : PyData}, p ∈ ps → p.depth ≤ PyData.depthAll ps
  | q :: ps, p, h => by
    simp only [PyData.depthAll]
    rcases (List.mem_cons).mp h with e | e
    · rw [e]; omega
    · have := depth_mem e; omega
theorem each_zip {R : Value → V × PyData → Prop} : ∀ {us : List Value} {xs : List V} {ps : List PyData}, us.length = xs.length → xs.length = ps.length → (∀ (i : Nat) u x p, us[i]? = some u → xs[i]? = some x → ps[i]? = some p → R u (x, p)) → PySem.W.EachIs R us (xs.zip ps)
  | [], [], [], _, _, _ => .nil
  | u :: us, x :: xs, p :: ps, h1, h2, h => .cons (h 0 u x p rfl rfl rfl) (each_zip (by simpa using h1) (by simpa using h2) fun i u x p a b c => h (i + 1) u x p a b c)
  | [], _ :: _, _, h, _, _ => by simp at h
  | _ :: _, [], _, h, _, _ => by simp at h
  | [], [], _ :: _, _, h, _ => by simp at h
  | _ :: _, _ :: _, [], _, h, _ => by simp at h
theorem readsAll_ix {h : Heap} : ∀ {us : List Value} {ps : List PyData} {as : List Addr}, ReadsAll h us ps as → ∀ (i : Nat) u p, us[i]? = some u → ps[i]? = some p → ∃ bs, Reads h u p bs
  | _, _, _, .nil, i, u, p, a, _ => by simp at a
  | _, _, _, .cons h1 h2, 0, u, p, a, b => by
    have e1 := Option.some.inj (show some _ = some u from a)
    have e2 := Option.some.inj (show some _ = some p from b)
    subst e1; subst e2
    exact ⟨_, h1⟩
  | _, _, _, .cons h1 h2, i + 1, u, p, a, b => readsAll_ix h2 i u p a b
theorem vals_each : ∀ {out : List Value} {bs : List (V × PyData)}, PySem.W.EachIs (fun u b => RelV b.1 u) out bs → Vals (bs.map (·.1)) out
  | _, _, .nil => .nil
  | _, _, .cons h t => .cons h (vals_each t)
theorem cr_sortDt {X : Cx} (hc : X.calm = true) (hu : X.A.units + 64 < cLine) : CallR X (.builtin "sorted") (rSortDt X.K) := by
  intro pq s σ H vs us Q I r h
  obtain ⟨a, xs, ps, rfl, hs, hd, h30, hal, hk, q⟩ := h
  obtain ⟨itz, rv, hl, hz⟩ := I.list hs
  obtain ⟨ux, rfl, ru⟩ := vals1 r
  obtain rfl : ux = Value.ref a := ru
  obtain ⟨as, hr⟩ := Dp.readsAll I ps xs itz hd rv
  have l1 : itz.length = xs.length := rv.length.symm
  have l2 : xs.length = ps.length := dpAll_len hd
  have lz : (xs.zip ps).length = xs.length := by rw [List.length_zip, ← l2, Nat.min_self]
  have em : (xs.zip ps).map (fun b => b.2) = ps := List.map_snd_zip (by omega)
  refine PySem.W.sorted_data (β := V × PyData) (bs := xs.zip ps) (enc := fun b => b.2) (R := fun v b => RelV b.1 v) hl.isList
    (each_zip l1 l2 fun i u x p a b c => ?_) (each_zip l1 l2 fun i u x p a b c => readsAll_ix hr i u p a c) (by rw [em]; exact hal) (by rw [em]; exact hk) (by rw [lz]; exact hz) (fun b hb => ?_) fun out ho he => ?_
  · obtain ⟨v, hv, rr⟩ := rv.get b
    rw [a] at hv
    cases hv
    exact rr
  · have := depth_mem (List.of_mem_zip hb).2
    omega
  · have hf : H (s.heap.objs.size + 1) = none := I.hok.fresh (Nat.le_succ _)
    obtain ⟨e, hat⟩ := sortedAll_at s.heap itz (List.toArray out)
    refine ⟨.ref (s.heap.objs.size + 1), _, I.laid (t' := s.toks) (o := .lst (((xs.zip ps).mergeSort (PySem.W.dataLe false fun b => b.2)).map (·.1))) (fun b o q => sortedAll_old q) (Nat.le_succ _) ⟨?_, out, e, vals_each he, hat⟩, rfl, q _ hf⟩
    rw [List.length_map, List.length_mergeSort, lz]
    exact hz
theorem rpA_map {α : Type} {g : G} {A : Addr → Prop} {H : Hp} (f : α → V) (h : α → D) : ∀ {l : List α}, (∀ t ∈ l, Rp g A H (f t) (h t)) → RpA g A H (l.map f) (l.map h)
  | [], _ => RpA.nil
  | t :: l, k => RpA.cons (k t List.mem_cons_self) (rpA_map f h fun u hu => k u (List.mem_cons_of_mem _ hu))
theorem zip3 {g : G} {A : Addr → Prop} {H : Hp} : ∀ {xs : List V} {ds : List D} {ps : List PyData}, RpA g A H xs ds → ∀ t ∈ xs.zip (ds.zip ps), Rp g A H t.1 t.2.1
  | [], _, _, _, t, h => by simp at h
  | _ :: _, [], _, _, t, h => by simp at h
  | _ :: _, _ :: _, [], _, t, h => by simp at h
  | x :: xs, d :: ds, p :: ps, r, t, h => by
    rw [List.zip_cons_cons, List.zip_cons_cons] at h
    rcases (List.mem_cons).mp h with e | e
    · rw [e]; exact r.uncons.1
    · exact zip3 r.uncons.2 t e
theorem zip_13 : ∀ {xs : List V} {ds : List D} {ps : List PyData}, xs.length = ds.length → (xs.zip (ds.zip ps)).map (fun t => (t.1, t.2.2)) = xs.zip ps
  | [], _, _, _ => by simp
  | x :: xs, [], _, h => by simp at h
  | x :: xs, d :: ds, [], _ => by simp
  | x :: xs, d :: ds, p :: ps, h => by
    rw [List.zip_cons_cons, List.zip_cons_cons, List.zip_cons_cons, List.map_cons, zip_13 (by simpa using h)]
theorem zip_23 : ∀ {xs : List V} {ds : List D} {ps : List PyData}, xs.length = ds.length → (xs.zip (ds.zip ps)).map (fun t => t.2) = ds.zip ps
  | [], ds, _, h => by
    cases ds with
    | nil => simp
    | cons _ _ => simp at h
  | x :: xs, [], _, h => by simp at h
  | x :: xs, d :: ds, [], _ => by simp
  | x :: xs, d :: ds, p :: ps, h => by
    rw [List.zip_cons_cons, List.zip_cons_cons, List.map_cons, zip_23 (by simpa using h)]
theorem leP_total : PySem.W.TotalLe leP := by
  have h : PySem.W.TotalLe (PySem.W.dataLe false fun b : D × PyData => b.2) := PySem.W.sortLe_total _ false _
  exact h
abbrev r3 (s t : V × D × PyData) : Bool := leP s.2 t.2
theorem rop_sort {g : G} : ROpN g (rSortDt g.K) sortD := by
  intro ρ σ st H xs ds d Q e s rs k
  unfold sortD at e
  split at e
  · rename_i es
    obtain ⟨v, rfl, r⟩ := rs.one
    obtain ⟨a, ys, rfl, ha, _, ra⟩ := r.inv_lst
    cases e1 : mapO (toP 20) es with
    | none => simp only [e1] at e; cases e
    | some ps =>
      simp only [e1] at e
      split at e
      · rename_i hc
        obtain ⟨c1, c2⟩ := hc
        cases Option.some.inj e
        obtain ⟨b1, b2, b3⟩ := toP_all e1 ra
        refine ⟨a, ys, ps, rfl, SqL.of ha, b1, by omega, fun p hp q hq => List.all_eq_true.mp (List.all_eq_true.mp c1 p hp) q hq, ?_, ?_⟩
        · rcases c2 with c2 | c2
          · refine .inl fun p hp => ?_
            have h := List.all_eq_true.mp c2 p hp
            unfold shapeB at h
            split at h
            · exact ⟨_, _, rfl⟩
            · cases h
          · refine .inr fun p hp => ?_
            have h := List.all_eq_true.mp c2 p hp
            exact ⟨fun z => (by rw [z] at h; cases h), fun xs z => by rw [z] at h; cases h⟩
        · have hT : (ys.zip (es.zip ps)).length = ys.length := by
            rw [List.length_zip, List.length_zip, ra.1, ← dpAll_len b1, ra.1, Nat.min_self, Nat.min_self]
          have m1 : ((ys.zip (es.zip ps)).mergeSort r3).map (fun t => (t.1, t.2.2)) = (ys.zip ps).mergeSort (PySem.W.dataLe false fun b => b.2) := by
            rw [PySem.W.sort_maps (r := r3) (s := PySem.W.dataLe false fun b : V × PyData => b.2) (fun t : V × D × PyData => (t.1, t.2.2)) fun _ _ _ _ => rfl, zip_13 ra.1]
          have m2 : ((ys.zip (es.zip ps)).mergeSort r3).map (fun t => t.2) = (es.zip ps).mergeSort leP := by
            rw [PySem.W.sort_maps (r := r3) (s := leP) (fun t : V × D × PyData => t.2) fun _ _ _ _ => rfl, zip_23 ra.1]
          have rr : RpA g (Vol ρ st) H (((ys.zip ps).mergeSort (PySem.W.dataLe false fun b => b.2)).map (·.1)) ((sortL leP (es.zip ps)).map (·.1)) := by
            rw [sortL_is leP_total, ← m1, ← m2, List.map_map, List.map_map]
            refine rpA_map _ _ fun t ht => ?_
            exact zip3 ra t ((List.mergeSort_perm _ _).mem_iff.mp ht)
          exact fresh_lst s rr k
      · cases e
  · cases e
end RE
set_option maxHeartbeats 2000000
namespace RE
open PySem PySem.Spec PyProof.Rows L2
inductive SO where
  | nx (st : S) | rt (d : D) (st : S) | bk (st : S) | ct (st : S) | er (c : Nat) (vs : List D) (st : S) | no
abbrev MS := S → SO
def bindS {α : Type} (o : O α) (f : α → S → SO) : SO := match o with
  | .ok a st => f a st
  | .er c vs st => .er c vs st
  | .no => .no
def seqS (o : SO) (f : MS) : SO := match o with
  | .nx st => f st
  | o => o
def OutS (g : G) (ER : EK) (ρ : Rh) (st : S) (H : Hp) (o : SO) (E : Ends) : Prop := match o with
  | .nx st' => ∀ ρ' σ' H', Ext ρ st H ρ' st' H' → Sim g ρ' σ' H' st' → E.nx σ' H'
  | .rt d st' => ∀ ρ' σ' H' v, Ext ρ st H ρ' st' H' → Sim g ρ' σ' H' st' → Rp g (Vol ρ' st') H' v d → E.rt v H'
  | .bk st' => ∀ ρ' σ' H', Ext ρ st H ρ' st' H' → Sim g ρ' σ' H' st' → E.bk σ' H'
  | .ct st' => ∀ ρ' σ' H', Ext ρ st H ρ' st' H' → Sim g ρ' σ' H' st' → E.ct σ' H'
  | .er c vs st' => ∀ ρ' H', Ext ρ st H ρ' st' H' → ER c vs ρ' st' H'
  | .no => False
def tMS (g : G) (ER : EK) (ms : MS) : TS := fun E σ H => ∃ ρ st, Sim g ρ σ H st ∧ OutS g ER ρ st H (ms st) E
theorem PSi {X : Cx} {e : Stmt} {t t' : TS} (p : PS X e t) (h : ∀ E σ H, t' E σ H → t E σ H) : PS X e t' := ⟨fun pq s σ H E I q => p.run pq s σ H E I (h _ _ _ q)⟩
theorem PSsi {X : Cx} {e : List Stmt} {t t' : TS} (p : PSs X e t) (h : ∀ E σ H, t' E σ H → t E σ H) : PSs X e t' := ⟨fun pq s σ H E I q => p.run pq s σ H E I (h _ _ _ q)⟩
section
variable {g : G} {ER : EK} {ρ ρ1 : Rh} {st st1 : S} {H H1 : Hp} {E : Ends}
theorem OutS.later {o : SO} (h : OutS g ER ρ st H o E) (e : Ext ρ st H ρ1 st1 H1) : OutS g ER ρ1 st1 H1 o E := by
  cases o with
  | nx st' => exact fun ρ' σ' H' e' s' => h ρ' σ' H' (e.trans e') s'
  | rt d st' => exact fun ρ' σ' H' v e' s' r => h ρ' σ' H' v (e.trans e') s' r
  | bk st' => exact fun ρ' σ' H' e' s' => h ρ' σ' H' (e.trans e') s'
  | ct st' => exact fun ρ' σ' H' e' s' => h ρ' σ' H' (e.trans e') s'
  | er c vs st' => exact fun ρ' H' e' => h ρ' H' (e.trans e')
  | no => exact h
theorem OutS.bind {α : Type} {o : O α} {f : α → S → SO} (h : OutS g ER ρ st H (bindS o f) E) : OutC ER ρ st H o fun a st' ρ' H' => OutS g ER ρ' st' H' (f a st') E := by
  cases o with
  | ok a st' => exact fun ρ' H' e => OutS.later h e
  | er c vs st' => exact h
  | no => exact h
theorem OutS.seq {o : SO} {f : MS} (h : OutS g ER ρ st H (seqS o f) E) : OutS g ER ρ st H o { E with nx := fun σ' H' => tMS g ER f E σ' H' } := by
  cases o with
  | nx st' => exact fun ρ' σ' H' e s => ⟨ρ', st', s, OutS.later h e⟩
  | rt d st' => exact h
  | bk st' => exact h
  | ct st' => exact h
  | er c vs st' => exact h
  | no => exact h
end
def S.put (st : S) (i : Nat) (s : Sl) : S := { st with sl := st.sl.set i s }
section
variable {g : G} {ρ : Rh} {σ : L2.St} {st : S} {H : Hp}
theorem Sim.put (s : Sim g ρ σ H st) (i : Nat) {v : V} {sl : Sl} (h : SlOk g (Vol ρ st) ρ H (some v) sl) : Sim g ρ (σ.set i (some v)) H (st.put i sl) where
  toCells := ⟨s.uok, s.clen, s.cell, s.inj, s.out⟩
  len := by show (σ.set i (some v)).length = (st.sl.set i sl).length; rw [List.length_set, List.length_set, s.len]
  slot := fun j sl' v' h1 h2 => by
    have h1 : (st.sl.set i sl)[j]? = some sl' := h1
    rw [List.getElem?_set] at h1 h2
    by_cases e : i = j
    · rw [if_pos e] at h1 h2
      split at h1
      · split at h2
        · cases Option.some.inj h1
          cases Option.some.inj h2
          exact h
        · cases h2
      · cases h1
    · rw [if_neg e] at h1 h2
      exact s.slot j sl' v' h1 h2
theorem Ext.put (i : Nat) (sl : Sl) : Ext ρ st H ρ (st.put i sl) H := ⟨fun _ _ h n => ⟨h, n⟩, fun _ _ h => h, rfl, fun _ _ => rfl, fun _ h => .inl h, fun _ h => h⟩
end
def mAsg (i : Nat) (m : M) : MS := fun st => bindS (m st) fun d st1 => .nx (st1.put i (.d d))
def mRet (m : M) : MS := fun st => bindS (m st) fun d st1 => .rt d st1
def mDrop (m : M) : MS := fun st => bindS (m st) fun _ st1 => .nx st1
def mIf (t : MT) (a b : MS) : MS := fun st => bindS (t st) fun k st1 => if k = true then a st1 else b st1
def mSeq (a b : MS) : MS := fun st => seqS (a st) b
def mSkip : MS := fun st => .nx st
section
variable {X : Cx} {g : G} {ER : EK} {pos pos' : Pos}
theorem ps_mAsg {i : Nat} {x : Str} {e : Expr} {m : M} (hN : X.N.Nodup) (hi : X.N[i]? = some x) (hx : Loc X.env.scope x) (he : PE X e (tM g ER m)) (hs : swapsWith e (some (.Name x pos')) pos.line X.env = pure false := by rfl) (hf : X.fn x = true ∨ X.env.scope.names.lookup x = some .local := by first | exact .inl rfl | exact .inr rfl) :
    PS X (.Assign [.Name x pos'] e pos) (tMS g ER (mAsg i m)) := by
  refine PSi (ps_set hN hi hx he hs hf) fun E σ H h => ?_
  obtain ⟨ρ, st, s, h⟩ := h
  refine ⟨ρ, st, s, (OutS.bind h).mono fun d st1 ρ1 H1 _ h1 s1 v rv => ?_⟩
  exact h1 ρ1 _ H1 (Ext.put i _) (s1.put i ⟨v, rfl, rv⟩)
theorem ps_mRet {e : Expr} {m : M} (he : PE X e (tM g ER m)) : PS X (.Return (some e) pos) (tMS g ER (mRet m)) := by
  refine PSi (ps_ret he) fun E σ H h => ?_
  obtain ⟨ρ, st, s, h⟩ := h
  refine ⟨ρ, st, s, (OutS.bind h).mono fun d st1 ρ1 H1 _ h1 s1 v rv => ?_⟩
  exact h1 ρ1 σ H1 v Ext.refl s1 rv
theorem ps_mDrop {e : Expr} {m : M} (he : PE X e (tM g ER m)) (hs : swapsWith e none pos.line X.env = pure false := by rfl) : PS X (.Expr e pos) (tMS g ER (mDrop m)) := by
  refine PSi (ps_expr he hs) fun E σ H h => ?_
  obtain ⟨ρ, st, s, h⟩ := h
  refine ⟨ρ, st, s, (OutS.bind h).mono fun d st1 ρ1 H1 _ h1 s1 v rv => ?_⟩
  exact h1 ρ1 σ H1 Ext.refl s1
theorem ps_mIf {c : Expr} {a b : List Stmt} {t : MT} {ma mb : MS} (hc : PT X c (tMT g ER t)) (ha : PSs X a (tMS g ER ma)) (hb : PSs X b (tMS g ER mb)) : PS X (.If c a b pos) (tMS g ER (mIf t ma mb)) := by
  refine PSi (ps_if hc ha hb) fun E σ H h => ?_
  obtain ⟨ρ, st, s, h⟩ := h
  refine ⟨ρ, st, s, (OutS.bind h).mono fun k st1 ρ1 H1 _ h1 s1 => ?_⟩
  cases k with
  | true => exact ⟨ρ1, st1, s1, h1⟩
  | false => exact ⟨ρ1, st1, s1, h1⟩
theorem pss_mCons {a : Stmt} {r : List Stmt} {ma mr : MS} (ha : PS X a (tMS g ER ma)) (hr : PSs X r (tMS g ER mr)) : PSs X (a :: r) (tMS g ER (mSeq ma mr)) := by
  refine PSsi (pss_cons ha hr) fun E σ H h => ?_
  obtain ⟨ρ, st, s, h⟩ := h
  exact ⟨ρ, st, s, OutS.seq h⟩
theorem pss_mOne {a : Stmt} {ma : MS} (ha : PS X a (tMS g ER ma)) : PSs X [a] (tMS g ER ma) := pss_one ha
theorem pss_mNil : PSs X [] (tMS g ER mSkip) := by
  refine PSsi pss_nil fun E σ H h => ?_
  obtain ⟨ρ, st, s, h⟩ := h
  exact h ρ σ H Ext.refl s
/-- a statement that is never come to -/
theorem ps_mNo {e : Stmt} : PS X e (tMS g ER fun _ => .no) := ⟨fun pq s σ H E I h => by
  obtain ⟨ρ, st, _, h⟩ := h
  exact h.elim⟩
end
end RE
set_option maxHeartbeats 2000000
namespace RE
open PySem PySem.Spec PyProof.Rows L2
/-- an error of the class c with the fields vs: what is told of it behind it -/
def ErrIs (g : G) (A : Addr → Prop) (H : Hp) (c : Nat) (vs : List D) (cls : Value) (d : Option Addr) : Prop :=
  cls = .ref (g.C c) ∧ ((g.fld c = [] ∧ vs = [] ∧ d = none) ∨ ∃ dd nm x v, d = some dd ∧ H dd = some (.xd [(nm, x)]) ∧ g.fld c = [nm] ∧ vs = [v] ∧ Rp g A H x v ∧ ¬ A dd)
def erOf (g : G) (E : XK) : EK := fun c vs ρ' st' H' => ∀ cls d, Cells g ρ' H' st' → ErrIs g (Vol ρ' st') H' c vs cls d → E cls d H'
def erNo : EK := fun _ _ _ _ _ => False
def OutF (g : G) (ρ : Rh) (st : S) (H : Hp) (o : SO) (Q : VK) (E : XK) : Prop := match o with
  | .rt d st' => ∀ ρ' H' v, Ext ρ st H ρ' st' H' → Cells g ρ' H' st' → Rp g (Vol ρ' st') H' v d → Q v H'
  | .nx st' => ∀ ρ' H', Ext ρ st H ρ' st' H' → Cells g ρ' H' st' → Q .non H'
  | .er c vs st' => ∀ ρ' H', Ext ρ st H ρ' st' H' → erOf g E c vs ρ' st' H'
  | _ => False
def S.start (as : List Sl) (n : Nat) (ce : List Ce) : S := ⟨as ++ List.replicate (n - as.length) .no, ce⟩
def spF (g : G) (np n : Nat) (ms : MS) : Sp := fun vs H Q E => vs.length = np ∧ ∃ (ρ : Rh) (as : List Sl) (ce : List Ce), as.length = np ∧ Sim g ρ (vs.map some) H ⟨as, ce⟩ ∧ OutF g ρ ⟨as, ce⟩ H (ms (S.start as n ce)) Q E
theorem Vol.ce {ρ : Rh} {st st0 : S} (h : st.ce = st0.ce) (a : Addr) : Vol ρ st a ↔ Vol ρ st0 a := by unfold Vol; rw [h]
theorem Ext.ce {ρ ρ' : Rh} {st st0 st' : S} {H H' : Hp} (e : Ext ρ st H ρ' st' H') (h : st.ce = st0.ce) : Ext ρ st0 H ρ' st' H' :=
  ⟨fun a o h1 n => e.keep a o h1 fun v => n ((Vol.ce h a).mp v), e.pre, e.same, e.un, fun a v => (e.more a v).imp (Vol.ce h a).mp id, e.mono⟩
section
variable {P : Program} {w : World} {base : Heap} {K : PySem.W.Frag} {mg : Str → Option Value}
theorem sim_start {g : G} {ρ : Rh} {H : Hp} {vs : List V} {N : List Str} {as : List Sl} {ce : List Ce} (s : Sim g ρ (vs.map some) H ⟨as, ce⟩) (hn : vs.length ≤ N.length) : Sim g ρ (start N vs) H (S.start as N.length ce) where
  toCells := ⟨s.uok, s.clen, s.cell, s.inj, s.out⟩
  len := by
    have h := s.len
    rw [List.length_map] at h
    have h : vs.length = as.length := h
    show (vs.map some ++ List.replicate (N.length - vs.length) none).length = (as ++ List.replicate (N.length - as.length) Sl.no).length
    simp [h]
  slot := fun i sl v h1 h2 => by
    have h : vs.length = as.length := by have h := s.len; rw [List.length_map] at h; exact h
    have h1 : (as ++ List.replicate (N.length - as.length) Sl.no)[i]? = some sl := h1
    have h2 : (vs.map some ++ List.replicate (N.length - vs.length) none)[i]? = some v := h2
    by_cases hi : i < as.length
    · rw [List.getElem?_append_left hi] at h1
      rw [List.getElem?_append_left (by rw [List.length_map, h]; exact hi)] at h2
      exact s.slot i sl v h1 h2
    · rw [List.getElem?_append_right (by omega), List.getElem?_replicate] at h1
      split at h1
      · cases Option.some.inj h1
        trivial
      · cases h1
/-- a def, by its body's reading -/
theorem okF {g : G} {x qual : Str} {st : Stmt} {f : Addr} {fd : FuncData} {N ps : List Str} {k np n : Nat} {ms : MS} (F : Fun K x qual st f fd) (S' : FnScope N ps (defScope st)) (hp : ps.length = np) (hN : N.length = n) (hpn : np ≤ n)
    (hbody : ∀ (cdv : Value) (A : Around) (outer : List Env) (s : Shared) (H : Hp) (E : XK), Room k (A.deeper (envOfC qual (defScope st) s.heap.objs.size f cdv)) →
      PSs (cxOf (L2.CX P w) P w K mg base N qual (defScope st) f cdv A outer s H E) (defBody st) (tMS g (erOf g E) ms)) : FnOk P w K mg base (L2.CX P w) (k + 1) f fd ps (spF g np n ms) := by
  refine F.okX S' (fun vs H Q E h => by rw [hp]; exact h.1) fun cdv A outer s H vs Q E hr h => ⟨_, hbody cdv A outer s H E hr, ?_⟩
  obtain ⟨hl, ρ, as, ce, ha, sm, ho⟩ := h
  subst hN
  refine ⟨ρ, S.start as N.length ce, sim_start sm (by omega), ?_⟩
  cases e : ms (S.start as N.length ce) with
  | nx st' => rw [e] at ho; exact fun ρ' σ' H' x s' => ho ρ' H' (x.ce rfl) s'.toCells
  | rt d st' => rw [e] at ho; exact fun ρ' σ' H' v x s' r => ho ρ' H' v (x.ce rfl) s'.toCells r
  | bk st' => rw [e] at ho; exact ho.elim
  | ct st' => rw [e] at ho; exact ho.elim
  | er c vs' st' => rw [e] at ho; exact fun ρ' H' x => ho ρ' H' (x.ce rfl)
  | no => rw [e] at ho; exact ho.elim
end
/-- what a def gives for such data -/
def runD (ms : MS) (n : Nat) (ds : List D) (st : S) : O D := match ms (S.start (ds.map .d) n []) with
  | .rt d _ => .ok d st
  | .nx _ => .ok .non st
  | .er c vs _ => .er c vs st
  | _ => .no
def mCall (ms : MS) (n : Nat) (dfl : List D) (ma : MA) : M := fun st => bindO (ma st) fun ds st1 => runD ms n (ds ++ dfl) st1
/-- what the callers' own cells are to the callee -/
theorem sim_args {g : G} {ρ : Rh} {σ : L2.St} {H : Hp} {st : S} {vs : List V} {ds : List D} (s : Sim g ρ σ H st) (r : RpA g (Vol ρ st) H vs ds) : Sim g ⟨[], Vol ρ st⟩ (vs.map some) H ⟨ds.map .d, []⟩ where
  uok := fun a h => s.volT h
  clen := rfl
  cell := fun k c a h => by simp at h
  inj := fun j k c c' a h => by simp at h
  out := fun k c a h => by simp at h
  len := by show (vs.map some).length = (ds.map Sl.d).length; rw [List.length_map, List.length_map, r.1]
  slot := fun i sl v h1 h2 => by
    have h1 : (ds.map Sl.d)[i]? = some sl := h1
    rw [List.getElem?_map] at h1 h2
    obtain ⟨d, hd, rfl⟩ := Option.map_eq_some_iff.mp h1
    obtain ⟨u, hu, rfl⟩ := Option.map_eq_some_iff.mp h2
    refine ⟨u, rfl, (r.2 i u d hu hd).ext fun a o h n => ⟨h, fun v => n ?_⟩⟩
    rcases v with v | ⟨k, c, hc, _⟩
    · exact v
    · simp at hc
theorem CeOk.at {g : G} {ad : List Addr} {A A' : Addr → Prop} {H H' : Hp} {a : Addr} {c : Ce} (h : CeOk g A ad H a c) (ha : H' a = H a) (k : ∀ a o, H a = some o → ¬ A a → H' a = some o ∧ ¬ A' a) : CeOk g A' ad H' a c := h.ext ha k
/-- behind a callee that was told not to speak of our cells, our state stands as it stood -/
theorem back_call {g : G} {ρ ρ' : Rh} {σ : L2.St} {H H' : Hp} {st st0 st' : S} (s : Sim g ρ σ H st) (h0 : st0.ce = []) (e : Ext ⟨[], Vol ρ st⟩ st0 H ρ' st' H') : Ext ρ st H ρ st H' ∧ Sim g ρ σ H' st ∧ ∀ a, Vol ρ st a → Vol ρ' st' a := by
  have nv : ∀ a, ¬ Vol ρ st a → ¬ Vol ⟨[], Vol ρ st⟩ st0 a := fun a n v => by
    rcases v with v | ⟨k, c, hc, _⟩
    · exact n v
    · rw [h0] at hc; simp at hc
  have k : ∀ a o, H a = some o → ¬ Vol ρ st a → H' a = some o ∧ ¬ Vol ρ st a := fun a o h n => ⟨(e.keep a o h (nv a n)).1, n⟩
  have un : ∀ a, Vol ρ st a → H' a = H a := fun a v => e.un a v
  refine ⟨⟨k, fun _ _ h => h, rfl, fun a h => un a (.inl h), fun a h => .inl h, e.mono⟩, ?_, fun a v => ?_⟩
  · refine ⟨⟨fun a h => ?_, s.clen, fun j c a h1 h2 => ?_, s.inj, s.out⟩, s.len, fun i sl v h1 h2 => ?_⟩
    · obtain ⟨o, ho, nt⟩ := s.uok a h
      exact ⟨o, by rw [un a (.inl h)]; exact ho, nt⟩
    · by_cases hc : c.alive = true
      · exact (s.cell j c a h1 h2).ext (un a (.inr ⟨j, c, h1, hc, h2⟩)) k
      · cases c <;> first | trivial | exact absurd rfl hc
    · have q := s.slot i sl v h1 h2
      cases sl with
      | no => trivial
      | d x => obtain ⟨u, eu, r⟩ := q; exact ⟨u, eu, r.ext k⟩
      | rf j => exact q
  · left
    rw [e.same]
    exact v
theorem Rp.back {g : G} {A A' : Addr → Prop} {H : Hp} {v : V} {d : D} (r : Rp g A' H v d) (h : ∀ a, A a → A' a) : Rp g A H v d := r.ext fun a o e n => ⟨e, fun z => n (h a z)⟩
section
variable {X : Cx} {g : G} {ER : EK} {CX : CXT} {k n np : Nat} {f : Addr} {fd : FuncData} {ps : List Str} {ms : MS} {dfl : List D} {dvs : List V} {ds : List Value} {E : XK} {x : Str} {p pos : Pos} {e : Expr} {es : List Expr} {ma : MA}
theorem call_read (hdf : ∀ A H, RpA g A H dvs dfl) (hnp : ∀ vs : List V, (vs.length = np) ↔ (vs.length = ps.length)) (hE : ∀ c vs ρ st H cls d, ER c vs ρ st H → Cells g ρ H st → ErrIs g (Vol ρ st) H c vs cls d → E cls d H)
    {ρ : Rh} {σ : L2.St} {st : S} {H : Hp} {vs : List V} {xs : List D} {Q : VK} (s : Sim g ρ σ H st) (r : RpA g (Vol ρ st) H vs xs) (hl : (vs ++ dvs).length = np)
    (h : OutC ER ρ st H (runD ms n (xs ++ dfl) st) fun d st' ρ' H' => Sim g ρ' σ H' st' → ∀ v, Rp g (Vol ρ' st') H' v d → Q v H') : spF g np n ms (vs ++ dvs) H Q E := by
  have rr := r.append (hdf (Vol ρ st) H)
  refine ⟨hl, ⟨[], Vol ρ st⟩, (xs ++ dfl).map .d, [], by rw [List.length_map, ← rr.1]; exact hl, sim_args s rr, ?_⟩
  unfold runD at h
  cases eo : ms (S.start ((xs ++ dfl).map .d) n []) with
  | nx st' =>
    rw [eo] at h
    intro ρ' H' x c
    obtain ⟨b1, b2, b3⟩ := back_call s rfl x
    exact h ρ H' b1 b2 .non .non
  | rt d st' =>
    rw [eo] at h
    intro ρ' H' v x c r'
    obtain ⟨b1, b2, b3⟩ := back_call s rfl x
    exact h ρ H' b1 b2 v (r'.back b3)
  | bk st' => rw [eo] at h; exact h.elim
  | ct st' => rw [eo] at h; exact h.elim
  | no => rw [eo] at h; exact h.elim
  | er c vs' st' =>
    rw [eo] at h
    intro ρ' H' x cls d cc ei
    obtain ⟨b1, b2, b3⟩ := back_call s rfl x
    refine hE c vs' ρ st H' cls d (h ρ H' b1) b2.toCells ?_
    obtain ⟨q1, q2⟩ := ei
    refine ⟨q1, q2.imp id fun ⟨dd, nm, y, v, z1, z2, z3, z4, z5, z6⟩ => ⟨dd, nm, y, v, z1, z2, z3, z4, z5.back b3, fun q => z6 (b3 _ q)⟩⟩
theorem pe_mCall (F : FnOk X.prog X.w X.K X.mg X.base CX k f fd ps (spF g np n ms)) (hr : Room k X.A) (hg : Gl X x) (hm : X.mg x = some (.ref f)) (hk : PySem.W.keepIn X.K (.ref f) = true) (hb : Binds X.K fd ps ds) (hd : Vals dvs ds) (hx : Passes CX X E)
    (hdf : ∀ A H, RpA g A H dvs dfl) (hE : ∀ c vs ρ st H cls d, ER c vs ρ st H → Cells g ρ H st → ErrIs g (Vol ρ st) H c vs cls d → E cls d H) (ha : PA X (e :: es) (tMA g ER ma)) (hlen : ∀ st xs st', ma st = .ok xs st' → xs.length + dfl.length = np) (hps : ps.length = np) (hdb : (x == ("__debug__" : Str)) = false := by decide) (he : starEach (e :: es) X.env = (false, eval e X.env) :: starEach es X.env := by rfl) (hpl : (backTo pos (starEach es X.env)).any (·.1) = false := by rfl) :
    PE X (.Call (.Name x p) (e :: es) [] pos) (tM g ER (mCall ms n dfl ma)) := by
  refine PEi (pe_call F hr hg hm hk hb hd hx ha hdb he hpl) fun σ H Q h => ?_
  obtain ⟨ρ, st, s, h⟩ := h
  refine ⟨ρ, st, s, ?_⟩
  have hh := OutC.bind h
  cases ea : ma st with
  | no => rw [ea] at hh; exact hh
  | er c vs st' => rw [ea] at hh; exact hh
  | ok xs st1 =>
    rw [ea] at hh
    intro ρ1 H1 x1 s1 vs rs
    refine call_read hdf (fun vs => by rw [hps]) hE s1 rs ?_ (hh ρ1 H1 x1)
    have h1 := hlen st xs st1 ea
    have h2 := (hdf (Vol ρ1 st1) H1).1
    rw [List.length_append, rs.1, h2]
    exact h1
end
end RE
set_option maxHeartbeats 2000000
namespace RE
open PySem PySem.Spec PyProof.Rows L2
abbrev MI := S → O (List D)
/-- J gives, in whatever comes of this state, the items ds one by one -/
def ItOk (g : G) (ρ0 : Rh) (st0 : S) (H0 : Hp) (J : It) (ds : List D) : Prop := ∀ (A : Addr → Prop) (H : Hp), (∀ a o, H0 a = some o → ¬ Vol ρ0 st0 a → H a = some o ∧ ¬ A a) → (∀ a, A a → ∃ o, H a = some o ∧ NT o) → ∀ i : Nat,
  (∀ d, ds[i]? = some d → J.go i H ∧ ∀ x H', J.yld i H x H' → (H' = H ∨ ∃ p o, H p = none ∧ H' = upd H p o) ∧ Rp g A H' x d) ∧ (ds.length ≤ i → J.stop i H)
def tMI (g : G) (ER : EK) (mi : MI) : TI := fun σ H R => ∃ ρ st, Sim g ρ σ H st ∧ OutC ER ρ st H (mi st) fun ds st' ρ' H' => Sim g ρ' σ H' st' → ∀ J, ItOk g ρ' st' H' J ds → R J H'
theorem PIi {X : Cx} {tg e : Expr} {t t' : TI} (p : PI X tg e t) (h : ∀ σ H R, t' σ H R → t σ H R) : PI X tg e t' := ⟨fun pq s σ H R I q => p.run pq s σ H R I (h _ _ _ q)⟩
theorem PI.or {X : Cx} {tg e : Expr} {t u : TI} (p : PI X tg e t) (q : PI X tg e u) : PI X tg e (fun σ H R => t σ H R ∨ u σ H R) := ⟨fun pq s σ H R I h => h.elim (p.run pq s σ H R I) (q.run pq s σ H R I)⟩
section
variable {g : G} {ρ : Rh} {st : S} {H : Hp} {a : Addr} {xs : List V} {ds : List D}
theorem nvolA {A : Addr → Prop} {H : Hp} {p : Addr} (hA : ∀ a, A a → ∃ o, H a = some o ∧ NT o) (hp : H p = none) : ¬ A p := fun v => by
  obtain ⟨o, h, _⟩ := hA p v
  rw [hp] at h; cases h
theorem keepA {A : Addr → Prop} {H : Hp} {p : Addr} {o : HO} (hp : H p = none) : ∀ a u, H a = some u → ¬ A a → upd H p o a = some u ∧ ¬ A a := fun a u h n => ⟨by rw [upd_ne (ne_of_none h hp)]; exact h, n⟩
theorem it_list (h : H a = some (.lst xs)) (n : ¬ Vol ρ st a) (r : RpA g (Vol ρ st) H xs ds) : ItOk g ρ st H (Itl g.K a) ds := fun A H' k hA i => by
  have hs : SqL g.K H' a xs := SqL.of (k a _ h n).1
  refine ⟨fun d hd => ?_, fun hl => ⟨xs, hs, by rw [r.1]; exact hl⟩⟩
  obtain ⟨x, hx, rx⟩ := r.get hd
  refine ⟨⟨xs, x, hs, hx⟩, fun y H'' hy => ⟨.inl hy.1, ?_⟩⟩
  obtain ⟨e1, e2⟩ := hy
  have e3 := e2 xs hs
  rw [hx] at e3
  cases Option.some.inj e3
  rw [e1]
  exact rx.ext k
theorem it_tup (h : (H a = some (.tup xs) ∧ ¬ Vol ρ st a) ∨ KT g.K (Vol ρ st) H a xs) (r : RpA g (Vol ρ st) H xs ds) : ItOk g ρ st H (Itt g.K a) ds := fun A H' k hA i => by
  have hs : SqT g.K H' a xs := by
    rcases h with ⟨h, n⟩ | h
    · exact SqT.of (k a _ h n).1
    · exact (h.ext k).sq
  refine ⟨fun d hd => ?_, fun hl => ⟨xs, hs, by rw [r.1]; exact hl⟩⟩
  obtain ⟨x, hx, rx⟩ := r.get hd
  refine ⟨⟨xs, x, hs, hx⟩, fun y H'' hy => ⟨.inl hy.1, ?_⟩⟩
  obtain ⟨e1, e2⟩ := hy
  have e3 := e2 xs hs
  rw [hx] at e3
  cases Option.some.inj e3
  rw [e1]
  exact rx.ext k
theorem it_range {lo : Int} {n : Nat} : ItOk g ρ st H (Itr lo n) ((List.range n).map fun i => D.int (lo + (i : Nat))) := fun A H' k hA i => by
  refine ⟨fun d hd => ?_, fun hl => by rw [List.length_map, List.length_range] at hl; exact hl⟩
  rw [List.getElem?_map] at hd
  obtain ⟨j, hj, rfl⟩ := Option.map_eq_some_iff.mp hd
  obtain ⟨h1, h2⟩ := List.getElem?_eq_some_iff.mp hj
  rw [List.length_range] at h1
  rw [List.getElem_range] at h2
  subst h2
  exact ⟨h1, fun y H'' hy => ⟨.inl hy.1, by rw [hy.2]; exact .int _⟩⟩
def enumFrom : Nat → List D → List D
  | _, [] => []
  | n, d :: ds => .tup [.int n, d] :: enumFrom (n + 1) ds
theorem enumFrom_len : ∀ (n : Nat) (ds : List D), (enumFrom n ds).length = ds.length
  | _, [] => rfl
  | n, d :: ds => by show (enumFrom (n + 1) ds).length + 1 = ds.length + 1; rw [enumFrom_len]
theorem enumFrom_get : ∀ (ds : List D) (n i : Nat) (d : D), (enumFrom n ds)[i]? = some d → ∃ x, ds[i]? = some x ∧ d = .tup [.int ((n + i : Nat) : Int), x]
  | [], n, i, d, h => by simp [enumFrom] at h
  | x :: ds, n, 0, d, h => ⟨x, rfl, (Option.some.inj h).symm⟩
  | x :: ds, n, i + 1, d, h => by
    obtain ⟨y, h1, h2⟩ := enumFrom_get ds (n + 1) i d h
    refine ⟨y, h1, ?_⟩
    rw [h2]
    have : n + 1 + i = n + (i + 1) := by omega
    rw [this]
theorem it_enum (h : H a = some (.lst xs)) (n : ¬ Vol ρ st a) (r : RpA g (Vol ρ st) H xs ds) : ItOk g ρ st H (Ite g.K a) (enumFrom 0 ds) := fun A H' k hA i => by
  have hs : SqL g.K H' a xs := SqL.of (k a _ h n).1
  refine ⟨fun d hd => ?_, fun hl => ⟨xs, hs, by rw [r.1, ← enumFrom_len 0 ds]; exact hl⟩⟩
  obtain ⟨z, hz, rfl⟩ := enumFrom_get ds 0 i d hd
  obtain ⟨x, hx, rx⟩ := r.get hz
  refine ⟨⟨xs, x, hs, hx⟩, fun y H'' hy => ?_⟩
  obtain ⟨T, x', rfl, hT, rfl, e2⟩ := hy
  have e3 := e2 xs hs
  rw [hx] at e3
  cases Option.some.inj e3
  refine ⟨.inr ⟨T, _, hT, rfl⟩, ?_⟩
  rw [Nat.zero_add]
  exact Rp.tup' upd_same (nvolA hA hT) (RpA.cons (.int _) (RpA.cons ((rx.ext k).ext (keepA hT)) RpA.nil))
def zipD : List D → List D → List D
  | d :: ds, e :: es => .tup [d, e] :: zipD ds es
  | _, _ => []
theorem zipD_get : ∀ (ds es : List D) (i : Nat) (d : D), (zipD ds es)[i]? = some d → ∃ x y, ds[i]? = some x ∧ es[i]? = some y ∧ d = .tup [x, y]
  | [], es, i, d, h => by simp [zipD] at h
  | x :: ds, [], i, d, h => by simp [zipD] at h
  | x :: ds, y :: es, 0, d, h => ⟨x, y, rfl, rfl, (Option.some.inj h).symm⟩
  | x :: ds, y :: es, i + 1, d, h => zipD_get ds es i d h
theorem zipD_len : ∀ (ds es : List D) (i : Nat), (zipD ds es).length ≤ i → ds.length ≤ i ∨ es.length ≤ i
  | [], es, i, _ => .inl (Nat.zero_le _)
  | x :: ds, [], i, _ => .inr (Nat.zero_le _)
  | x :: ds, y :: es, 0, h => by simp [zipD] at h
  | x :: ds, y :: es, i + 1, h => by
    have h' : (zipD ds es).length + 1 ≤ i + 1 := h
    rcases zipD_len ds es i (by omega) with q | q
    · left; rw [List.length_cons]; omega
    · right; rw [List.length_cons]; omega
variable {b : Addr} {ys : List V} {es : List D}
theorem it_zipL (h : H a = some (.lst xs)) (n : ¬ Vol ρ st a) (r : RpA g (Vol ρ st) H xs ds) (h' : H b = some (.lst ys)) (n' : ¬ Vol ρ st b) (r' : RpA g (Vol ρ st) H ys es) : ItOk g ρ st H (Itz g.K a b) (zipD ds es) := fun A H' k hA i => by
  have hs : SqL g.K H' a xs := SqL.of (k a _ h n).1
  have hs' : SqL g.K H' b ys := SqL.of (k b _ h' n').1
  refine ⟨fun d hd => ?_, fun hl => ⟨xs, ys, hs, hs', by rw [r.1, r'.1]; exact zipD_len ds es i hl⟩⟩
  obtain ⟨z, u, hz, hu, rfl⟩ := zipD_get ds es i d hd
  obtain ⟨x, hx, rx⟩ := r.get hz
  obtain ⟨y, hy, ry⟩ := r'.get hu
  refine ⟨⟨xs, ys, x, y, hs, hs', hx, hy⟩, fun v H'' hv => ?_⟩
  obtain ⟨T, x', y', rfl, hT, rfl, e2, e2'⟩ := hv
  have e3 := e2 xs hs
  have e3' := e2' ys hs'
  rw [hx] at e3
  rw [hy] at e3'
  cases Option.some.inj e3
  cases Option.some.inj e3'
  refine ⟨.inr ⟨T, _, hT, rfl⟩, ?_⟩
  exact Rp.tup' upd_same (nvolA hA hT) (RpA.cons ((rx.ext k).ext (keepA hT)) (RpA.cons ((ry.ext k).ext (keepA hT)) RpA.nil))
theorem it_zipT (h : (H a = some (.tup xs) ∧ ¬ Vol ρ st a) ∨ KT g.K (Vol ρ st) H a xs) (r : RpA g (Vol ρ st) H xs ds) (h' : (H b = some (.tup ys) ∧ ¬ Vol ρ st b) ∨ KT g.K (Vol ρ st) H b ys) (r' : RpA g (Vol ρ st) H ys es) : ItOk g ρ st H (RZ.ItzT g.K a b) (zipD ds es) := fun A H' k hA i => by
  have hs : SqT g.K H' a xs := by
    rcases h with ⟨h, n⟩ | h
    · exact SqT.of (k a _ h n).1
    · exact (h.ext k).sq
  have hs' : SqT g.K H' b ys := by
    rcases h' with ⟨h, n⟩ | h
    · exact SqT.of (k b _ h n).1
    · exact (h.ext k).sq
  refine ⟨fun d hd => ?_, fun hl => ⟨xs, ys, hs, hs', by rw [r.1, r'.1]; exact zipD_len ds es i hl⟩⟩
  obtain ⟨z, u, hz, hu, rfl⟩ := zipD_get ds es i d hd
  obtain ⟨x, hx, rx⟩ := r.get hz
  obtain ⟨y, hy, ry⟩ := r'.get hu
  refine ⟨⟨xs, ys, x, y, hs, hs', hx, hy⟩, fun v H'' hv => ?_⟩
  obtain ⟨T, x', y', rfl, hT, rfl, e2, e2'⟩ := hv
  have e3 := e2 xs hs
  have e3' := e2' ys hs'
  rw [hx] at e3
  rw [hy] at e3'
  cases Option.some.inj e3
  cases Option.some.inj e3'
  refine ⟨.inr ⟨T, _, hT, rfl⟩, ?_⟩
  exact Rp.tup' upd_same (nvolA hA hT) (RpA.cons ((rx.ext k).ext (keepA hT)) (RpA.cons ((ry.ext k).ext (keepA hT)) RpA.nil))
end
/-- what is walked: no list of the written part -/
def seqW : D → Option (List D)
  | .ks _ => none
  | d => seqD d
theorem seqW_ok {d : D} {ds : List D} (e : seqW d = some ds) : seqD d = some ds := by
  cases d <;> first | exact e | cases e
def miSeq (m : M) : MI := fun st => bindO (m st) fun d st1 => optO (seqW d) st1
section
variable {X : Cx} {g : G} {ER : EK} {pos p : Pos} {tg e : Expr} {m : M} {ma : MA}
def isL : D → Bool
  | .lst _ => true
  | _ => false
theorem Rp.seqT {A : Addr → Prop} {H : Hp} {v : V} {d : D} {ds : List D} (r : Rp g A H v d) (e0 : seqW d = some ds) (hl : isL d = false) : ∃ a xs, v = .ref a ∧ ((H a = some (.tup xs) ∧ ¬ A a) ∨ KT g.K A H a xs) ∧ RpA g A H xs ds := by
  have e := seqW_ok e0
  cases r with
  | lst h n hl q => cases hl
  | tup h n hl' q => cases Option.some.inj e; exact ⟨_, _, rfl, .inl ⟨h, n⟩, hl', q⟩
  | ktup h hl' q => cases Option.some.inj e; exact ⟨_, _, rfl, .inr h, hl', q⟩
  | kls _ _ _ _ => cases e0
  | klw _ _ _ => cases e0
  | _ => cases e
theorem pi_mSeq (hk : X.K = g.K) (he : PE X e (tM g ER m)) : PI X tg e (tMI g ER (miSeq m)) := by
  refine PIi (PI.or (pi_list he) (pi_tup he)) fun σ H R h => ?_
  obtain ⟨ρ, st, s, h⟩ := h
  have hb := OutC.bind h
  cases e1 : m st with
  | no => rw [e1] at hb; exact hb.elim
  | er c vs st' => exact .inl ⟨ρ, st, s, by rw [e1] at hb ⊢; exact hb⟩
  | ok d st1 =>
    rw [e1] at hb
    cases e2 : seqW d with
    | none =>
      refine .inl ⟨ρ, st, s, ?_⟩
      rw [e1]
      intro ρ1 H1 x1 s1 v rv
      have q : OutC ER ρ1 st1 H1 (optO (seqW d) st1) _ := hb ρ1 H1 x1
      rw [e2] at q
      exact q.elim
    | some ds =>
      cases hl : isL d with
      | true =>
        refine .inl ⟨ρ, st, s, ?_⟩
        rw [e1]
        intro ρ1 H1 x1 s1 v rv
        have q : OutC ER ρ1 st1 H1 (optO (seqW d) st1) _ := hb ρ1 H1 x1
        rw [e2] at q
        cases d with
        | lst ds' =>
          cases Option.some.inj (seqW_ok e2)
          obtain ⟨a, xs, rfl, ha, na, ra⟩ := rv.inv_lst
          rw [hk]
          exact ⟨a, rfl, ⟨xs, SqL.of ha⟩, q ρ1 H1 Ext.refl s1 _ (it_list ha na ra)⟩
        | _ => cases hl
      | false =>
        refine .inr ⟨ρ, st, s, ?_⟩
        rw [e1]
        intro ρ1 H1 x1 s1 v rv
        have q : OutC ER ρ1 st1 H1 (optO (seqW d) st1) _ := hb ρ1 H1 x1
        rw [e2] at q
        obtain ⟨a, xs, rfl, ha, ra⟩ := rv.seqT e2 hl
        rw [hk]
        refine ⟨a, rfl, ⟨xs, ?_⟩, q ρ1 H1 Ext.refl s1 _ (it_tup ha ra)⟩
        rcases ha with ⟨h, _⟩ | h
        · exact SqT.of h
        · exact h.sq
def miFun (f : List D → Option (List D)) (ma : MA) : MI := fun st => bindO (ma st) fun ds st1 => optO (f ds) st1
def rangeF : List D → Option (List D)
  | [.int j] => if -4611686018427387904 ≤ j ∧ j < 4611686018427387904 then some ((List.range j.toNat).map fun i => D.int (0 + (i : Nat))) else none
  | _ => none
theorem pi_mRange {a : Expr} (hg : Gl X "range") (hm : X.mg "range" = none) (ha : PA X [a] (tMA g ER ma)) (hs : starEach [a] X.env = [(false, eval a X.env)] := by rfl) : PI X tg (.Call (.Name "range" p) [a] [] pos) (tMI g ER (miFun rangeF ma)) := by
  refine PIi (pi_range1 hg hm ha hs) fun σ H R h => ?_
  obtain ⟨ρ, st, s, h⟩ := h
  refine ⟨ρ, st, s, (OutC.bind h).mono fun ds st1 ρ1 H1 _ h1 s1 vs rs => ?_⟩
  cases e1 : rangeF ds with
  | none => rw [e1] at h1; exact h1.elim
  | some es =>
    rw [e1] at h1
    unfold rangeF at e1
    split at e1
    · rename_i j
      split at e1
      · rename_i hz
        cases Option.some.inj e1
        obtain ⟨v, rfl, r⟩ := rs.one
        exact ⟨j, by rw [r.inv_int], by omega, by omega, h1 ρ1 H1 Ext.refl s1 _ it_range⟩
      · cases e1
    · cases e1
def enumF : List D → Option (List D)
  | [.lst ds] => some (enumFrom 0 ds)
  | _ => none
theorem pi_mEnum {a : Expr} {elts : List Expr} {kk : Nat} {tpos : Pos} (hk : X.K = g.K) (hg : Gl X "enumerate") (hm : X.mg "enumerate" = none) (ha : PA X [a] (tMA g ER ma)) (hs : starEach [a] X.env = [(false, eval a X.env)] := by rfl) : PI X (.Tuple elts kk tpos) (.Call (.Name "enumerate" p) [a] [] pos) (tMI g ER (miFun enumF ma)) := by
  refine PIi (pi_enum hg hm ha hs) fun σ H R h => ?_
  obtain ⟨ρ, st, s, h⟩ := h
  refine ⟨ρ, st, s, (OutC.bind h).mono fun ds st1 ρ1 H1 _ h1 s1 vs rs => ?_⟩
  cases e1 : enumF ds with
  | none => rw [e1] at h1; exact h1.elim
  | some es =>
    rw [e1] at h1
    unfold enumF at e1
    split at e1
    · cases Option.some.inj e1
      obtain ⟨v, rfl, r⟩ := rs.one
      obtain ⟨a, xs, rfl, ha, na, ra⟩ := r.inv_lst
      rw [hk]
      exact ⟨a, xs, rfl, SqL.of ha, h1 ρ1 H1 Ext.refl s1 _ (it_enum ha na ra)⟩
    · cases e1
/-- zip of two lists, of two tuples -/
def zipF : List D → Option (List D)
  | [d, e] => match seqW d, seqW e with
    | some ds, some es => if isL d = isL e then some (zipD ds es) else none
    | _, _ => none
  | _ => none
theorem pi_mZip {a b : Expr} {elts : List Expr} {kk : Nat} {tpos : Pos} (hk : X.K = g.K) (hg : Gl X "zip") (hm : X.mg "zip" = none) (ha : PA X [a, b] (tMA g ER ma))
    (hs : starEach [a, b] X.env = (false, eval a X.env) :: starEach [b] X.env := by rfl) (hpl : (backTo pos (starEach [b] X.env)).any (·.1) = false := by rfl) : PI X (.Tuple elts kk tpos) (.Call (.Name "zip" p) [a, b] [] pos) (tMI g ER (miFun zipF ma)) := by
  refine PIi (RZ.pi_zipA hg hm ha hs hpl) fun σ H R h => ?_
  obtain ⟨ρ, st, s, h⟩ := h
  refine ⟨ρ, st, s, (OutC.bind h).mono fun ds st1 ρ1 H1 _ h1 s1 vs rs => ?_⟩
  cases e1 : zipF ds with
  | none => rw [e1] at h1; exact h1.elim
  | some es =>
    rw [e1] at h1
    unfold zipF at e1
    split at e1
    · rename_i d e'
      obtain ⟨v, u, rfl, r1, r2⟩ := rs.two
      cases f1 : seqW d with
      | none => simp only [f1] at e1; cases e1
      | some xs =>
        cases f2 : seqW e' with
        | none => simp only [f1, f2] at e1; cases e1
        | some ys =>
          simp only [f1, f2] at e1
          split at e1
          · rename_i hl
            cases Option.some.inj e1
            rw [hk]
            cases hd : isL d with
            | true =>
              rw [hd] at hl
              cases d with
              | lst d1 =>
                cases e' with
                | lst e1 =>
                  cases Option.some.inj (seqW_ok f1)
                  cases Option.some.inj (seqW_ok f2)
                  obtain ⟨a, xs, rfl, ha, na, ra⟩ := r1.inv_lst
                  obtain ⟨b, ys, rfl, hb, nb, rb⟩ := r2.inv_lst
                  exact ⟨a, b, xs, ys, rfl, .inl ⟨SqL.of ha, SqL.of hb, h1 ρ1 H1 Ext.refl s1 _ (it_zipL ha na ra hb nb rb)⟩⟩
                | _ => cases hl
              | _ => cases hd
            | false =>
              rw [hd] at hl
              obtain ⟨a, xs, rfl, ha, ra⟩ := r1.seqT f1 hd
              obtain ⟨b, ys, rfl, hb, rb⟩ := r2.seqT f2 hl.symm
              refine ⟨a, b, xs, ys, rfl, .inr ⟨?_, ?_, h1 ρ1 H1 Ext.refl s1 _ (it_zipT ha ra hb rb)⟩⟩
              · rcases ha with ⟨h, _⟩ | h
                · exact SqT.of h
                · exact h.sq
              · rcases hb with ⟨h, _⟩ | h
                · exact SqT.of h
                · exact h.sq
          · cases e1
    · cases e1
end
end RE
set_option maxHeartbeats 2000000
namespace RE
open PySem PySem.Spec PyProof.Rows L2
abbrev Tg := D → S → Option S
/-- a target: what it stores; is: the slots that it stores -/
def GOk (g : G) (tg : Tg) (t : TG) (is : List Nat) : Prop := ∀ (ρ : Rh) (σ : L2.St) (H : Hp) (st : S) (x : V) (d : D) (st' : S) (Q : L2.St → Hp → Prop), tg d st = some st' → Sim g ρ σ H st → Rp g (Vol ρ st) H x d →
  (∀ σ', Sim g ρ σ' H st' → st'.ce = st.ce → (∀ vs : List Nat, (∀ i ∈ is, i ∈ vs) → wipe σ' vs = wipe σ vs) → Q σ' H) → t x σ H Q
theorem wipe_set {σ : L2.St} {i : Nat} {v : Option V} : ∀ {vs : List Nat}, i ∈ vs → wipe (σ.set i v) vs = wipe σ vs
  | [], h => by simp at h
  | j :: vs, h => by
    unfold wipe
    by_cases e : i = j
    · subst e
      by_cases hm : i ∈ vs
      · rw [wipe_set hm]
      · have q : ∀ (ws : List Nat), i ∉ ws → wipe (σ.set i v) ws = (wipe σ ws).set i v := by
          intro ws
          induction ws with
          | nil => intro _; rfl
          | cons k ws ih =>
            intro hk
            unfold wipe
            rw [ih (fun z => hk (List.mem_cons_of_mem _ z)), List.set_comm _ _ (fun z => hk (by rw [z]; exact List.mem_cons_self))]
        rw [q vs hm, List.set_set]
    · rw [wipe_set (by rcases List.mem_cons.mp h with z | z; exact absurd z e; exact z)]
def tgName (i : Nat) : Tg := fun d st => some (st.put i (.d d))
theorem gok_name {g : G} (i : Nat) : GOk g (tgName i) (gName i) [i] := by
  intro ρ σ H st x d st' Q e s r k
  cases Option.some.inj e
  exact k _ (s.put i ⟨x, rfl, r⟩) rfl fun vs h => wipe_set (h i (by simp))
/-- stores item by item -/
def putsD : List Nat → List D → S → Option S
  | [], [], st => some st
  | i :: is, d :: ds, st => putsD is ds (st.put i (.d d))
  | _, _, _ => none
def gNames : List Nat → TGs
  | [] => gNil
  | i :: is => gCons (gName i) (gNames is)
theorem gok_names {g : G} : ∀ (is : List Nat) (ρ : Rh) (σ : L2.St) (H : Hp) (st : S) (xs : List V) (ds : List D) (st' : S) (Q : L2.St → Hp → Prop), putsD is ds st = some st' → Sim g ρ σ H st → RpA g (Vol ρ st) H xs ds →
    (∀ σ', Sim g ρ σ' H st' → st'.ce = st.ce → (∀ vs : List Nat, (∀ i ∈ is, i ∈ vs) → wipe σ' vs = wipe σ vs) → Q σ' H) → gNames is xs σ H Q
  | [], ρ, σ, H, st, xs, [], st', Q, e, s, r, k => by
    cases Option.some.inj e
    exact ⟨r.cases_nil, k σ s rfl fun _ _ => rfl⟩
  | [], ρ, σ, H, st, xs, d :: ds, st', Q, e, s, r, k => by cases e
  | i :: is, ρ, σ, H, st, xs, [], st', Q, e, s, r, k => by cases e
  | i :: is, ρ, σ, H, st, xs, d :: ds, st', Q, e, s, r, k => by
    obtain ⟨x, ys, rfl, r1, r2⟩ := r.cases_cons
    refine ⟨x, ys, rfl, ?_⟩
    have s1 := s.put i (v := x) (sl := .d d) ⟨x, rfl, r1⟩
    refine gok_names is ρ _ H _ ys ds st' Q e s1 (r2.ext fun a o h n => ⟨h, n⟩) fun σ' s' ce w => k σ' s' ce fun vs h => ?_
    rw [w vs fun j hj => h j (List.mem_cons_of_mem _ hj), wipe_set (h i List.mem_cons_self)]
def tgTup (is : List Nat) : Tg := fun d st => match d with
  | .tup ds => putsD is ds st
  | .kt ds => putsD is ds st
  | _ => none
theorem gok_tup {g : G} (is : List Nat) : GOk g (tgTup is) (gTup g.K is.length (gNames is)) is := by
  intro ρ σ H st x d st' Q e s r k
  have hl : ∀ (is : List Nat) (ds : List D) (st st' : S), putsD is ds st = some st' → ds.length = is.length := by
    intro is
    induction is with
    | nil => intro ds st st' h; cases ds with
      | nil => rfl
      | cons _ _ => cases h
    | cons i is ih => intro ds st st' h; cases ds with
      | nil => cases h
      | cons d ds => show ds.length + 1 = is.length + 1; rw [ih ds _ _ h]
  cases d with
  | tup ds =>
    obtain ⟨a, xs, rfl, ha, _, ra⟩ := r.inv_tup
    exact ⟨a, xs, rfl, SqT.of ha, by rw [ra.1]; exact hl is ds st st' e, gok_names is ρ σ H st xs ds st' Q e s ra k⟩
  | kt ds =>
    obtain ⟨a, xs, rfl, ha, ra⟩ := r.inv_kt
    exact ⟨a, xs, rfl, ha.sq, by rw [ra.1]; exact hl is ds st st' e, gok_names is ρ σ H st xs ds st' Q e s ra k⟩
  | _ => cases e
def mTo (tg : Tg) (m : M) : MS := fun st => bindS (m st) fun d st1 => match tg d st1 with
  | some st2 => .nx st2
  | none => .no
section
variable {X : Cx} {g : G} {ER : EK} {pos : Pos}
theorem ps_mTo {tg e : Expr} {m : M} {t : TG} {tgd : Tg} {is : List Nat} (he : PE X e (tM g ER m)) (hg : PG X tg t) (ok : GOk g tgd t is) (hs : swapsWithSole [tg] e pos.line X.env = pure false := by rfl) (hw : swappedStores [tg] e X.env = pure none := by rfl)
    (h1 : (assignEach [tg] X.env).map (·.2) = [assign tg X.env] := by rfl) : PS X (.Assign [tg] e pos) (tMS g ER (mTo tgd m)) := by
  refine PSi (ps_asg he hg hs hw h1) fun E σ H h => ?_
  obtain ⟨ρ, st, s, h⟩ := h
  refine ⟨ρ, st, s, (OutS.bind h).mono fun d st1 ρ1 H1 _ h1 s1 v rv => ?_⟩
  cases e1 : tgd d st1 with
  | none => simp only [e1] at h1; exact h1.elim
  | some st2 =>
    simp only [e1] at h1
    exact ok ρ1 σ H1 st1 v d st2 _ e1 s1 rv fun σ' s' ce _ => h1 ρ1 σ' H1 (Ext.refl.ce ce) s'
/-- a, b = x, y: both, then stored -/
def mPar (is : List Nat) (ma : MA) : MS := fun st => bindS (ma st) fun ds st1 => match putsD is ds st1 with
  | some st2 => .nx st2
  | none => .no
theorem ps_mPar {i j : Nat} {x y : Str} {a b : Expr} {ma : MA} {px py pt : Pos} {kt k2 pt2} (hc : X.calm = true) (hN : X.N.Nodup) (hi : X.N[i]? = some x) (hj : X.N[j]? = some y) (hij : i ≠ j)
    (hx : X.env.scope.names.lookup x = some .local) (hy : X.env.scope.names.lookup y = some .local) (ha : PA X [a, b] (tMA g ER ma)) (hw : swappedStores [.Tuple [.Name x px, .Name y py] kt pt] (.Tuple [a, b] k2 pt2) X.env = pure (some [x, y])) (hs : swapsWithSole [.Tuple [.Name x px, .Name y py] kt pt] (.Tuple [a, b] k2 pt2) pos.line X.env = pure false := by rfl) :
    PS X (.Assign [.Tuple [.Name x px, .Name y py] kt pt] (.Tuple [a, b] k2 pt2) pos) (tMS g ER (mPar [i, j] ma)) := by
  refine PSi (ps_par hc hN hi hj hij hx hy ha hw hs) fun E σ H h => ?_
  obtain ⟨ρ, st, s, h⟩ := h
  refine ⟨ρ, st, s, (OutS.bind h).mono fun ds st1 ρ1 H1 _ h1 s1 vs rs => ?_⟩
  match ds, vs, rs, h1 with
  | [], _, _, h1 => exact h1.elim
  | [_], _, _, h1 => exact h1.elim
  | [d, e], vs, rs, h1 =>
    obtain ⟨v, u, rfl, r1, r2⟩ := rs.two
    refine ⟨v, u, rfl, ?_⟩
    have s2 := s1.put i (v := v) (sl := .d d) ⟨v, rfl, r1⟩
    have s3 := s2.put j (v := u) (sl := .d e) ⟨u, rfl, r2.ext fun a o h n => ⟨h, n⟩⟩
    exact h1 ρ1 _ H1 (Ext.refl.ce rfl) s3
  | _ :: _ :: _ :: _, _, _, h1 => exact h1.elim
def loopS (tg : Tg) (body : MS) : List D → S → SO
  | [], st => .nx st
  | d :: ds, st => match tg d st with
    | none => .no
    | some st1 => match body st1 with
      | .nx st2 => loopS tg body ds st2
      | .ct st2 => loopS tg body ds st2
      | .bk st2 => .nx st2
      | o => o
def mFor (mi : MI) (tg : Tg) (body : MS) : MS := fun st => bindS (mi st) fun ds st1 => loopS tg body ds st1
theorem Ext.like {ρ : Rh} {H H' : Hp} {σ : L2.St} {st : S} (s : Sim g ρ σ H st) (h : H' = H ∨ ∃ p o, H p = none ∧ H' = upd H p o) : Ext ρ st H ρ st H' ∧ Sim g ρ σ H' st := by
  rcases h with h | ⟨p, o, hp, h⟩
  · rw [h]; exact ⟨Ext.refl, s⟩
  · rw [h]; exact ⟨Ext.new s hp, s.new hp⟩
theorem for_core {t : TG} {tgd : Tg} {is : List Nat} {mb : MS} {ds : List D} {J : It} {ρ0 : Rh} {st0 : S} {σ0 : L2.St} {H0 : Hp} {E : Ends} (ok : GOk g tgd t is) (s0 : Sim g ρ0 σ0 H0 st0) (h0 : OutS g ER ρ0 st0 H0 (loopS tgd mb ds st0) E) (hJ : ItOk g ρ0 st0 H0 J ds) :
    ∃ W : Nat → Nat → L2.St → Hp → Prop, (∃ m, W 0 m σ0 H0) ∧ ∀ i m σ H, W i m σ H → (J.stop i H ∧ E.nx σ H) ∨ (J.go i H ∧ ∃ N : L2.St → Hp → Prop, (∀ σ' H', N σ' H' → ∃ m', m' < m ∧ W (i + 1) m' σ' H') ∧ ∀ x H', J.yld i H x H' → t x σ H' fun σ2 H2 => tMS g ER mb { E with nx := N, ct := N, bk := E.nx } σ2 H2) := by
  refine ⟨fun i m σ' H' => ∃ ρ' st', Ext ρ0 st0 H0 ρ' st' H' ∧ Sim g ρ' σ' H' st' ∧ m = ds.length - i ∧ i ≤ ds.length ∧ OutS g ER ρ' st' H' (loopS tgd mb (ds.drop i) st') E, ⟨ds.length, ρ0, st0, Ext.refl, s0, rfl, Nat.zero_le _, h0⟩, ?_⟩
  rintro i m σ1 H1 ⟨ρ1, st1, x1, s1, rfl, hi, h1⟩
  by_cases hlt : i < ds.length
  · have hd : ds.drop i = ds[i] :: ds.drop (i + 1) := List.drop_eq_getElem_cons hlt
    rw [hd] at h1
    unfold loopS at h1
    have hget : ds[i]? = some ds[i] := List.getElem?_eq_getElem hlt
    obtain ⟨go, yl⟩ := (hJ (Vol ρ1 st1) H1 x1.keep (fun a v => s1.volT v) i).1 _ hget
    refine .inr ⟨go, fun σ' H' => ∃ ρ' st', Ext ρ0 st0 H0 ρ' st' H' ∧ Sim g ρ' σ' H' st' ∧ OutS g ER ρ' st' H' (loopS tgd mb (ds.drop (i + 1)) st') E, fun σ' H' ⟨ρ', st', a, b, c⟩ => ⟨ds.length - (i + 1), by omega, ρ', st', a, b, rfl, hlt, c⟩, fun x H2 hy => ?_⟩
    obtain ⟨hH, hr⟩ := yl x H2 hy
    obtain ⟨x2, s2⟩ := Ext.like s1 hH
    have r2 := hr
    cases e1 : tgd ds[i] st1 with
    | none => rw [e1] at h1; exact h1.elim
    | some st3 =>
      rw [e1] at h1
      refine ok ρ1 σ1 H2 st1 x _ st3 _ e1 s2 r2 fun σ3 s3 ce _ => ⟨ρ1, st3, s3, ?_⟩
      have x3 : Ext ρ1 st1 H1 ρ1 st3 H2 := x2.trans ⟨fun a o h n => ⟨h, fun v => n ((Vol.ce ce a).mp v)⟩, fun _ _ h => h, rfl, fun _ _ => rfl, fun a v => .inl ((Vol.ce ce a).mp v), fun _ h => h⟩
      have h1 : OutS g ER ρ1 st1 H1 (match mb st3 with | .nx st2 => loopS tgd mb (ds.drop (i + 1)) st2 | .ct st2 => loopS tgd mb (ds.drop (i + 1)) st2 | .bk st2 => .nx st2 | o => o) E := h1
      cases e2 : mb st3 with
      | nx st4 => rw [e2] at h1; exact fun ρ4 σ4 H4 x4 s4 => ⟨ρ4, st4, (x1.trans x3).trans x4, s4, OutS.later h1 (x3.trans x4)⟩
      | ct st4 => rw [e2] at h1; exact fun ρ4 σ4 H4 x4 s4 => ⟨ρ4, st4, (x1.trans x3).trans x4, s4, OutS.later h1 (x3.trans x4)⟩
      | bk st4 => rw [e2] at h1; exact fun ρ4 σ4 H4 x4 s4 => h1 ρ4 σ4 H4 (x3.trans x4) s4
      | rt d st4 => rw [e2] at h1; exact fun ρ4 σ4 H4 v x4 s4 r => h1 ρ4 σ4 H4 v (x3.trans x4) s4 r
      | er c vs st4 => rw [e2] at h1; exact fun ρ4 H4 x4 => h1 ρ4 H4 (x3.trans x4)
      | no => rw [e2] at h1; exact h1.elim
  · have e : i = ds.length := by omega
    subst e
    rw [List.drop_length] at h1
    exact .inl ⟨(hJ (Vol ρ1 st1) H1 x1.keep (fun a v => s1.volT v) _).2 (Nat.le_refl _), h1 ρ1 σ1 H1 Ext.refl s1⟩
theorem ps_mFor {iter tg : Expr} {body : List Stmt} {mi : MI} {t : TG} {tgd : Tg} {is : List Nat} {mb : MS} (hp : PassesOwn (model X.prog X.w) X.A X.env X.xe) (hc : X.calm = true) (hi : PI X tg iter (tMI g ER mi)) (hg : PG X tg t) (ok : GOk g tgd t is) (hb : PSs X body (tMS g ER mb)) (hs : ∀ x, foldedSetIterable iter X.env x = pure x := by intro _; rfl) : PS X (.For tg iter body [] pos) (tMS g ER (mFor mi tgd mb)) := by
  refine PSi (ps_for hp hc hi hg hb hs) fun E σ H h => ?_
  obtain ⟨ρ, st, s, h⟩ := h
  exact ⟨ρ, st, s, (OutS.bind h).mono fun ds st0 ρ0 H0 _ h0 s0 J hJ => for_core ok s0 h0 hJ⟩
end
end RE
set_option maxHeartbeats 2000000
namespace RE
open PySem PySem.Spec PyProof.Rows L2
def wipeS (sl : List Sl) : List Nat → List Sl
  | [] => sl
  | v :: vs => (wipeS sl vs).set v .no
theorem wipe_wipe (σ : L2.St) : ∀ vs ws : List Nat, (∀ i ∈ vs, i ∈ ws) → wipe (wipe σ vs) ws = wipe σ ws
  | [], ws, _ => rfl
  | v :: vs, ws, h => by
    show wipe ((wipe σ vs).set v none) ws = wipe σ ws
    rw [wipe_set (h v List.mem_cons_self)]
    exact wipe_wipe σ vs ws fun i hi => h i (List.mem_cons_of_mem _ hi)
def S.with (st : S) (ce : List Ce) : S := ⟨st.sl, ce⟩
def Rh.ent (ρ : Rh) (p : Addr) : Rh := ⟨ρ.ad, fun a => ρ.U a ∨ a = p⟩
def Rh.lev (ρ : Rh) (U : Addr → Prop) : Rh := ⟨ρ.ad, U⟩
section
variable {g : G} {ρ ρ' ρ1 ρ2 : Rh} {σ σ' : L2.St} {H H' H0 H1 H2 : Hp} {st st' st0 st1 st2 : S} {p : Addr} {o : HO}
theorem Sim.setNo (s : Sim g ρ σ H st) (i : Nat) : Sim g ρ (σ.set i none) H ⟨st.sl.set i .no, st.ce⟩ where
  toCells := ⟨s.uok, s.clen, s.cell, s.inj, s.out⟩
  len := by show (σ.set i none).length = (st.sl.set i .no).length; rw [List.length_set, List.length_set, s.len]
  slot := fun j sl v h1 h2 => by
    have h1 : (st.sl.set i .no)[j]? = some sl := h1
    rw [List.getElem?_set] at h1 h2
    by_cases e : i = j
    · rw [if_pos e] at h1
      split at h1
      · cases Option.some.inj h1; trivial
      · cases h1
    · rw [if_neg e] at h1 h2
      exact s.slot j sl v h1 h2
theorem Sim.wipe (s : Sim g ρ σ H st) : ∀ vs : List Nat, Sim g ρ (L2.wipe σ vs) H ⟨wipeS st.sl vs, st.ce⟩
  | [] => s
  | v :: vs => (Sim.wipe s vs).setNo v
theorem vol_ent {a : Addr} : Vol (ρ.ent p) st a ↔ Vol ρ st a ∨ a = p := by
  constructor
  · rintro ((h | h) | h)
    · exact .inl (.inl h)
    · exact .inr h
    · exact .inl (.inr h)
  · rintro ((h | h) | h)
    · exact .inl (.inl h)
    · exact .inr h
    · exact .inl (.inr h)
theorem keep_ent (s : Sim g ρ σ H st) (hp : H p = none) : ∀ a u, H a = some u → ¬ Vol ρ st a → upd H p o a = some u ∧ ¬ Vol (ρ.ent p) st a := fun a u h n =>
  ⟨by rw [upd_ne (ne_of_none h hp)]; exact h, fun v => by
    rcases vol_ent.mp v with v | v
    · exact n v
    · rw [v, hp] at h; cases h⟩
theorem Cells.ent (s : Sim g ρ σ H st) (hp : H p = none) (no : NT o) : Cells g (ρ.ent p) (upd H p o) st where
  uok := fun a h => by
    by_cases e : a = p
    · exact ⟨o, by rw [e]; exact upd_same, no⟩
    · rcases h with h | h
      · obtain ⟨u, hu, nt⟩ := s.uok a h
        exact ⟨u, by rw [upd_ne e]; exact hu, nt⟩
      · exact absurd h e
  clen := s.clen
  cell := fun k c a h1 h2 => by
    have q := s.cell k c a h1 h2
    by_cases hc : c.alive = true
    · obtain ⟨u, hu⟩ := s.vol (a := a) (.inr ⟨k, c, h1, hc, h2⟩)
      exact q.ext (upd_ne (ne_of_none hu hp)) (keep_ent s hp)
    · cases c <;> first | trivial | exact absurd rfl hc
  inj := s.inj
  out := fun k c a h1 hc h2 v => by
    rcases v with v | v
    · exact s.out k c a h1 hc h2 v
    · obtain ⟨u, hu⟩ := s.vol (a := a) (.inr ⟨k, c, h1, hc, h2⟩)
      rw [v, hp] at hu; cases hu
theorem SlOk.ext {A A' : Addr → Prop} {v : Option V} {sl : Sl} (h : SlOk g A ρ H v sl) (k : ∀ a o, H a = some o → ¬ A a → H' a = some o ∧ ¬ A' a) (pre : ∀ (k : Nat) a, ρ.ad[k]? = some a → ρ'.ad[k]? = some a) : SlOk g A' ρ' H' v sl := by
  cases sl with
  | no => trivial
  | d x => obtain ⟨u, e, r⟩ := h; exact ⟨u, e, r.ext k⟩
  | rf j => obtain ⟨a, e, q⟩ := h; exact ⟨a, e, pre j a q⟩
theorem Sim.ent (s : Sim g ρ σ H st) (hp : H p = none) (no : NT o) : Sim g (ρ.ent p) σ (upd H p o) st where
  toCells := Cells.ent s hp no
  len := s.len
  slot := fun i sl v h1 h2 => (s.slot i sl v h1 h2).ext (keep_ent s hp) fun _ _ h => h
theorem vol_lev {U : Addr → Prop} (hU : ∀ a, U a → ρ.U a) {a : Addr} (h : Vol (ρ.lev U) st a) : Vol ρ st a := h.imp (hU a) id
theorem Cells.lev (s : Cells g ρ H st) {U : Addr → Prop} (hU : ∀ a, U a → ρ.U a) : Cells g (ρ.lev U) H st where
  uok := fun a h => s.uok a (hU a h)
  clen := s.clen
  cell := fun k c a h1 h2 => (s.cell k c a h1 h2).ext rfl fun _ _ h n => ⟨h, fun v => n (vol_lev hU v)⟩
  inj := s.inj
  out := fun k c a h1 hc h2 v => s.out k c a h1 hc h2 (hU a v)
theorem Sim.lev (s : Sim g ρ σ H st) {U : Addr → Prop} (hU : ∀ a, U a → ρ.U a) : Sim g (ρ.lev U) σ H st where
  toCells := s.toCells.lev hU
  len := s.len
  slot := fun i sl v h1 h2 => (s.slot i sl v h1 h2).ext (fun _ _ h n => ⟨h, fun v => n (vol_lev hU v)⟩) fun _ _ h => h
/-- what is behind a stretch with p not spoken of -/
theorem Ext.step_lev (e0 : Ext ρ st0 H0 (ρ1.lev ρ.U) st1 H1) (hU : ρ1.U = (ρ.ent p).U) (h0 : H0 p = none) (e : Ext ρ1 st1 H1 ρ2 st2 H2) : Ext ρ st0 H0 (ρ2.lev ρ.U) st2 H2 where
  keep := fun a u h n => by
    obtain ⟨h1, n1⟩ := e0.keep a u h n
    have n2 : ¬ Vol ρ1 st1 a := by
      rintro (v | v)
      · rw [hU] at v
        rcases v with v | v
        · exact n1 (.inl v)
        · rw [v, h0] at h; cases h
      · exact n1 (.inr v)
    obtain ⟨h3, n3⟩ := e.keep a u h1 n2
    refine ⟨h3, fun v => n3 (vol_lev (fun b hb => ?_) v)⟩
    rw [e.same, hU]; exact .inl hb
  pre := fun k a h => e.pre k a (e0.pre k a h)
  same := rfl
  un := fun a h => by
    rw [e.un a (by rw [hU]; exact .inl h)]
    exact e0.un a h
  more := fun a v => by
    have v' : Vol ρ2 st2 a := vol_lev (fun b hb => by rw [e.same, hU]; exact .inl hb) v
    rcases e.more a v' with (v1 | v1) | v1
    · rw [hU] at v1
      rcases v1 with v1 | v1
      · exact e0.more a (.inl v1)
      · right; rw [v1]; exact h0
    · exact e0.more a (.inr v1)
    · exact .inr (e0.mono a v1)
  mono := fun a h => e0.mono a (e.mono a h)
theorem Ext.touch (e0 : Ext ρ st0 H0 ρ1 st1 H1) (h0 : H0 p = none) (su : ∀ a, ρ.U a → ∃ u, H0 a = some u) : Ext ρ st0 H0 ρ1 st1 (upd H1 p o) where
  keep := fun a u h n => by
    rw [upd_ne (ne_of_none h h0)]
    exact e0.keep a u h n
  pre := e0.pre
  same := e0.same
  un := fun a h => by
    obtain ⟨u, hu⟩ := su a h
    rw [upd_ne (ne_of_none hu h0)]
    exact e0.un a h
  more := e0.more
  mono := fun a h => by
    by_cases e : a = p
    · rw [e]; exact h0
    · rw [upd_ne e] at h; exact e0.mono a h
/-- an object that is not spoken of may be written -/
theorem keep_touch (u : ρ.U p) : ∀ a q, H a = some q → ¬ Vol ρ st a → upd H p o a = some q ∧ ¬ Vol ρ st a := fun a q h n =>
  ⟨by rw [upd_ne (fun e => n (.inl (by rw [e]; exact u)))]; exact h, n⟩
theorem nt_l {xs : List V} : NT (.lst xs) := fun _ z => by cases z
theorem Cells.touch (s : Cells g ρ H st) (u : ρ.U p) (no : NT o) : Cells g ρ (upd H p o) st where
  uok := fun a h => by
    by_cases e : a = p
    · exact ⟨o, by rw [e]; exact upd_same, no⟩
    · rw [upd_ne e]; exact s.uok a h
  clen := s.clen
  cell := fun k c a h1 h2 => by
    by_cases hc : c.alive = true
    · exact (s.cell k c a h1 h2).ext (upd_ne fun e => s.out k c a h1 hc h2 (by rw [e]; exact u)) (keep_touch u)
    · cases c <;> first | trivial | exact absurd rfl hc
  inj := s.inj
  out := s.out
theorem Sim.touch (s : Sim g ρ σ H st) (u : ρ.U p) (no : NT o) : Sim g ρ σ (upd H p o) st where
  toCells := s.toCells.touch u no
  len := s.len
  slot := fun i sl v h1 h2 => (s.slot i sl v h1 h2).ext (keep_touch u) fun _ _ h => h
/-- the slots of an earlier state over the cells of a later one -/
theorem Sim.back (s : Sim g ρ σ H st) (e : Ext ρ st H ρ' st' H') (c : Cells g ρ' H' st') : Sim g ρ' σ H' (st.with st'.ce) where
  toCells := ⟨c.uok, c.clen, c.cell, c.inj, c.out⟩
  len := s.len
  slot := fun i sl v h1 h2 => (s.slot i sl v h1 h2).ext e.keep e.pre
end
def lcS (tg : Tg) (tt : MT) (me : M) (w : List Sl) : List D → List Ce → Option (List D × List Ce)
  | [], ce => some ([], ce)
  | d :: ds, ce => match tg d ⟨w, ce⟩ with
    | none => none
    | some st1 => match tt st1 with
      | .ok true st2 => match me st2 with
        | .ok x st3 => match lcS tg tt me w ds st3.ce with
          | some (xs, ce') => some (x :: xs, ce')
          | none => none
        | _ => none
      | .ok false st2 => lcS tg tt me w ds st2.ce
      | _ => none
def mLc (mi : MI) (tg : Tg) (tt : MT) (me : M) (vs : List Nat) : M := fun st => bindO (mi st) fun ds st1 => match lcS tg tt me (wipeS st1.sl vs) ds st1.ce with
  | some (xs, ce) => if xs.length ≤ 1000000 then .ok (.lst xs) (st1.with ce) else .no
  | none => .no
/-- a list that grows at p, not spoken of -/
structure Grow (g : G) (ρ0 : Rh) (st0 : S) (H0 : Hp) (σ : L2.St) (p : Addr) (ρ : Rh) (ce : List Ce) (H : Hp) (acc : List V) (ds : List D) : Prop where
  ext : Ext ρ0 st0 H0 (ρ.lev ρ0.U) (st0.with ce) H
  u : ρ.U = (ρ0.ent p).U
  sim : Sim g ρ σ H (st0.with ce)
  at' : H p = some (.lst acc)
  rp : RpA g (Vol ρ (st0.with ce)) H acc ds
section
variable {g : G} {ER : EK} {ρ0 ρ ρ' : Rh} {st0 st' : S} {H0 H H' : Hp} {σ σ' : L2.St} {p : Addr} {ce : List Ce} {acc : List V} {ds : List D}
theorem Ext.zero (hp : H p = none) (su : ∀ a, ρ.U a → ∃ u, H a = some u) {o : HO} {st : S} : Ext ρ st H ρ st (upd H p o) := Ext.touch Ext.refl hp su
theorem Grow.zero (s : Sim g ρ0 σ H0 st0) (hp : H0 p = none) : Grow g ρ0 st0 H0 σ p (ρ0.ent p) st0.ce (upd H0 p (.lst [])) [] [] where
  ext := Ext.zero hp s.uo
  u := rfl
  sim := s.ent hp nt_l
  at' := upd_same
  rp := RpA.nil
/-- the slots don't matter -/
theorem Ext.with {stw st1 : S} {ρ : Rh} {H : Hp} (e : Ext ρ stw H ρ' st' H') (hw : stw.ce = ce) : Ext ρ (st0.with ce) H ρ' (st1.with st'.ce) H' :=
  ⟨fun a o h n => e.keep a o h fun v => n ((Vol.ce hw a).mp v), e.pre, e.same, e.un, fun a v => (e.more a v).imp (Vol.ce hw a).mp id, e.mono⟩
/-- .. a stretch further -/
theorem Grow.go (G : Grow g ρ0 st0 H0 σ p ρ ce H acc ds) (h0 : H0 p = none) {stw : S} (hw : stw.ce = ce) (e : Ext ρ stw H ρ' st' H') (c : Cells g ρ' H' st') : Grow g ρ0 st0 H0 σ p ρ' st'.ce H' acc ds where
  ext := Ext.step_lev G.ext G.u h0 (e.with hw)
  u := e.same.trans G.u
  sim := G.sim.back (e.with hw) c
  at' := by rw [e.un p (by rw [G.u]; exact .inr rfl)]; exact G.at'
  rp := G.rp.go (e.with hw)
theorem Grow.push (G : Grow g ρ0 st0 H0 σ p ρ ce H acc ds) (h0 : H0 p = none) (su : ∀ a, ρ0.U a → ∃ u, H0 a = some u) {y : V} {d : D} (r : Rp g (Vol ρ (st0.with ce)) H y d) : Grow g ρ0 st0 H0 σ p ρ ce (upd H p (.lst (acc ++ [y]))) (acc ++ [y]) (ds ++ [d]) where
  ext := Ext.touch G.ext h0 su
  u := G.u
  sim := G.sim.touch (by rw [G.u]; exact .inr rfl) nt_l
  at' := upd_same
  rp := (G.rp.append (RpA.cons r RpA.nil)).ext (keep_touch (by rw [G.u]; exact .inr rfl))
theorem Grow.end (G : Grow g ρ0 st0 H0 σ p ρ ce H acc ds) (h0 : H0 p = none) (su : ∀ a, ρ0.U a → ∃ u, H0 a = some u) : Ext ρ0 st0 H0 (ρ.lev ρ0.U) (st0.with ce) H ∧ Sim g (ρ.lev ρ0.U) σ H (st0.with ce) ∧ Rp g (Vol (ρ.lev ρ0.U) (st0.with ce)) H (.ref p) (.lst ds) := by
  have hU : ∀ a, ρ0.U a → ρ.U a := fun a h => by rw [G.u]; exact .inl h
  refine ⟨G.ext, G.sim.lev hU, Rp.lst' G.at' ?_ (G.rp.ext fun a o h n => ⟨h, fun v => n (vol_lev hU v)⟩)⟩
  rintro (v | ⟨k, c, h1, hc, h2⟩)
  · obtain ⟨u, hu⟩ := su p v
    rw [h0] at hu; cases hu
  · exact G.sim.out k c p h1 hc h2 (by rw [G.u]; exact .inr rfl)
/-- the reading of a comprehension -/
theorem tM_lc {mi : MI} {tgd : Tg} {t : TG} {is vs : List Nat} {tt : MT} {me : M} (ok : GOk g tgd t is) (hv : ∀ i ∈ is, i ∈ vs) {σ : L2.St} {H : Hp} {Q : VK} (h : tM g ER (mLc mi tgd tt me vs) σ H Q) :
    tLc (tMI g ER mi) t (tMT g erNo tt) (tM g erNo me) vs σ H Q := by
  obtain ⟨ρ, st, s, h⟩ := h
  refine ⟨ρ, st, s, (OutC.bind h).mono fun ds st0 ρ0 H0 _ h0 s0 J hJ => ?_⟩
  intro p hp
  cases er : lcS tgd tt me (wipeS st0.sl vs) ds st0.ce with
  | none => simp only [er] at h0; exact h0.elim
  | some r =>
  obtain ⟨xs, ceE⟩ := r
  simp only [er] at h0
  by_cases hz : xs.length ≤ 1000000
  case neg => rw [if_neg hz] at h0; exact h0.elim
  rw [if_pos hz] at h0
  refine ⟨fun i m H' => m = ds.length - i ∧ i ≤ ds.length ∧ ∃ ρ ce acc dd rest, Grow g ρ0 st0 H0 σ p ρ ce H' acc dd ∧ lcS tgd tt me (wipeS st0.sl vs) (ds.drop i) ce = some (rest, ceE) ∧ dd ++ rest = xs, ⟨ds.length, rfl, Nat.zero_le _, _, _, _, _, xs, Grow.zero s0 hp, er, rfl⟩, ?_⟩
  rintro i m H1 ⟨rfl, hi, ρ1, ce1, acc, dd, rest, Gr, er1, hx⟩
  by_cases hlt : i < ds.length
  · have hd : ds.drop i = ds[i] :: ds.drop (i + 1) := List.drop_eq_getElem_cons hlt
    rw [hd] at er1
    unfold lcS at er1
    have hget : ds[i]? = some ds[i] := List.getElem?_eq_getElem hlt
    have kp : ∀ a o, H0 a = some o → ¬ Vol ρ0 st0 a → H1 a = some o ∧ ¬ Vol ρ1 (st0.with ce1) a := fun a o h n => by
      obtain ⟨h1, n1⟩ := Gr.ext.keep a o h n
      refine ⟨h1, fun v => ?_⟩
      rcases v with v | v
      · rw [Gr.u] at v
        rcases v with v | v
        · exact n1 (.inl v)
        · rw [v, hp] at h; cases h
      · exact n1 (.inr v)
    obtain ⟨go, yl⟩ := (hJ (Vol ρ1 (st0.with ce1)) H1 kp (fun a v => Gr.sim.volT v) i).1 _ hget
    refine .inr ⟨go, fun H' => i + 1 ≤ ds.length ∧ ∃ ρ ce acc dd rest, Grow g ρ0 st0 H0 σ p ρ ce H' acc dd ∧ lcS tgd tt me (wipeS st0.sl vs) (ds.drop (i + 1)) ce = some (rest, ceE) ∧ dd ++ rest = xs, fun H' ⟨a, b⟩ => ⟨ds.length - (i + 1), by omega, rfl, a, b⟩, fun x H2 hy => ?_⟩
    obtain ⟨hH, r2⟩ := yl x H2 hy
    obtain ⟨x2, s2⟩ := Ext.like Gr.sim hH
    cases e1 : tgd ds[i] ⟨wipeS st0.sl vs, ce1⟩ with
    | none => simp only [e1] at er1; cases er1
    | some st3 =>
    simp only [e1] at er1
    have G2 := Gr.go hp (stw := st0.with ce1) rfl x2 s2.toCells
    have sw := G2.sim.wipe vs
    refine ok ρ1 _ H2 ⟨wipeS st0.sl vs, ce1⟩ x _ st3 _ e1 sw r2 fun σ3 s3 ce3 hw => ⟨by rw [hw vs hv]; exact wipe_wipe σ vs vs fun _ h => h, ?_⟩
    have G3 := G2.go hp (stw := st3) ce3 Ext.refl s3.toCells
    refine ⟨ρ1, st3, s3, ?_⟩
    cases e2 : tt st3 with
    | no => simp only [e2] at er1; cases er1
    | er c v s => simp only [e2] at er1; cases er1
    | ok b st4 =>
    intro ρ4 H4 x4 s4
    have G4 := G2.go hp (stw := st3) ce3 x4 s4.toCells
    cases b with
    | false =>
      simp only [e2] at er1
      rw [if_neg (by decide)]
      exact ⟨hlt, ρ4, st4.ce, acc, dd, rest, G4, er1, hx⟩
    | true =>
      simp only [e2] at er1
      rw [if_pos rfl]
      refine ⟨ρ4, st4, s4, ?_⟩
      cases e3 : me st4 with
      | no => simp only [e3] at er1; cases er1
      | er c v s => simp only [e3] at er1; cases er1
      | ok d st5 =>
      simp only [e3] at er1
      intro ρ5 H5 x5 s5 y ry
      cases e4 : lcS tgd tt me (wipeS st0.sl vs) (ds.drop (i + 1)) st5.ce with
      | none => simp only [e4] at er1; cases er1
      | some r5 =>
      obtain ⟨rest5, ce5⟩ := r5
      simp only [e4] at er1
      cases Option.some.inj er1
      have G5 := G4.go hp (stw := st4) rfl x5 s5.toCells
      have ry' : Rp g (Vol ρ5 (st0.with st5.ce)) H5 y d := ry
      have hl : acc.length = dd.length := G5.rp.1
      have hz2 : dd.length + (rest5.length + 1) ≤ 1000000 := by
        have q : dd ++ d :: rest5 = xs := hx
        rw [← q, List.length_append, List.length_cons] at hz
        exact hz
      exact ⟨acc, G5.at', by have : (1000000 : Nat) < sizeLine := by decide
                             omega, hlt, ρ5, st5.ce, _, _, rest5, G5.push hp s0.uo ry', e4, by rw [List.append_assoc]; exact hx⟩
  · have e : i = ds.length := by omega
    subst e
    rw [List.drop_length] at er1
    unfold lcS at er1
    cases Option.some.inj er1
    rw [List.append_nil] at hx
    subst hx
    have kp : ∀ a o, H0 a = some o → ¬ Vol ρ0 st0 a → H1 a = some o ∧ ¬ Vol (ρ1.lev ρ0.U) (st0.with ceE) a := Gr.ext.keep
    obtain ⟨q1, q2, q3⟩ := Gr.end hp s0.uo
    exact .inl ⟨(hJ _ H1 kp (fun a v => q2.volT v) _).2 (Nat.le_refl _), h0 _ H1 q1 q2 _ q3⟩
/-- no test -/
def mYes : MT := fun st => .ok true st
theorem pts_mNil {X : Cx} : PTs X [] (tMT g erNo mYes) := ⟨fun pq s σ H Q I h => by
  obtain ⟨ρ, st, sm, h⟩ := h
  exact (pts_nil (X := X)).run pq s σ H Q I (h ρ H Ext.refl sm)⟩
theorem pe_mLc {X : Cx} {elt tg iter : Expr} {ifs : List Expr} {scope : Scope} {own : List (Str × Nat)} {pos : Pos} {mi : MI} {tgd : Tg} {t : TG} {is : List Nat} {tt : MT} {me : M} (hc : X.calm = true) (hN : X.N.Nodup) (hi : PI X tg iter (tMI g ER mi)) (bk : BlkOk X.N X.env.scope scope own) (ok : GOk g tgd t is) (hv : ∀ i ∈ is, i ∈ own.map (·.2))
    (hg : ∀ (s : Shared) (H : Hp) (C : Addr) (cl : List (Str × Addr)) (fp : List Addr), PG (X.blk s H scope (compEnvC scope cl C X.env) fp) tg t) (ht : ∀ (s : Shared) (H : Hp) (C : Addr) (cl : List (Str × Addr)) (fp : List Addr), PTs (X.blk s H scope (compEnvC scope cl C X.env) fp) ifs (tMT g erNo tt))
    (he : ∀ (s : Shared) (H : Hp) (C : Addr) (cl : List (Str × Addr)) (fp : List Addr), PE (X.blk s H scope (compEnvC scope cl C X.env) fp) elt (tM g erNo me)) (hs : ∀ x, foldedSetIterable iter X.env x = pure x := by intro _; rfl) :
    PE X (.ListComp elt [⟨tg, iter, ifs, 0⟩] scope pos) (tM g ER (mLc mi tgd tt me (own.map (·.2)))) := PEi (pe_lc hc hN hi bk hg ht he hs) fun _ _ _ h => tM_lc ok hv h
theorem ps_mLc {X : Cx} {i : Nat} {y : Str} {py : Pos} {elt tg iter : Expr} {ifs : List Expr} {scope : Scope} {own : List (Str × Nat)} {pos spos : Pos} {mi : MI} {tgd : Tg} {t : TG} {is : List Nat} {tt : MT} {me : M} (hc : X.calm = true) (hN : X.N.Nodup) (hy : X.N[i]? = some y) (hyl : X.env.scope.names.lookup y = some .local)
    (hsw : swapsWith (.ListComp elt [⟨tg, iter, ifs, 0⟩] scope pos) (some (.Name y py)) spos.line X.env = pure true) (hi : PI X tg iter (tMI g ER mi)) (bk : BlkOk X.N X.env.scope scope own) (ok : GOk g tgd t is) (hv : ∀ i ∈ is, i ∈ own.map (·.2))
    (hg : ∀ (s : Shared) (H : Hp) (C : Addr) (cl : List (Str × Addr)) (fp : List Addr), PG (X.blk s H scope (compEnvC scope cl C X.env) fp) tg t) (ht : ∀ (s : Shared) (H : Hp) (C : Addr) (cl : List (Str × Addr)) (fp : List Addr), PTs (X.blk s H scope (compEnvC scope cl C X.env) fp) ifs (tMT g erNo tt))
    (he : ∀ (s : Shared) (H : Hp) (C : Addr) (cl : List (Str × Addr)) (fp : List Addr), PE (X.blk s H scope (compEnvC scope cl C X.env) fp) elt (tM g erNo me)) (hs : ∀ x, foldedSetIterable iter X.env x = pure x := by intro _; rfl) :
    PS X (.Assign [.Name y py] (.ListComp elt [⟨tg, iter, ifs, 0⟩] scope pos) spos) (tMS g ER (mAsg i (mLc mi tgd tt me (own.map (·.2))))) := by
  refine PSi (ps_setLc hc hN hy hyl hsw hi bk hg ht he hs) fun E σ H h => ?_
  obtain ⟨ρ, st, s, h⟩ := h
  refine tM_lc ok hv ⟨ρ, st, s, (OutS.bind h).mono fun d st1 ρ1 H1 _ h1 s1 v rv => ?_⟩
  exact h1 ρ1 _ H1 (Ext.put i _) (s1.put i ⟨v, rfl, rv⟩)
end
end RE
set_option maxHeartbeats 2000000
namespace RE
open PySem PySem.Spec PyProof.Rows L2
end RE
set_option maxHeartbeats 2000000
namespace RE
open PySem PySem.Spec PyProof.Rows L2
/-- d[k] = v by a comprehension, the key a tuple -/
theorem dset_t {X : Cx} {pn : List (Addr × Obj)} {σ : L2.St} {H : Hp} {s : Shared} {E : Value → Shared → Prop} {p b : Addr} {kv : List (List Key × V)} {k : List Key} {v : V} {u r : Value} {Q : Unit → Shared → Prop}
    (hu : X.A.units < cLine) (In : Inv X pn σ H s) (hp : H p = some (.dT kv)) (hz : kv.length < sizeLine) (hb : H b = some (.tup (k.map kV))) (ru : RelV (.ref b) u) (rv : RelV v r)
    (h : ∀ s', Inv X pn σ (upd H p (.dT (putK kv k v))) s' → Q () s') : wpAny (model X.prog X.w) X.A (dictSet p u r) Q E s := by
  cases (show u = Value.ref b from ru)
  obtain ⟨z, nd, xs, rel, dd⟩ := dt_of In.hok hp
  have lx : xs.length ≤ sizeLine := by rw [← Paired.length rel]; exact z
  have lp : (putK kv k v).length ≤ sizeLine := by have := length_putK kv k v; omega
  have key := key_of In.hok hb
  unfold dictSet
  refine wpAny_holding (wpAny_bind (wpAny_pyHash_tuple hu key ?_))
  refine wpAny_dictSetHashed_heap (knd := tupleKind (mixKind X.prog X.w)) (hsz := lx) hu key dd fun h' dd' hs => ?_
  obtain ⟨q, en, ep, hq, h2, h3, h4, _, h5⟩ := dd'
  have I1 := In.tok (s.toks + (k.length + 1))
  refine h _ (d_write I1 (by rw [hp]; exact True.intro) hs ⟨q, hq⟩ ⟨lp, nd, _, (rel.put k hb rv).keeps fun c ys ec => ?_, q, en, ep, hq, h2, h3, h4, h5⟩)
  rw [upd_ne (ne_of ec hp (fun z => nomatch z))]
  exact ec
/-- .. of any kind -/
theorem dset_any {X : Cx} {pn : List (Addr × Obj)} {σ : L2.St} {H H' : Hp} {s : Shared} {E : Value → Shared → Prop} {p : Addr} {y v : V} {u r : Value} {Q : Unit → Shared → Prop}
    (hu : X.A.units < cLine) (In : Inv X pn σ H s) (dp : DPut H p y v H') (ru : RelV y u) (rv : RelV v r)
    (h : ∀ s', Inv X pn σ H' s' → Q () s') : wpAny (model X.prog X.w) X.A (dictSet p u r) Q E s := by
  rcases dp with ⟨kv, k, e1, e2, e3, e4⟩ | ⟨kv, k, b, e1, e2, e3, e4, e5⟩
  · subst e2 e4
    exact d_dictSet In e1 e3 ru rv h
  · subst e2 e5
    exact dset_t hu In e1 e4 e3 ru rv h
/-- a new dict, of either kind -/
inductive NewD : HO → Prop where
  | k : NewD (.dK [])
  | t : NewD (.dT [])
/-- a turn of a loop of a block: the item, its store, the tests -/
theorem turn_go {Y : Cx} {tg : Expr} {ifs : List Expr} {J : It} {fq : List Addr} {itr : Addr} {tn : Nat → Heap → Prop} {i : Nat} {pn : List (Addr × Obj)} {s : Shared} {σ : L2.St} {H : Hp} {gt : TG} {tt : TT} {P : Bool → L2.St → Hp → Prop} {E : Value → Shared → Prop} {F : Bool → Shared → Prop} {N : Shared → Prop}
    (hY : Y.xe = fun _ _ => False) (calm : Y.calm = true) (T : Turn Y.prog Y.w Y.K tg J fq itr tn) (pg : PG Y tg gt) (pt : PTs Y ifs tt)
    (In : Inv Y pn σ H s) (off : ∀ b ∈ fq, FpOk Y pn H b) (t : tn i s.heap) (go : J.go i H)
    (h : ∀ x H', J.yld i H x H' → gt x σ H' fun σ2 H2 => tt σ2 H2 fun b H3 => P b σ2 H3)
    (hF : ∀ b (s7 : Shared) σ2 H3 (s9 : Shared), tn (i + 1) s7.heap → Inv Y (pn ++ pinsAt fq s7.heap) σ2 H3 s9 → P b σ2 H3 → F b s9) :
    wpAny (model Y.prog Y.w) Y.A (pyNext (.ref itr)) (fun r s1 => match r with
      | none => N s1
      | some v => wpAny (model Y.prog Y.w) Y.A (letOwnedTupleGo tg (.ref itr) v) (fun _ s2 => wpAny (model Y.prog Y.w) Y.A (assign tg Y.env v) (fun _ s3 =>
          wpAny (model Y.prog Y.w) Y.A (forIn ifs true fun c r => if r = true then do let ok ← isTrue c Y.env (eval c Y.env); pure (ForInStep.yield ok) else pure (ForInStep.yield r)) F E s3) E s2) E s1) E s := by
  refine thnF (T.item Y rfl rfl rfl calm i pn s σ H (fun _ _ => False) In off t go) fun r s1 hr => ?_
  obtain ⟨u, rfl, h1⟩ := hr
  refine thnF h1 fun _ s2 h2 => ?_
  obtain ⟨x, H2, I2, r2, y2, t2, n2⟩ := h2
  have I3 := I2.pinned (fun b hb => ⟨n2 b hb, (off b hb).2⟩) (T.obj _ _ t2)
  have q1 := pg.run _ s2 σ H2 x u _ I3 r2 (h x H2 y2)
  rw [hY] at q1
  refine thnF q1 fun _ s3 h3 => ?_
  obtain ⟨σ3, H3, I4, q4⟩ := h3
  have q2 := pt.run _ s3 σ3 H3 _ I4 q4
  rw [hY] at q2
  refine thnF q2 fun b s9 h9 => ?_
  obtain ⟨H9, I9, q9⟩ := h9
  exact hF b s2 σ3 H9 s9 t2 I9 q9
/-- .. its end -/
theorem turn_end {Y : Cx} {tg : Expr} {J : It} {fq : List Addr} {itr : Addr} {tn : Nat → Heap → Prop} {i : Nat} {pn : List (Addr × Obj)} {s7 s9 : Shared} {σ : L2.St} {H : Hp}
    (T : Turn Y.prog Y.w Y.K tg J fq itr tn) (t : tn i s7.heap) (In : Inv Y (pn ++ pinsAt fq s7.heap) σ H s9) : tn i s9.heap ∧ (∀ b ∈ fq, H b = none) ∧ Inv Y pn σ H s9 := by
  have pin : ∀ b ∈ fq, ∀ o, s7.heap.get? b = some o → s9.heap.get? b = some o ∧ H b = none := fun b hb o e =>
    have z := In.pin (b, o) (List.mem_append_right _ (List.mem_append_right _ (mem_pinsAt hb e)))
    ⟨z.1, z.2.1⟩
  refine ⟨T.keep _ _ _ t fun b hb o e => (pin b hb o e).1, fun b hb => ?_, In.unpinned⟩
  obtain ⟨o, e, _⟩ := T.obj _ _ t b hb
  exact (pin b hb o e).2
/-- the block of a comprehension that makes a dict at p -/
structure Blk (X : Cx) (pn : List (Addr × Obj)) (σ : L2.St) (vs : List Nat) (fq : List Addr) (tn : Nat → Heap → Prop) (sc : Scope) (ce : Env) (HD : Hp) (sD sB : Shared) : Prop where
  beg : Inv (X.blk sD HD sc ce fq) [] (wipe σ vs) HD sB
  off : ∀ b ∈ fq, HD b = none
  its : tn 0 sB.heap
  stay : ∀ {σ' : L2.St} {H' : Hp} {s' : Shared}, Inv (X.blk sD HD sc ce fq) [] σ' H' s' → (∀ b ∈ fq, H' b = none) → ∀ b ∈ fq, FpOk (X.blk sD HD sc ce fq) [] H' b
  out : ∀ {σ' : L2.St} {H' : Hp} {s' : Shared}, Inv (X.blk sD HD sc ce fq) [] σ' H' s' → Inv X pn σ H' s' ∧ (∃ m, s'.heap.Ns sD.heap.objs.size m) ∧ FpOk X pn H' sD.heap.objs.size
theorem Blk.make {X : Cx} {pn : List (Addr × Obj)} {σ : L2.St} {own : List (Str × Nat)} {fq : List Addr} {tn : Nat → Heap → Prop} {sc : Scope} {H : Hp} {s : Shared} {o0 : HO} {tg : Expr} {J : It} {itr : Addr}
    (n0 : NewD o0) (hN : X.N.Nodup) (In : Inv X pn σ H s) (T : Turn X.prog X.w X.K tg J fq itr tn) (t : tn 0 s.heap) (off : ∀ b ∈ fq, FpOk X pn H b) (ok : BlkOk X.N X.env.scope sc own)
    {sD sB : Shared} {ce : Env} (eD : sD = { s with heap := s.heap.push { cls := .type "dict", data := .dict #[] } }) (eB : sB = { sD with heap := pushCells (sD.heap.push { cls := .type "dict", data := .dict #[] }) sc.names })
    (eC : ce = compEnvC sc (cellsFrom (sD.heap.objs.size + 1) sc.names (cloFrom X.env.cells sc.names [])) sD.heap.objs.size X.env) :
    Blk X pn σ (own.map (·.2)) fq tn sc ce (upd H s.heap.objs.size o0) sD sB := by
  have ID : Inv X pn σ (upd H s.heap.objs.size o0) sD := by
    rw [eD]
    refine In.laid (t' := s.toks) (fun b o e => Heap.get?_push_of_some _ e) (Nat.le_refl _) ?_
    cases n0 with
    | k => exact dk_empty s.heap In.big
    | t => exact dt_empty s.heap In.big
  have kD : ∀ b o, s.heap.get? b = some o → sD.heap.get? b = some o := fun b o e => by rw [eD]; exact Heap.get?_push_of_some _ e
  have fD : ∀ b ∈ fq, FpOk X pn (upd H s.heap.objs.size o0) b ∧ b < sD.heap.objs.size := fun b hb => by
    obtain ⟨o, e, _⟩ := T.obj _ _ t b hb
    have lt := Heap.lt_size e
    refine ⟨⟨?_, (off b hb).2⟩, Heap.lt_size (kD b o e)⟩
    rw [upd_ne (Nat.ne_of_lt lt)]
    exact (off b hb).1
  have IB := block_start ID ok hN fD
  have IB' : Inv (X.blk sD (upd H s.heap.objs.size o0) sc ce fq) [] (wipe σ (own.map (·.2))) (upd H s.heap.objs.size o0) sB := by rw [eB, eC]; exact IB
  have kB : ∀ b o, s.heap.get? b = some o → sB.heap.get? b = some o := fun b o e => by
    rw [eB]; exact pushCells_keeps _ _ _ _ (Heap.get?_push_of_some _ (kD b o e))
  have cl : ce.locals = sD.heap.objs.size := by rw [eC]; rfl
  refine ⟨IB', fun b hb => (fD b hb).1.1, T.keep _ _ _ t fun b _ o e => kB b o e, fun {σ' H' s'} I' hn b hb => ?_, fun {σ' H' s'} I' => ?_⟩
  · exact ⟨hn b hb, (I'.ok.exf b hb).1, I'.ok.exfs b hb, .inl hb, fun x c e => (I'.ok.exf b hb).2 x c e, fun p hp => absurd (show p ∈ ([] : List (Addr × Obj)) ++ [] from hp) (by simp)⟩
  · have I1 : Inv X pn σ H' s' := ID.call' (ch := fq) I'.os I'.base I'.hok I'.bare fun b hb => by
      obtain ⟨_, a1, a2, a3, a4, a5⟩ := (fD b hb).1
      exact ⟨a3, a1, a4, a5⟩
    have nl : H' ce.locals = none := I'.free
    obtain ⟨m, hm, _⟩ := I'.loc
    have hm : s'.heap.Ns ce.locals m := hm
    rw [cl] at nl hm
    exact ⟨I1, ⟨m, hm⟩, ID.fpOk (Nat.le_refl _) nl⟩
section
variable {X : Cx}
def tDcA (o0 : HO) (wi : TI) (g : TG) (tt : TT) (tk tv : TE) (vs : List Nat) : TE := fun σ H Q => wi σ H fun J H1 => ∀ p, H1 p = none → ∃ W : Nat → Nat → Hp → Prop, (∃ m, W 0 m (upd H1 p o0)) ∧ ∀ i m H, W i m H →
  (J.stop i H ∧ Q (.ref p) H) ∨
  (J.go i H ∧ ∃ Nx : Hp → Prop, (∀ H', Nx H' → ∃ m', m' < m ∧ W (i + 1) m' H') ∧
    ∀ x H', J.yld i H x H' → g x (wipe σ vs) H' fun σ2 H2 => tt σ2 H2 fun b H3 => wipe σ2 vs = wipe σ vs ∧
      if b = true then tk σ2 H3 fun y H4 => tv σ2 H4 fun z H5 => ∃ H6, DPut H5 p y z H6 ∧ Nx H6 else Nx H3)
theorem dcA_loop {pn : List (Addr × Obj)} {σ : L2.St} {Q : VK} {kx vx tg iter : Expr} {ifs : List Expr} {sc : Scope} {own : List (Str × Nat)} {pos : Pos} {gt : TG} {tt : TT} {tk tv : TE} {use : Option (Value → Sem Unit)} {Qf : Value → Shared → Prop}
    {p itr : Addr} {fq : List Addr} {tn : Nat → Heap → Prop} {J : It} {sD sB : Shared} {ce : Env} {HD : Hp} {W : Nat → Nat → Hp → Prop} {m0 : Nat}
    (hu : X.A.units < cLine) (calm : X.calm = true) (T : Turn X.prog X.w X.K tg J fq itr tn) (B : Blk X pn σ (own.map (·.2)) fq tn sc ce HD sD sB)
    (pg : PG (X.blk sD HD sc ce fq) tg gt) (pt : PTs (X.blk sD HD sc ce fq) ifs tt) (pk : PE (X.blk sD HD sc ce fq) kx tk) (pv : PE (X.blk sD HD sc ce fq) vx tv)
    (w0 : W 0 m0 HD) (step : ∀ i m H, W i m H → (J.stop i H ∧ Q (.ref p) H) ∨
      (J.go i H ∧ ∃ Nx : Hp → Prop, (∀ H', Nx H' → ∃ m', m' < m ∧ W (i + 1) m' H') ∧
        ∀ x H', J.yld i H x H' → gt x (wipe σ (own.map (·.2))) H' fun σ2 H2 => tt σ2 H2 fun b H3 => wipe σ2 (own.map (·.2)) = wipe σ (own.map (·.2)) ∧
          if b = true then tk σ2 H3 fun y H4 => tv σ2 H4 fun z H5 => ∃ H6, DPut H5 p y z H6 ∧ Nx H6 else Nx H3))
    (fin : ∀ s' m H', Inv X pn σ H' s' → Q (.ref p) H' → s'.heap.Ns sD.heap.objs.size m → FpOk X pn H' sD.heap.objs.size → compPost (model X.prog X.w) X.A X.xe use Qf (.ref p) sD.heap.objs.size (.ok .next) s') :
    codeAny (model X.prog X.w) X.A (.compLoop (.DictComp kx vx [⟨tg, iter, ifs, 0⟩] sc pos) 0 (.ref itr) (.ref p) ce) (compPost (model X.prog X.w) X.A X.xe use Qf (.ref p) sD.heap.objs.size) sB := by
  refine compLoop_anyD (fun n s' => ∃ i H', Inv (X.blk sD HD sc ce fq) [] (wipe σ (own.map (·.2))) H' s' ∧ tn i s'.heap ∧ (∀ b ∈ fq, H' b = none) ∧ W i n H') ?_ m0 ⟨0, _, B.beg, B.its, B.off, w0⟩
  rintro n s5 ⟨i, H5, I5, t5, n5, w5⟩
  rcases step i n H5 w5 with ⟨stop, qq⟩ | ⟨go, Nx, hNx, st⟩
  · refine thnF (T.done (X.blk sD HD sc ce fq) rfl rfl rfl calm i [] s5 _ H5 (fun _ _ => False) I5 (B.stay I5 n5) t5 stop) fun r s6 hr => ?_
    obtain ⟨rfl, I6⟩ := hr
    obtain ⟨I7, ⟨m, hm⟩, f7⟩ := B.out I6
    exact fin s6 m H5 I7 qq hm f7
  · refine turn_go (Y := X.blk sD HD sc ce fq) rfl calm T pg pt I5 (B.stay I5 n5) t5 go st fun b s7 σ9 H9 s9 t7 I9 q9 => ?_
    obtain ⟨hw, q9⟩ := q9
    have close : ∀ {s' : Shared} {H' : Hp}, Inv (X.blk sD HD sc ce fq) ([] ++ pinsAt fq s7.heap) σ9 H' s' → Nx H' →
        ∃ m, m < n ∧ ∃ i H', Inv (X.blk sD HD sc ce fq) [] (wipe σ (own.map (·.2))) H' s' ∧ tn i s'.heap ∧ (∀ b ∈ fq, H' b = none) ∧ W i m H' := fun {s' H'} I' nx => by
      obtain ⟨mn, hm, w'⟩ := hNx H' nx
      obtain ⟨e1, e2, e3⟩ := turn_end (Y := X.blk sD HD sc ce fq) T t7 I'
      exact ⟨mn, hm, i + 1, H', e3.weak (by rw [← hw, wipe_length]) (fun j v e => by rw [← hw] at e; exact (wipe_some e).1), e1, e2, w'⟩
    cases b with
    | false => exact close I9 q9
    | true =>
      refine thnF (pk.run _ s9 σ9 H9 _ I9 q9) fun z sa ha => ?_
      obtain ⟨y, Ha, Ia, ra, qa⟩ := ha
      refine thnF (pv.run _ sa σ9 Ha _ Ia qa) fun z' sb hb => ?_
      obtain ⟨y', Hb, Ib, rb, Hc, dp, nx⟩ := hb
      exact dset_any (X := X.blk sD HD sc ce fq) hu Ib dp ra rb fun sc Ic => close Ic nx
theorem dcA_run {pn : List (Addr × Obj)} {s : Shared} {σ : L2.St} {H : Hp} {Q : VK} {kx vx tg iter : Expr} {ifs : List Expr} {sc : Scope} {own : List (Str × Nat)} {pos pos' : Pos} {o0 : HO} {wi : TI} {gt : TG} {tt : TT} {tk tv : TE} {use : Option (Value → Sem Unit)} {Qf : Value → Shared → Prop}
    (n0 : NewD o0) (hu : X.A.units < cLine) (calm : X.calm = true) (hN : X.N.Nodup) (In : Inv X pn σ H s) (hi : PI X tg iter wi) (ok : BlkOk X.N X.env.scope sc own)
    (pg : ∀ (s : Shared) (H : Hp) (C : Addr) (cl : List (Str × Addr)) (fq : List Addr), PG (X.blk s H sc (compEnvC sc cl C X.env) fq) tg gt)
    (pt : ∀ (s : Shared) (H : Hp) (C : Addr) (cl : List (Str × Addr)) (fq : List Addr), PTs (X.blk s H sc (compEnvC sc cl C X.env) fq) ifs tt)
    (pk : ∀ (s : Shared) (H : Hp) (C : Addr) (cl : List (Str × Addr)) (fq : List Addr), PE (X.blk s H sc (compEnvC sc cl C X.env) fq) kx tk)
    (pv : ∀ (s : Shared) (H : Hp) (C : Addr) (cl : List (Str × Addr)) (fq : List Addr), PE (X.blk s H sc (compEnvC sc cl C X.env) fq) vx tv)
    (hs : ∀ x, foldedSetIterable iter X.env x = pure x) (h : tDcA o0 wi gt tt tk tv (own.map (·.2)) σ H Q)
    (fin : ∀ p C s' m H', Inv X pn σ H' s' → Q (.ref p) H' → s'.heap.Ns C m → FpOk X pn H' C → compPost (model X.prog X.w) X.A X.xe use Qf (.ref p) C (.ok .next) s') :
    wpAny (model X.prog X.w) X.A (comprehension (.DictComp kx vx [⟨tg, iter, ifs, 0⟩] sc pos) sc X.env pos' newDict false (eval iter X.env) use) Qf X.xe s := by
  have free : ∀ y ∈ sc.names, y.2 = .free → ∃ c, X.env.cells.lookup y.1 = some c := fun y hy e => In.ok.has _ (ok.free y hy e)
  refine wpAny_comprehension_free (use := use) rfl hs (closure_ok free) ok.kind (fun y hy e => by rw [ok.uniq y hy, e]) (thn (hi.run pn s σ H _ In h) fun xv s1 h1 => thn h1 fun iv s2 h2 => ?_)
  obtain ⟨itr, fq, tn, J, H2, rfl, I2, T, t2, f2, q⟩ := h2
  refine wpAny_newObj_type ?_
  refine newEnv_comp ?_
  obtain ⟨W, ⟨m0, w0⟩, step⟩ := q s2.heap.objs.size (I2.hok.fresh (Nat.le_refl _))
  have B := Blk.make n0 hN I2 T t2 f2 ok rfl rfl rfl
  have lp := dcA_loop (Q := Q) (use := use) (Qf := Qf) (iter := iter) (pos := pos) hu calm T B (pg _ _ _ _ _) (pt _ _ _ _ _) (pk _ _ _ _ _) (pv _ _ _ _ _) w0 step fun s' m H' I' q hm f => fin _ _ s' m H' I' q hm f
  exact codeAny_compStart_dict lp (T.self X.A 0 _ _ _ B.its lp)
theorem pe_dcA {kx vx tg iter : Expr} {ifs : List Expr} {sc : Scope} {own : List (Str × Nat)} {pos : Pos} {o0 : HO} {wi : TI} {gt : TG} {tt : TT} {tk tv : TE}
    (n0 : NewD o0) (hu : X.A.units < cLine) (calm : X.calm = true) (hN : X.N.Nodup) (hi : PI X tg iter wi) (ok : BlkOk X.N X.env.scope sc own)
    (pg : ∀ (s : Shared) (H : Hp) (C : Addr) (cl : List (Str × Addr)) (fq : List Addr), PG (X.blk s H sc (compEnvC sc cl C X.env) fq) tg gt)
    (pt : ∀ (s : Shared) (H : Hp) (C : Addr) (cl : List (Str × Addr)) (fq : List Addr), PTs (X.blk s H sc (compEnvC sc cl C X.env) fq) ifs tt)
    (pk : ∀ (s : Shared) (H : Hp) (C : Addr) (cl : List (Str × Addr)) (fq : List Addr), PE (X.blk s H sc (compEnvC sc cl C X.env) fq) kx tk)
    (pv : ∀ (s : Shared) (H : Hp) (C : Addr) (cl : List (Str × Addr)) (fq : List Addr), PE (X.blk s H sc (compEnvC sc cl C X.env) fq) vx tv)
    (hs : ∀ x, foldedSetIterable iter X.env x = pure x := by intro _; rfl) :
    PE X (.DictComp kx vx [⟨tg, iter, ifs, 0⟩] sc pos) (tDcA o0 wi gt tt tk tv (own.map (·.2))) := by
  refine ⟨fun pn s σ H Q In h => ?_⟩
  rw [arm_eval_DictComp]
  refine dcA_run n0 hu calm hN In hi ok pg pt pk pv hs h fun p C s' m H' I' q hn f => ⟨m, hn, fun h2 sb => ?_⟩
  obtain ⟨a0, a1, a2, a3, a4, a5⟩ := f
  exact ⟨.ref p, H', I'.turned (t' := s'.toks) (fun b o hb e => (sb.2 b hb).trans e) a0 a1 a3 a4 a5, rfl, q⟩
end
end RE
set_option maxHeartbeats 2000000
namespace RE
open PySem PySem.Spec PyProof.Rows L2
/-- a kind of dicts: by keys that are numbers and texts, by keys that are tuples of them -/
structure DKind (κ : Type) [DecidableEq κ] where
  ho : List (κ × V) → HO
  dd : List (κ × D) → D
  key : D → Option κ
  new : NewD (ho [])
  nt : ∀ kvs, NT (ho kvs)
  put : ∀ (g : G) (A : Addr → Prop) (H : Hp) (y v : V) (d : D) (k : κ) (kvs : List (κ × V)) (p : Addr), Rp g A H y d → key d = some k → H p = some (ho kvs) → kvs.length < sizeLine → DPut H p y v (upd H p (ho (putK kvs k v)))
  rp : ∀ (g : G) (A : Addr → Prop) (H : Hp) (p : Addr) (kvs : List (κ × V)) (ds : List (κ × D)), H p = some (ho kvs) → ¬ A p → kvs.map (·.1) = ds.map (·.1) → RpA g A H (kvs.map (·.2)) (ds.map (·.2)) → Rp g A H (.ref p) (dd ds)
theorem pair_split {κ : Type} {g : G} {A : Addr → Prop} {H : Hp} {kvs : List (κ × V)} {ds : List (κ × D)} (hk : kvs.map (·.1) = ds.map (·.1)) (r : RpA g A H (kvs.map (·.2)) (ds.map (·.2))) :
    kvs.length = ds.length ∧ (∀ (i : Nat) x d, kvs[i]? = some x → ds[i]? = some d → x.1 = d.1) ∧ ∀ (i : Nat) x d, kvs[i]? = some x → ds[i]? = some d → Rp g A H x.2 d.2 := by
  refine ⟨by have := congrArg List.length hk; simpa using this, fun i x d h1 h2 => ?_, fun i x d h1 h2 => r.2 i x.2 d.2 (by rw [List.getElem?_map, h1]; rfl) (by rw [List.getElem?_map, h2]; rfl)⟩
  have e1 : (kvs.map (·.1))[i]? = some x.1 := by rw [List.getElem?_map, h1]; rfl
  have e2 : (ds.map (·.1))[i]? = some d.1 := by rw [List.getElem?_map, h2]; rfl
  rw [hk, e2] at e1
  exact (Option.some.inj e1).symm
def dkK : DKind Key where
  ho := .dK
  dd := .dK
  key := keyD
  new := .k
  nt := fun _ _ z => by cases z
  put := fun g A H y v d k kvs p r e hp hz => by
    rw [keyD_ok r e]
    exact DPut.k hp hz
  rp := fun g A H p kvs ds hp n hk r => by
    obtain ⟨a, b, c⟩ := pair_split hk r
    exact .dK (.inl hp) n a b c
def dkT : DKind (List Key) where
  ho := .dT
  dd := .dT
  key := keysD
  new := .t
  nt := fun _ _ z => by cases z
  put := fun g A H y v d k kvs p r e hp hz => by
    obtain ⟨b, rfl, hb⟩ := keysD_ok r e
    exact DPut.t hp hb hz
  rp := fun g A H p kvs ds hp n hk r => by
    obtain ⟨a, b, c⟩ := pair_split hk r
    exact .dT (.inl hp) n a b c
section
variable {κ : Type}
variable [DecidableEq κ]
def putE (ds : List (κ × D)) (k : κ) (d : D) : List (κ × D) := if (ds.any fun e => decide (e.1 = k)) = true then ds.map (fun e => if e.1 = k then (e.1, d) else e) else ds ++ [(k, d)]
theorem putE_len (ds : List (κ × D)) (k : κ) (d : D) : ds.length ≤ (putE ds k d).length := by
  unfold putE
  split
  · rw [List.length_map]; exact Nat.le_refl _
  · rw [List.length_append]; omega
theorem putE_ok {g : G} {A : Addr → Prop} {H : Hp} {kvs : List (κ × V)} {ds : List (κ × D)} {k : κ} {v : V} {d : D} (hk : kvs.map (·.1) = ds.map (·.1)) (r : RpA g A H (kvs.map (·.2)) (ds.map (·.2))) (rv : Rp g A H v d) :
    (putK kvs k v).map (·.1) = (putE ds k d).map (·.1) ∧ RpA g A H ((putK kvs k v).map (·.2)) ((putE ds k d).map (·.2)) := by
  have e : (kvs.any fun e => decide (e.1 = k)) = ds.any fun e => decide (e.1 = k) := by
    have q1 : (kvs.any fun e => decide (e.1 = k)) = (kvs.map (·.1)).any fun x => decide (x = k) := by rw [List.any_map]; rfl
    have q2 : (ds.any fun e => decide (e.1 = k)) = (ds.map (·.1)).any fun x => decide (x = k) := by rw [List.any_map]; rfl
    rw [q1, q2, hk]
  unfold putK putE
  rw [e]
  split
  · rename_i hany
    clear e hany
    induction kvs generalizing ds with
    | nil => cases ds with
      | nil => exact ⟨rfl, RpA.nil⟩
      | cons _ _ => cases hk
    | cons x xs ih => cases ds with
      | nil => cases hk
      | cons y ys =>
        have h1 : x.1 = y.1 := (List.cons.inj hk).1
        have h2 : xs.map (·.1) = ys.map (·.1) := (List.cons.inj hk).2
        obtain ⟨r1, r2⟩ := r.uncons
        obtain ⟨i1, i2⟩ := ih h2 r2
        by_cases hx : x.1 = k
        · have hy : y.1 = k := by rw [← h1]; exact hx
          simp only [List.map_cons, if_pos hx, if_pos hy]
          exact ⟨by rw [h1]; exact congrArg _ i1, RpA.cons rv i2⟩
        · have hy : ¬ y.1 = k := by rw [← h1]; exact hx
          simp only [List.map_cons, if_neg hx, if_neg hy]
          exact ⟨by rw [h1]; exact congrArg _ i1, RpA.cons r1 i2⟩
  · rw [List.map_append, List.map_append, List.map_append, List.map_append, hk]
    exact ⟨rfl, r.append (RpA.cons rv RpA.nil)⟩
variable (DK : DKind κ)
def dcS (tg : Tg) (tt : MT) (mk mv : M) (w : List Sl) : List D → List Ce → List (κ × D) → Option (List (κ × D) × List Ce)
  | [], ce, acc => some (acc, ce)
  | d :: ds, ce, acc => match tg d ⟨w, ce⟩ with
    | none => none
    | some st1 => match tt st1 with
      | .ok true st2 => match mk st2 with
        | .ok y st3 => match DK.key y with
          | some k => match mv st3 with
            | .ok z st4 => dcS tg tt mk mv w ds st4.ce (putE acc k z)
            | _ => none
          | none => none
        | _ => none
      | .ok false st2 => dcS tg tt mk mv w ds st2.ce acc
      | _ => none
def mDc (mi : MI) (tg : Tg) (tt : MT) (mk mv : M) (vs : List Nat) : M := fun st => bindO (mi st) fun ds st1 => match dcS DK tg tt mk mv (wipeS st1.sl vs) ds st1.ce [] with
  | some (xs, ce) => if xs.length ≤ 1000000 then .ok (DK.dd xs) (st1.with ce) else .no
  | none => .no
theorem dcS_len {tg : Tg} {tt : MT} {mk mv : M} {w : List Sl} : ∀ (ds : List D) (ce : List Ce) (acc : List (κ × D)) (r : List (κ × D) × List Ce), dcS DK tg tt mk mv w ds ce acc = some r → acc.length ≤ r.1.length
  | [], ce, acc, r, h => by cases Option.some.inj h; exact Nat.le_refl _
  | d :: ds, ce, acc, r, h => by
    unfold dcS at h
    split at h
    · cases h
    · split at h
      · split at h
        · split at h
          · split at h
            · exact Nat.le_trans (putE_len _ _ _) (dcS_len _ _ _ _ h)
            · cases h
          · cases h
        · cases h
      · exact dcS_len _ _ _ _ h
      · cases h
/-- a dict that grows at p, not spoken of -/
structure GrowD (g : G) (ρ0 : Rh) (st0 : S) (H0 : Hp) (σ : L2.St) (p : Addr) (ρ : Rh) (ce : List Ce) (H : Hp) (acc : List (κ × V)) (ds : List (κ × D)) : Prop where
  ext : Ext ρ0 st0 H0 (ρ.lev ρ0.U) (st0.with ce) H
  u : ρ.U = (ρ0.ent p).U
  sim : Sim g ρ σ H (st0.with ce)
  at' : H p = some (DK.ho acc)
  ks : acc.map (·.1) = ds.map (·.1)
  rp : RpA g (Vol ρ (st0.with ce)) H (acc.map (·.2)) (ds.map (·.2))
variable {DK}
variable {g : G} {ER : EK} {ρ0 ρ ρ' : Rh} {st0 st' : S} {H0 H H' : Hp} {σ σ' : L2.St} {p : Addr} {ce : List Ce} {acc : List (κ × V)} {ds : List (κ × D)}
theorem GrowD.zero (s : Sim g ρ0 σ H0 st0) (hp : H0 p = none) : GrowD DK g ρ0 st0 H0 σ p (ρ0.ent p) st0.ce (upd H0 p (DK.ho [])) [] [] where
  ext := Ext.zero hp s.uo
  u := rfl
  sim := s.ent hp (DK.nt _)
  at' := upd_same
  ks := rfl
  rp := RpA.nil
theorem GrowD.go (G : GrowD DK g ρ0 st0 H0 σ p ρ ce H acc ds) (h0 : H0 p = none) {stw : S} (hw : stw.ce = ce) (e : Ext ρ stw H ρ' st' H') (c : Cells g ρ' H' st') : GrowD DK g ρ0 st0 H0 σ p ρ' st'.ce H' acc ds where
  ext := Ext.step_lev G.ext G.u h0 (e.with hw)
  u := e.same.trans G.u
  sim := G.sim.back (e.with hw) c
  at' := by rw [e.un p (by rw [G.u]; exact .inr rfl)]; exact G.at'
  ks := G.ks
  rp := G.rp.go (e.with hw)
theorem GrowD.push (G : GrowD DK g ρ0 st0 H0 σ p ρ ce H acc ds) (h0 : H0 p = none) (su : ∀ a, ρ0.U a → ∃ u, H0 a = some u) {k : κ} {v : V} {d : D} (r : Rp g (Vol ρ (st0.with ce)) H v d) : GrowD DK g ρ0 st0 H0 σ p ρ ce (upd H p (DK.ho (putK acc k v))) (putK acc k v) (putE ds k d) where
  ext := Ext.touch G.ext h0 su
  u := G.u
  sim := G.sim.touch (by rw [G.u]; exact .inr rfl) (DK.nt _)
  at' := upd_same
  ks := (putE_ok G.ks G.rp r).1
  rp := (putE_ok G.ks G.rp r).2.ext (keep_touch (by rw [G.u]; exact .inr rfl))
theorem GrowD.end (G : GrowD DK g ρ0 st0 H0 σ p ρ ce H acc ds) (h0 : H0 p = none) (su : ∀ a, ρ0.U a → ∃ u, H0 a = some u) : Ext ρ0 st0 H0 (ρ.lev ρ0.U) (st0.with ce) H ∧ Sim g (ρ.lev ρ0.U) σ H (st0.with ce) ∧ Rp g (Vol (ρ.lev ρ0.U) (st0.with ce)) H (.ref p) (DK.dd ds) := by
  have hU : ∀ a, ρ0.U a → ρ.U a := fun a h => by rw [G.u]; exact .inl h
  refine ⟨G.ext, G.sim.lev hU, DK.rp g _ H p acc ds G.at' ?_ G.ks (G.rp.ext fun a o h n => ⟨h, fun v => n (vol_lev hU v)⟩)⟩
  rintro (v | ⟨k, c, h1, hc, h2⟩)
  · obtain ⟨u, hu⟩ := su p v
    rw [h0] at hu; cases hu
  · exact G.sim.out k c p h1 hc h2 (by rw [G.u]; exact .inr rfl)
theorem GrowD.kp (Gr : GrowD DK g ρ0 st0 H0 σ p ρ ce H acc ds) (hp : H0 p = none) : ∀ a o, H0 a = some o → ¬ Vol ρ0 st0 a → H a = some o ∧ ¬ Vol ρ (st0.with ce) a := fun a o h n => by
  obtain ⟨h1, n1⟩ := Gr.ext.keep a o h n
  refine ⟨h1, fun v => ?_⟩
  rcases v with v | v
  · rw [Gr.u] at v
    rcases v with v | v
    · exact n1 (.inl v)
    · rw [v, hp] at h; cases h
  · exact n1 (.inr v)
theorem tM_dc {mi : MI} {tgd : Tg} {t : TG} {is vs : List Nat} {tt : MT} {mk mv : M} (ok : GOk g tgd t is) (hv : ∀ i ∈ is, i ∈ vs) {σ : L2.St} {H : Hp} {Q : VK} (h : tM g ER (mDc DK mi tgd tt mk mv vs) σ H Q) :
    tDcA (DK.ho []) (tMI g ER mi) t (tMT g erNo tt) (tM g erNo mk) (tM g erNo mv) vs σ H Q := by
  obtain ⟨ρ, st, s, h⟩ := h
  refine ⟨ρ, st, s, (OutC.bind h).mono fun ds st0 ρ0 H0 _ h0 s0 J hJ => ?_⟩
  intro p hp
  cases er : dcS DK tgd tt mk mv (wipeS st0.sl vs) ds st0.ce [] with
  | none => simp only [er] at h0; exact h0.elim
  | some r =>
  obtain ⟨xs, ceE⟩ := r
  simp only [er] at h0
  by_cases hz : xs.length ≤ 1000000
  case neg => rw [if_neg hz] at h0; exact h0.elim
  rw [if_pos hz] at h0
  refine ⟨fun i m H' => m = ds.length - i ∧ i ≤ ds.length ∧ ∃ ρ ce acc dd, GrowD DK g ρ0 st0 H0 σ p ρ ce H' acc dd ∧ dcS DK tgd tt mk mv (wipeS st0.sl vs) (ds.drop i) ce dd = some (xs, ceE), ⟨ds.length, rfl, Nat.zero_le _, _, _, _, _, GrowD.zero s0 hp, er⟩, ?_⟩
  rintro i m H1 ⟨rfl, hi, ρ1, ce1, acc, dd, Gr, er1⟩
  by_cases hlt : i < ds.length
  · have hd : ds.drop i = ds[i] :: ds.drop (i + 1) := List.drop_eq_getElem_cons hlt
    rw [hd] at er1
    unfold dcS at er1
    have hget : ds[i]? = some ds[i] := List.getElem?_eq_getElem hlt
    obtain ⟨go, yl⟩ := (hJ (Vol ρ1 (st0.with ce1)) H1 (Gr.kp hp) (fun a v => Gr.sim.volT v) i).1 _ hget
    refine .inr ⟨go, fun H' => i + 1 ≤ ds.length ∧ ∃ ρ ce acc dd, GrowD DK g ρ0 st0 H0 σ p ρ ce H' acc dd ∧ dcS DK tgd tt mk mv (wipeS st0.sl vs) (ds.drop (i + 1)) ce dd = some (xs, ceE), fun H' ⟨a, b⟩ => ⟨ds.length - (i + 1), by omega, rfl, a, b⟩, fun x H2 hy => ?_⟩
    obtain ⟨hH, r2⟩ := yl x H2 hy
    obtain ⟨x2, s2⟩ := Ext.like Gr.sim hH
    cases e1 : tgd ds[i] ⟨wipeS st0.sl vs, ce1⟩ with
    | none => simp only [e1] at er1; cases er1
    | some st3 =>
    simp only [e1] at er1
    have G2 := Gr.go hp (stw := st0.with ce1) rfl x2 s2.toCells
    have sw := G2.sim.wipe vs
    refine ok ρ1 _ H2 ⟨wipeS st0.sl vs, ce1⟩ x _ st3 _ e1 sw r2 fun σ3 s3 ce3 hw => ?_
    have hww : wipe σ3 vs = wipe σ vs := by rw [hw vs hv]; exact wipe_wipe σ vs vs fun _ h => h
    refine ⟨ρ1, st3, s3, ?_⟩
    cases e2 : tt st3 with
    | no => simp only [e2] at er1; cases er1
    | er c v s => simp only [e2] at er1; cases er1
    | ok b st4 =>
    intro ρ4 H4 x4 s4
    have G4 := G2.go hp (stw := st3) ce3 x4 s4.toCells
    refine ⟨hww, ?_⟩
    cases b with
    | false =>
      simp only [e2] at er1
      rw [if_neg (by decide)]
      exact ⟨hlt, ρ4, st4.ce, acc, dd, G4, er1⟩
    | true =>
      simp only [e2] at er1
      rw [if_pos rfl]
      refine ⟨ρ4, st4, s4, ?_⟩
      cases e3 : mk st4 with
      | no => simp only [e3] at er1; cases er1
      | er c v s => simp only [e3] at er1; cases er1
      | ok y st5 =>
      simp only [e3] at er1
      intro ρ5 H5 x5 s5 u ru
      refine ⟨ρ5, st5, s5, ?_⟩
      cases e4 : DK.key y with
      | none => simp only [e4] at er1; cases er1
      | some k =>
      simp only [e4] at er1
      cases e5 : mv st5 with
      | no => simp only [e5] at er1; cases er1
      | er c v s => simp only [e5] at er1; cases er1
      | ok z st6 =>
      simp only [e5] at er1
      intro ρ6 H6 x6 s6 q rq
      have G5 := G4.go hp (stw := st4) rfl x5 s5.toCells
      have G6 := G5.go hp (stw := st5) rfl x6 s6.toCells
      have hl : acc.length = dd.length := by have := congrArg List.length G6.ks; simpa using this
      have hz2 := Nat.le_trans (putE_len dd k z) (dcS_len DK _ _ _ _ er1)
      have hz3 : acc.length < sizeLine := by
        have : (1000000 : Nat) < sizeLine := by decide
        have hz2 : dd.length ≤ xs.length := hz2
        omega
      refine ⟨_, DK.put g _ H6 u q y k acc p (ru.go x6) e4 G6.at' hz3, hlt, ρ6, st6.ce, _, _, G6.push hp s0.uo rq, er1⟩
  · have e : i = ds.length := by omega
    subst e
    rw [List.drop_length] at er1
    unfold dcS at er1
    cases Option.some.inj er1
    obtain ⟨q1, q2, q3⟩ := Gr.end hp s0.uo
    exact .inl ⟨(hJ _ H1 q1.keep (fun a v => q2.volT v) _).2 (Nat.le_refl _), h0 _ H1 q1 q2 _ q3⟩
section
variable {X : Cx} {kx vx tg iter : Expr} {ifs : List Expr} {sc : Scope} {own : List (Str × Nat)} {pos : Pos} {mi : MI} {tgd : Tg} {gt : TG} {is : List Nat} {tt : MT} {mk mv : M}
theorem pe_mDc (hu : X.A.units < cLine) (calm : X.calm = true) (hN : X.N.Nodup) (hi : PI X tg iter (tMI g ER mi)) (bk : BlkOk X.N X.env.scope sc own) (ok : GOk g tgd gt is) (hv : ∀ i ∈ is, i ∈ own.map (·.2))
    (pg : ∀ (s : Shared) (H : Hp) (C : Addr) (cl : List (Str × Addr)) (fq : List Addr), PG (X.blk s H sc (compEnvC sc cl C X.env) fq) tg gt)
    (pt : ∀ (s : Shared) (H : Hp) (C : Addr) (cl : List (Str × Addr)) (fq : List Addr), PTs (X.blk s H sc (compEnvC sc cl C X.env) fq) ifs (tMT g erNo tt))
    (pk : ∀ (s : Shared) (H : Hp) (C : Addr) (cl : List (Str × Addr)) (fq : List Addr), PE (X.blk s H sc (compEnvC sc cl C X.env) fq) kx (tM g erNo mk))
    (pv : ∀ (s : Shared) (H : Hp) (C : Addr) (cl : List (Str × Addr)) (fq : List Addr), PE (X.blk s H sc (compEnvC sc cl C X.env) fq) vx (tM g erNo mv))
    (hs : ∀ x, foldedSetIterable iter X.env x = pure x := by intro _; rfl) :
    PE X (.DictComp kx vx [⟨tg, iter, ifs, 0⟩] sc pos) (tM g ER (mDc DK mi tgd tt mk mv (own.map (·.2)))) := PEi (pe_dcA DK.new hu calm hN hi bk pg pt pk pv hs) fun _ _ _ h => tM_dc ok hv h
end
end
end RE
set_option maxHeartbeats 2000000
namespace RE
open PySem PySem.Spec PyProof.Rows L2
def S.addC (st : S) (i : Nat) (c : Ce) : S := ⟨st.sl.set i (.rf st.ce.length), st.ce ++ [c]⟩
def S.setC (st : S) (k : Nat) (c : Ce) : S := ⟨st.sl, st.ce.set k c⟩
/-- a cell as a datum -/
def Ce.dat : Ce → Option D
  | .dead => none
  | .l ds => some (.lst ds)
  | .dK ds => some (.dK ds)
  | .dT ds => some (.dT ds)
  | _ => none
/-- from here on a datum, for whoever holds it -/
def S.frz (st : S) (k : Nat) (d : D) : S := ⟨st.sl.map fun s => match s with
  | .rf j => if j = k then .d d else s
  | _ => s, st.ce.set k .dead⟩
theorem Ce.alive_of {c : Ce} {d : D} (h : c.dat = some d) : c.alive = true := by cases c <;> first | rfl | cases h
def Rh.addC (ρ : Rh) (p : Addr) : Rh := ⟨ρ.ad ++ [p], ρ.U⟩
section
variable {g : G} {ρ ρ' : Rh} {σ σ' : L2.St} {H H' : Hp} {st st' : S} {p a : Addr} {o : HO} {i k : Nat} {c : Ce} {d : D}
theorem vol_addC {b : Addr} (hl : ρ.ad.length = st.ce.length) : Vol (ρ.addC p) (st.addC i c) b → Vol ρ st b ∨ b = p := by
  rintro (v | ⟨j, c', h1, h2, h3⟩)
  · exact .inl (.inl v)
  · have h1 : (st.ce ++ [c])[j]? = some c' := h1
    have h3 : (ρ.ad ++ [p])[j]? = some b := h3
    by_cases hj : j < st.ce.length
    · rw [List.getElem?_append_left hj] at h1
      rw [List.getElem?_append_left (by rw [hl]; exact hj)] at h3
      exact .inl (.inr ⟨j, c', h1, h2, h3⟩)
    · rw [List.getElem?_append_right (by rw [hl]; omega), hl] at h3
      cases e : j - st.ce.length with
      | zero => rw [e] at h3; exact .inr (Option.some.inj h3).symm
      | succ n => rw [e] at h3; simp at h3
theorem Ext.addC (s : Sim g ρ σ H st) (hp : H p = none) : Ext ρ st H (ρ.addC p) (st.addC i c) (upd H p o) where
  keep := fun b u h n => ⟨by rw [upd_ne (ne_of_none h hp)]; exact h, fun v => by
    rcases vol_addC s.clen v with v | v
    · exact n v
    · rw [v, hp] at h; cases h⟩
  pre := fun j b h => by
    obtain ⟨hj, _⟩ := List.getElem?_eq_some_iff.mp h
    show (ρ.ad ++ [p])[j]? = _
    rw [List.getElem?_append_left hj]; exact h
  same := rfl
  un := fun b h => by
    obtain ⟨u, hu⟩ := s.uo b h
    exact upd_ne (ne_of_none hu hp)
  more := fun b v => by
    rcases vol_addC s.clen v with v | v
    · exact .inl v
    · right; rw [v]; exact hp
  mono := fun b h => by
    by_cases e : b = p
    · rw [e]; exact hp
    · rw [upd_ne e] at h; exact h
theorem Sim.addC (s : Sim g ρ σ H st) (hp : H p = none) (hc : CeOk g (Vol (ρ.addC p) (st.addC i c)) (ρ.addC p).ad (upd H p o) p c) : Sim g (ρ.addC p) (σ.set i (some (.ref p))) (upd H p o) (st.addC i c) where
  uok := fun b h => by
    obtain ⟨u, hu, nt⟩ := s.uok b h
    exact ⟨u, by rw [upd_ne (ne_of_none hu hp)]; exact hu, nt⟩
  clen := by show (ρ.ad ++ [p]).length = (st.ce ++ [c]).length; rw [List.length_append, List.length_append, s.clen]; rfl
  cell := fun j c' b h1 h2 => by
    have h1 : (st.ce ++ [c])[j]? = some c' := h1
    have h2 : (ρ.ad ++ [p])[j]? = some b := h2
    by_cases hj : j < st.ce.length
    · rw [List.getElem?_append_left hj] at h1
      rw [List.getElem?_append_left (by rw [s.clen]; exact hj)] at h2
      by_cases ha : c'.alive = true
      · obtain ⟨u, hu⟩ := s.vol (a := b) (.inr ⟨j, c', h1, ha, h2⟩)
        exact (s.cell j c' b h1 h2).ext (upd_ne (ne_of_none hu hp)) (Ext.addC (c := c) (i := i) s hp).keep (Ext.addC (c := c) (i := i) (o := o) s hp).pre
      · cases c' <;> first | trivial | exact absurd rfl ha
    · rw [List.getElem?_append_right (by omega)] at h1
      rw [List.getElem?_append_right (by rw [s.clen]; omega), s.clen] at h2
      cases e : j - st.ce.length with
      | zero =>
        rw [e] at h1 h2
        cases Option.some.inj h1
        cases Option.some.inj h2
        exact hc
      | succ n => rw [e] at h1; simp at h1
  inj := fun j l c1 c2 b h1 h2 a1 a2 e1 e2 => by
    have h1 : (st.ce ++ [c])[j]? = some c1 := h1
    have h2 : (st.ce ++ [c])[l]? = some c2 := h2
    have e1 : (ρ.ad ++ [p])[j]? = some b := e1
    have e2 : (ρ.ad ++ [p])[l]? = some b := e2
    have split : ∀ (m : Nat) (c3 : Ce), (st.ce ++ [c])[m]? = some c3 → (ρ.ad ++ [p])[m]? = some b → (m < st.ce.length ∧ st.ce[m]? = some c3 ∧ ρ.ad[m]? = some b) ∨ (m = st.ce.length ∧ b = p) := fun m c3 q1 q2 => by
      by_cases hj : m < st.ce.length
      · rw [List.getElem?_append_left hj] at q1
        rw [List.getElem?_append_left (by rw [s.clen]; exact hj)] at q2
        exact .inl ⟨hj, q1, q2⟩
      · rw [List.getElem?_append_right (by omega)] at q1
        rw [List.getElem?_append_right (by rw [s.clen]; omega), s.clen] at q2
        cases e : m - st.ce.length with
        | zero => rw [e] at q2; exact .inr ⟨by omega, (Option.some.inj q2).symm⟩
        | succ n => rw [e] at q1; simp at q1
    rcases split j c1 h1 e1 with ⟨_, q1, q2⟩ | ⟨q1, q2⟩
    · rcases split l c2 h2 e2 with ⟨_, r1, r2⟩ | ⟨r1, r2⟩
      · exact s.inj j l c1 c2 b q1 r1 a1 a2 q2 r2
      · obtain ⟨u, hu⟩ := s.vol (a := b) (.inr ⟨j, c1, q1, a1, q2⟩)
        rw [r2, hp] at hu; cases hu
    · rcases split l c2 h2 e2 with ⟨_, r1, r2⟩ | ⟨r1, r2⟩
      · obtain ⟨u, hu⟩ := s.vol (a := b) (.inr ⟨l, c2, r1, a2, r2⟩)
        rw [q2, hp] at hu; cases hu
      · rw [q1, r1]
  out := fun j c' b h1 ha h2 v => by
    have v' : ρ.U b := v
    obtain ⟨u, hu⟩ := s.uo b v'
    rcases vol_addC (c := c) (i := i) s.clen (.inr ⟨j, c', h1, ha, h2⟩ : Vol (ρ.addC p) (st.addC i c) b) with q | q
    · have h1 : (st.ce ++ [c])[j]? = some c' := h1
      have h2 : (ρ.ad ++ [p])[j]? = some b := h2
      by_cases hj : j < st.ce.length
      · rw [List.getElem?_append_left hj] at h1
        rw [List.getElem?_append_left (by rw [s.clen]; exact hj)] at h2
        exact s.out j c' b h1 ha h2 v'
      · rw [List.getElem?_append_right (by rw [s.clen]; omega), s.clen] at h2
        cases e : j - st.ce.length with
        | zero =>
          rw [e] at h2
          cases Option.some.inj h2
          rw [hp] at hu; cases hu
        | succ n => rw [e] at h2; simp at h2
    · rw [q, hp] at hu; cases hu
  len := by show (σ.set i _).length = (st.sl.set i _).length; rw [List.length_set, List.length_set]; exact s.len
  slot := fun j sl v h1 h2 => by
    have h1 : (st.sl.set i (.rf st.ce.length))[j]? = some sl := h1
    rw [List.getElem?_set] at h1 h2
    by_cases e : i = j
    · rw [if_pos e] at h1 h2
      split at h1
      · split at h2
        · cases Option.some.inj h1
          cases Option.some.inj h2
          exact ⟨p, rfl, by show (ρ.ad ++ [p])[st.ce.length]? = _; rw [List.getElem?_append_right (by rw [s.clen]; exact Nat.le_refl _), s.clen, Nat.sub_self]; rfl⟩
        · cases h2
      · cases h1
    · rw [if_neg e] at h1 h2
      exact (s.slot j sl v h1 h2).ext (Ext.addC (c := c) (i := i) s hp).keep (Ext.addC (c := c) (i := i) (o := o) s hp).pre
/-- a cell that is written -/
theorem vol_setC {b : Addr} (hk : ∃ c0, st.ce[k]? = some c0 ∧ c0.alive = true) : Vol ρ (st.setC k c) b → Vol ρ st b := by
  rintro (v | ⟨j, c', h1, h2, h3⟩)
  · exact .inl v
  · have h1 : (st.ce.set k c)[j]? = some c' := h1
    rw [List.getElem?_set] at h1
    by_cases e : k = j
    · obtain ⟨c0, q1, q2⟩ := hk
      exact .inr ⟨j, c0, by rw [← e]; exact q1, q2, h3⟩
    · rw [if_neg e] at h1
      exact .inr ⟨j, c', h1, h2, h3⟩
theorem Ext.setC {c0 : Ce} (s : Sim g ρ σ H st) (hk : st.ce[k]? = some c0) (h0 : c0.alive = true) (ha : ρ.ad[k]? = some a) : Ext ρ st H ρ (st.setC k c) (upd H a o) where
  keep := fun b u h n => ⟨by rw [upd_ne (fun e => n (by rw [e]; exact .inr ⟨k, c0, hk, h0, ha⟩))]; exact h, fun v => n (vol_setC ⟨c0, hk, h0⟩ v)⟩
  pre := fun _ _ h => h
  same := rfl
  un := fun b h => upd_ne fun e => s.out k c0 a hk h0 ha (by rw [← e]; exact h)
  more := fun b v => .inl (vol_setC ⟨c0, hk, h0⟩ v)
  mono := fun b h => by
    by_cases e : b = a
    · rw [e, upd_same] at h; cases h
    · rw [upd_ne e] at h; exact h
theorem Sim.setC {c0 : Ce} (s : Sim g ρ σ H st) (hk : st.ce[k]? = some c0) (h0 : c0.alive = true) (ha : ρ.ad[k]? = some a) (hc1 : c.alive = true) (hc : CeOk g (Vol ρ (st.setC k c)) ρ.ad (upd H a o) a c) : Sim g ρ σ (upd H a o) (st.setC k c) where
  uok := fun b h => by
    by_cases e : b = a
    · rw [e]; exact hc.nt hc1
    · rw [upd_ne e]; exact s.uok b h
  clen := by show ρ.ad.length = (st.ce.set k c).length; rw [List.length_set]; exact s.clen
  cell := fun j c' b h1 h2 => by
    have h1 : (st.ce.set k c)[j]? = some c' := h1
    rw [List.getElem?_set] at h1
    by_cases e : k = j
    · rw [if_pos e] at h1
      split at h1
      · cases Option.some.inj h1
        rw [← e, ha] at h2
        cases Option.some.inj h2
        exact hc
      · cases h1
    · rw [if_neg e] at h1
      by_cases hal : c'.alive = true
      · refine (s.cell j c' b h1 h2).ext (upd_ne fun z => e ?_) (Ext.setC s hk h0 ha).keep
        exact s.inj k j c0 c' b hk h1 h0 hal (by rw [z]; exact ha) h2
      · cases c' <;> first | trivial | exact absurd rfl hal
  inj := fun j l c1 c2 b h1 h2 a1 a2 e1 e2 => by
    have old : ∀ (m : Nat) (c3 : Ce), (st.ce.set k c)[m]? = some c3 → c3.alive = true → ∃ c4, st.ce[m]? = some c4 ∧ c4.alive = true := fun m c3 q q' => by
      rw [List.getElem?_set] at q
      by_cases e : k = m
      · exact ⟨c0, by rw [← e]; exact hk, h0⟩
      · rw [if_neg e] at q; exact ⟨c3, q, q'⟩
    obtain ⟨c3, q1, q2⟩ := old j c1 h1 a1
    obtain ⟨c4, q3, q4⟩ := old l c2 h2 a2
    exact s.inj j l c3 c4 b q1 q3 q2 q4 e1 e2
  out := fun j c1 b h1 a1 e1 v => by
    have h1 : (st.ce.set k c)[j]? = some c1 := h1
    rw [List.getElem?_set] at h1
    by_cases e : k = j
    · exact s.out j c0 b (by rw [← e]; exact hk) h0 e1 v
    · rw [if_neg e] at h1; exact s.out j c1 b h1 a1 e1 v
  len := s.len
  slot := fun j sl v h1 h2 => (s.slot j sl v h1 h2).ext (Ext.setC s hk h0 ha).keep fun _ _ h => h
/-- a cell that is let go -/
theorem vol_frz {b : Addr} : Vol ρ (st.frz k d) b → Vol ρ st b := by
  rintro (v | ⟨j, c', h1, h2, h3⟩)
  · exact .inl v
  · have h1 : (st.ce.set k .dead)[j]? = some c' := h1
    rw [List.getElem?_set] at h1
    by_cases e : k = j
    · rw [if_pos e] at h1
      split at h1
      · cases Option.some.inj h1; cases h2
      · cases h1
    · rw [if_neg e] at h1
      exact .inr ⟨j, c', h1, h2, h3⟩
theorem Ext.frz : Ext ρ st H ρ (st.frz k d) H where
  keep := fun b u h n => ⟨h, fun v => n (vol_frz v)⟩
  pre := fun _ _ h => h
  same := rfl
  un := fun _ _ => rfl
  more := fun b v => .inl (vol_frz v)
  mono := fun _ h => h
theorem frz_rp {c0 : Ce} (s : Sim g ρ σ H st) (hk : st.ce[k]? = some c0) (hd : c0.dat = some d) (ha : ρ.ad[k]? = some a) : Rp g (Vol ρ (st.frz k d)) H (.ref a) d := by
  have al := Ce.alive_of hd
  have nv : ¬ Vol ρ (st.frz k d) a := by
    rintro (v | ⟨j, c', h1, h2, h3⟩)
    · exact s.out k c0 a hk al ha v
    · have h1 : (st.ce.set k .dead)[j]? = some c' := h1
      rw [List.getElem?_set] at h1
      by_cases e : k = j
      · rw [if_pos e] at h1
        split at h1
        · cases Option.some.inj h1; cases h2
        · cases h1
      · rw [if_neg e] at h1
        exact e (s.inj k j c0 c' a hk h1 al h2 ha h3)
  have kp : ∀ a o, H a = some o → ¬ Vol ρ st a → H a = some o ∧ ¬ Vol ρ (st.frz k d) a := fun b u h n => ⟨h, fun v => n (vol_frz v)⟩
  have q := s.cell k c0 a hk ha
  cases c0 with
  | dead => cases hd
  | l ds => cases Option.some.inj hd; obtain ⟨xs, e, r⟩ := q; exact Rp.lst' e nv (r.ext kp)
  | dK ds => cases Option.some.inj hd; obtain ⟨xs, e, q, r⟩ := q; exact dkK.rp g _ H a xs ds e nv q (r.ext kp)
  | dT ds => cases Option.some.inj hd; obtain ⟨xs, e, q, r⟩ := q; exact dkT.rp g _ H a xs ds e nv q (r.ext kp)
  | _ => cases hd
theorem Sim.frz {c0 : Ce} (s : Sim g ρ σ H st) (hk : st.ce[k]? = some c0) (hd : c0.dat = some d) : Sim g ρ σ H (st.frz k d) where
  uok := s.uok
  clen := by show ρ.ad.length = (st.ce.set k .dead).length; rw [List.length_set]; exact s.clen
  cell := fun j c' b h1 h2 => by
    have h1 : (st.ce.set k .dead)[j]? = some c' := h1
    rw [List.getElem?_set] at h1
    by_cases e : k = j
    · rw [if_pos e] at h1
      split at h1
      · cases Option.some.inj h1; trivial
      · cases h1
    · rw [if_neg e] at h1
      exact (s.cell j c' b h1 h2).ext rfl fun _ _ h n => ⟨h, fun v => n (vol_frz v)⟩
  inj := fun j l c1 c2 b h1 h2 a1 a2 e1 e2 => by
    have old : ∀ (m : Nat) (c3 : Ce), (st.ce.set k .dead)[m]? = some c3 → c3.alive = true → st.ce[m]? = some c3 := fun m c3 q q' => by
      rw [List.getElem?_set] at q
      by_cases e : k = m
      · rw [if_pos e] at q
        split at q
        · cases Option.some.inj q; cases q'
        · cases q
      · rw [if_neg e] at q; exact q
    exact s.inj j l c1 c2 b (old j c1 h1 a1) (old l c2 h2 a2) a1 a2 e1 e2
  out := fun j c1 b h1 a1 e1 v => by
    have h1 : (st.ce.set k .dead)[j]? = some c1 := h1
    rw [List.getElem?_set] at h1
    by_cases e : k = j
    · rw [if_pos e] at h1
      split at h1
      · cases Option.some.inj h1; cases a1
      · cases h1
    · rw [if_neg e] at h1; exact s.out j c1 b h1 a1 e1 v
  len := by show σ.length = (st.sl.map _).length; rw [List.length_map]; exact s.len
  slot := fun j sl v h1 h2 => by
    have h1 : (st.sl.map _)[j]? = some sl := h1
    rw [List.getElem?_map] at h1
    obtain ⟨sl0, q0, q1⟩ := Option.map_eq_some_iff.mp h1
    have q := s.slot j sl0 v q0 h2
    cases sl0 with
    | no => cases q1; trivial
    | d x => cases q1; obtain ⟨u, eu, r⟩ := q; exact ⟨u, eu, r.ext fun _ _ h n => ⟨h, fun v => n (vol_frz v)⟩⟩
    | rf m =>
      obtain ⟨b, eb, hb⟩ := q
      by_cases e : m = k
      · have q1 : (if m = k then Sl.d d else Sl.rf m) = sl := q1
        rw [if_pos e] at q1
        subst q1
        refine ⟨.ref b, eb, frz_rp s hk hd ?_⟩
        rw [← e]; exact hb
      · have q1 : (if m = k then Sl.d d else Sl.rf m) = sl := q1
        rw [if_neg e] at q1
        subst q1
        exact ⟨b, eb, hb⟩
theorem Sim.rf (s : Sim g ρ σ H st) (h : st.sl[i]? = some (.rf k)) : ∃ a, σ[i]? = some (some (.ref a)) ∧ ρ.ad[k]? = some a := by
  obtain ⟨hi, _⟩ := (List.getElem?_eq_some_iff).mp h
  have hs : i < σ.length := by rw [s.len]; exact hi
  obtain ⟨a, e, q⟩ := s.slot i _ _ h (List.getElem?_eq_getElem hs)
  exact ⟨a, by rw [List.getElem?_eq_getElem hs, e], q⟩
end
end RE
set_option maxHeartbeats 2000000
namespace RE
open PySem PySem.Spec PyProof.Rows L2
section
variable {X : Cx} {g : G} {ER : EK} {pos pos' : Pos}
def mVarF (i : Nat) : M := fun st => match st.sl[i]? with
  | some (.d x) => .ok x st
  | some (.rf k) => match st.ce[k]? with
    | some c => match c.dat with
      | some d => .ok d (st.frz k d)
      | none => .no
    | none => .no
  | _ => .no
theorem pe_mVarF {i : Nat} {x : Str} (p : PE X (.Name x pos) (tVar i)) : PE X (.Name x pos) (tM g ER (mVarF i)) := by
  refine PEi p fun σ H Q h => ?_
  obtain ⟨ρ, st, s, h⟩ := h
  cases e : st.sl[i]? with
  | none => simp only [mVarF, e] at h; exact h.elim
  | some sl =>
    cases sl with
    | no => simp only [mVarF, e] at h; exact h.elim
    | d y =>
      simp only [mVarF, e] at h
      obtain ⟨hi, _⟩ := List.getElem?_eq_some_iff.mp e
      have hs : i < σ.length := by rw [s.len]; exact hi
      obtain ⟨u, hu, r⟩ := s.slot i _ _ e (List.getElem?_eq_getElem hs)
      exact ⟨u, by rw [List.getElem?_eq_getElem hs, hu], h ρ H Ext.refl s u r⟩
    | rf k =>
      cases e2 : st.ce[k]? with
      | none => simp only [mVarF, e, e2] at h; exact h.elim
      | some c =>
        cases e3 : c.dat with
        | none => simp only [mVarF, e, e2, e3] at h; exact h.elim
        | some d =>
          simp only [mVarF, e, e2, e3] at h
          obtain ⟨a, hu, ha⟩ := s.rf e
          exact ⟨_, hu, h ρ H Ext.frz (s.frz e2 e3) _ (frz_rp s e2 e3 ha)⟩
/-- a slot's datum, be it a cell's -/
def S.look (st : S) (i : Nat) : Option D := match st.sl[i]? with
  | some (.d x) => some x
  | some (.rf k) => match st.ce[k]? with
    | some c => c.dat
    | none => none
  | _ => none
theorem look_ok {ρ : Rh} {σ : L2.St} {H : Hp} {st : S} {i : Nat} {d : D} (s : Sim g ρ σ H st) (e : st.look i = some d) : ∃ u, σ[i]? = some (some u) ∧ Rp g (fun _ => False) H u d := by
  have any : ∀ {A : Addr → Prop} {v : V} {x : D}, Rp g A H v x → Rp g (fun _ => False) H v x := fun r => r.back fun a f => f.elim
  unfold S.look at e
  cases e1 : st.sl[i]? with
  | none => simp only [e1] at e; cases e
  | some sl =>
    cases sl with
    | no => simp only [e1] at e; cases e
    | d y =>
      simp only [e1] at e
      cases Option.some.inj e
      obtain ⟨hi, _⟩ := List.getElem?_eq_some_iff.mp e1
      have hs : i < σ.length := by rw [s.len]; exact hi
      obtain ⟨u, hu, r⟩ := s.slot i _ _ e1 (List.getElem?_eq_getElem hs)
      exact ⟨u, by rw [List.getElem?_eq_getElem hs, hu], any r⟩
    | rf k =>
      cases e2 : st.ce[k]? with
      | none => simp only [e1, e2] at e; cases e
      | some c =>
        simp only [e1, e2] at e
        obtain ⟨a, hu, ha⟩ := s.rf e1
        exact ⟨_, hu, any (frz_rp s e2 e ha)⟩
def mInB (neg : Bool) (ma : M) (i : Nat) : M := fun st => bindO (ma st) fun a st1 => match st1.look i with
  | some d => match inD neg a d with
    | some (.bl b) => .ok (.bl b) st1
    | _ => .no
  | none => .no
theorem in_b {A : Addr → Prop} {H : Hp} {x y : V} {dx dy : D} {neg b : Bool} {Q : VK} (e : inD neg dx dy = some (.bl b)) (rx : Rp g A H x dx) (ry : Rp g A H y dy) (k : Q (.bl b) H) : rInP g.K neg x y H Q ∨ rInDc neg x y H Q := by
  unfold inD at e
  cases e1 : seqD dy with
  | some ds =>
    simp only [e1] at e
    obtain ⟨a, ys, rfl, hy, rs⟩ := ry.seq e1
    unfold memD at e
    cases e2 : toP 20 dx with
    | none => simp only [e2] at e; cases e
    | some p =>
      cases e3 : mapO (toP 20) ds with
      | none => simp only [e2, e3] at e; cases e
      | some ps =>
        simp only [e2, e3] at e
        obtain ⟨a1, a2, a3⟩ := toP_ok 20 dx p x e2 rx
        obtain ⟨b1, b2, b3⟩ := toP_all e3 rs
        have eb := Option.some.inj e
        refine .inl ⟨p, ps, a1, ?_, a2, b2, by omega, by omega, ?_⟩
        · rcases hy with hy | hy
          · exact .inl (.lst hy b1)
          · exact .inr (.tup hy b1)
        · injection eb with eb; rw [← eb] at k; exact k
  | none =>
    simp only [e1] at e
    cases e2 : getD dy dx with
    | none => simp only [e2] at e; cases e
    | some o =>
      simp only [e2] at e
      obtain ⟨a, ov, rfl, gd, h⟩ := getD_ok ry rx e2
      have eb := Option.some.inj e
      refine .inr ⟨a, ov, rfl, gd, ?_⟩
      have eo : ov.isSome = o.isSome := by
        rcases h with ⟨h1, h2⟩ | ⟨_, _, h1, h2, _⟩ <;> rw [h1, h2] <;> rfl
      rw [eo]
      injection eb with eb; rw [← eb] at k; exact k
theorem tM_inB {neg : Bool} {ma : M} {i : Nat} {σ : L2.St} {H : Hp} {Q : VK} (h : tM g ER (mInB neg ma i) σ H Q) : tOp (fun x y H Q => rInP g.K neg x y H Q ∨ rInDc neg x y H Q) (tM g ER ma) (tVar i) σ H Q := by
  obtain ⟨ρ, st, s, h⟩ := h
  refine ⟨ρ, st, s, (OutC.bind h).mono fun a st1 ρ1 H1 _ h1 s1 x rx => ?_⟩
  cases e : st1.look i with
  | none => simp only [e] at h1; exact h1.elim
  | some d =>
    simp only [e] at h1
    obtain ⟨u, hu, r⟩ := look_ok s1 e
    cases e2 : inD neg a d with
    | none => simp only [e2] at h1; exact h1.elim
    | some z =>
      cases z with
      | bl b =>
        simp only [e2] at h1
        exact ⟨u, hu, in_b e2 (rx.back fun a f => f.elim) r (h1 ρ1 H1 Ext.refl s1 _ (.bl b))⟩
      | _ => simp only [e2] at h1; exact h1.elim
theorem pt_mInB {neg : Bool} {op : CmpOp} {a : Expr} {x : Str} {p : Pos} {ma : M} {i : Nat} (ho : OpR X (compareOp op) (fun x y H Q => rInP g.K neg x y H Q ∨ rInDc neg x y H Q)) (ha : PE X a (tM g ER ma)) (hx : PE X (.Name x p) (tVar i)) (hm : behindInMarks op (.Name x p) = false) : PT X (.Compare a [op] [.Name x p] pos) (tMT g ER (mB (mInB neg ma i))) := by
  refine PTi (pt_cmpR ho ha hx hm) fun σ H Q h => ?_
  obtain ⟨ρ, st, s, h⟩ := tMT_B h
  exact tM_inB ⟨ρ, st, s, h⟩
/-- the cell of a slot -/
def S.cellOf (st : S) (i : Nat) : Option Nat := match st.sl[i]? with
  | some (.rf k) => some k
  | _ => none
theorem cellOf_ok {st : S} {i k : Nat} (e : st.cellOf i = some k) : st.sl[i]? = some (.rf k) := by
  unfold S.cellOf at e
  split at e
  · rename_i j h; cases Option.some.inj e; exact h
  · cases e
def Ce.isL : Ce → Bool
  | .l _ => true
  | _ => false
def S.isL (st : S) (k : Nat) : Bool := match st.ce[k]? with
  | some c => c.isL
  | none => false
theorem isL_ok {st : S} {k : Nat} (h : st.isL k = true) : ∃ ds, st.ce[k]? = some (.l ds) := by
  unfold S.isL at h
  cases e : st.ce[k]? with
  | none => (rw [e] at h; cases h)
  | some c =>
    rw [e] at h
    cases c with
    | l ds => exact ⟨ds, rfl⟩
    | _ => cases h
theorem cell_l {ρ : Rh} {σ : L2.St} {H : Hp} {st : S} {k : Nat} {a : Addr} (s : Sim g ρ σ H st) (h : st.isL k = true) (ha : ρ.ad[k]? = some a) : ∃ ds xs, st.ce[k]? = some (.l ds) ∧ H a = some (.lst xs) ∧ RpA g (Vol ρ st) H xs ds := by
  obtain ⟨ds, e⟩ := isL_ok h
  obtain ⟨xs, q1, q2⟩ := s.cell k _ a e ha
  exact ⟨ds, xs, e, q1, q2⟩
def mApp (i : Nat) (m : M) : M := fun st => match st.cellOf i with
  | some k => if st.isL k = true then bindO (m st) fun d st1 => match st1.ce[k]? with
    | some (.l ds) => if ds.length ≤ lim then .ok .non (st1.setC k (.l (ds ++ [d]))) else .no
    | _ => .no
    else .no
  | none => .no
theorem pe_mApp {o e : Expr} {i : Nat} {m : M} {apos cpos : Pos} (hk : X.K = g.K) (ho : PE X o (tVar i)) (he : PE X e (tM g ER m))
    (hbase : attributeBase o "append" X.env (eval o X.env) = eval o X.env := by rfl) (hfew : ((backTo cpos (starEach [e] X.env)).all (fun x => !x.1) && (backToKw cpos (keywordEach [] X.env)).all (fun x => x.1.isSome)
      && decide ([e].length + ([] : List Keyword).length + (if ([] : List Keyword).isEmpty then 0 else 1) < 30)) = true := by rfl)
    (hline : (apos.endLine == cpos.line) = true := by rfl) (hs : starEach [e] X.env = [(false, eval e X.env)] := by rfl) (hplain : (backTo cpos (starEach ([] : List Expr) X.env)).any (·.1) = false := by rfl) :
    PE X (.Call (.Attribute o "append" apos) [e] [] cpos) (tM g ER (mApp i m)) := by
  refine PEi (pe_bm PySem.F.plainAttrs_list PySem.F.slot_list_append PySem.F.type_list_append mt_append ho (pa_cons he pa_nil hs) hbase hfew hline hs hplain) fun σ H Q h => ?_
  obtain ⟨ρ, st, s, h⟩ := h
  cases e1 : st.cellOf i with
  | none => simp only [mApp, e1] at h; exact h.elim
  | some k =>
    by_cases e2 : st.isL k = true
    case neg => simp only [mApp, e1, if_neg e2] at h; exact h.elim
    simp only [mApp, e1, if_pos e2] at h
    obtain ⟨a, hu, ha⟩ := s.rf (cellOf_ok e1)
    obtain ⟨ds0, xs0, _, q1, _⟩ := cell_l s e2 ha
    refine ⟨_, hu, .inl ⟨rfl, xs0, SqL.of q1⟩, ρ, st, s, (OutC.bind h).mono fun d st1 ρ1 H1 x1 h1 s1 v rv => ?_⟩
    have ha1 := x1.pre k a ha
    cases e3 : st1.ce[k]? with
    | none => simp only [e3] at h1; exact h1.elim
    | some c =>
      cases c with
      | l ds =>
        simp only [e3] at h1
        by_cases hz : ds.length ≤ lim
        case neg => rw [if_neg hz] at h1; exact h1.elim
        rw [if_pos hz] at h1
        obtain ⟨xs, q2, q3⟩ := s1.cell k _ a e3 ha1
        refine ⟨a, xs, v, rfl, rfl, q2, Nat.lt_of_le_of_lt (Nat.le_trans (Nat.le_of_eq q3.1) hz) (by decide), ?_⟩
        have xe := Ext.setC (c := .l (ds ++ [d])) (o := .lst (xs ++ [v])) s1 e3 rfl ha1
        exact h1 ρ1 _ xe (s1.setC e3 rfl ha1 rfl ⟨xs ++ [v], upd_same, (q3.append (RpA.cons rv RpA.nil)).ext xe.keep⟩) _ .non
      | _ => simp only [e3] at h1; exact h1.elim
end
end RE
set_option maxHeartbeats 2000000
namespace RE
open PySem PySem.Spec PyProof.Rows L2
abbrev MR := S → O (List Sl)
def ArgsOk (g : G) (ρ : Rh) (st : S) (H : Hp) (vs : List V) (as : List Sl) : Prop := vs.length = as.length ∧ ∀ (i : Nat) v s, vs[i]? = some v → as[i]? = some s → SlOk g (Vol ρ st) ρ H (some v) s
section
variable {g : G} {ER : EK} {ρ ρ' : Rh} {st st' : S} {H H' : Hp} {σ : L2.St}
def tMR (g : G) (ER : EK) (m : MR) : TA := fun σ H Q => ∃ ρ st, Sim g ρ σ H st ∧ OutC ER ρ st H (m st) fun as st' ρ' H' => Sim g ρ' σ H' st' → ∀ vs, ArgsOk g ρ' st' H' vs as → Q vs H'
theorem ArgsOk.nil : ArgsOk g ρ st H [] [] := ⟨rfl, fun i v s h => by simp at h⟩
theorem ArgsOk.cons {v : V} {vs : List V} {s : Sl} {as : List Sl} (h : SlOk g (Vol ρ st) ρ H (some v) s) (t : ArgsOk g ρ st H vs as) : ArgsOk g ρ st H (v :: vs) (s :: as) :=
  ⟨by simp [t.1], fun i x y hx hy => by
    cases i with
    | zero =>
      have e1 : v = x := by simpa using hx
      have e2 : s = y := by simpa using hy
      subst e1; subst e2; exact h
    | succ i => exact t.2 i x y (by simpa using hx) (by simpa using hy)⟩
theorem ArgsOk.data {vs : List V} {ds : List D} (r : RpA g (Vol ρ st) H vs ds) : ArgsOk g ρ st H vs (ds.map .d) :=
  ⟨by rw [List.length_map]; exact r.1, fun i v s h1 h2 => by
    rw [List.getElem?_map] at h2
    obtain ⟨d, hd, rfl⟩ := Option.map_eq_some_iff.mp h2
    exact ⟨v, rfl, r.2 i v d h1 hd⟩⟩
theorem ArgsOk.append {vs ws : List V} {as bs : List Sl} (h : ArgsOk g ρ st H vs as) (t : ArgsOk g ρ st H ws bs) : ArgsOk g ρ st H (vs ++ ws) (as ++ bs) :=
  ⟨by rw [List.length_append, List.length_append, h.1, t.1], fun i v s h1 h2 => by
    by_cases hi : i < vs.length
    · rw [List.getElem?_append_left hi] at h1
      rw [List.getElem?_append_left (by rw [← h.1]; exact hi)] at h2
      exact h.2 i v s h1 h2
    · rw [List.getElem?_append_right (by omega)] at h1
      rw [List.getElem?_append_right (by rw [← h.1]; omega), ← h.1] at h2
      exact t.2 _ v s h1 h2⟩
def rNil : MR := fun st => .ok [] st
def rDat (m : M) (ms : MR) : MR := fun st => bindO (m st) fun d st1 => bindO (ms st1) fun as st2 => .ok (.d d :: as) st2
/-- a name whose cell is handed on, or its datum -/
def rRef (i : Nat) (ms : MR) : MR := fun st => match st.sl[i]? with
  | some .no => .no
  | some s => bindO (ms st) fun as st2 => .ok (s :: as) st2
  | none => .no
theorem pa_rNil {X : Cx} : PA X [] (tMR g ER rNil) := PAi pa_nil fun σ H Q h => by
  obtain ⟨ρ, st, s, h⟩ := h
  exact h ρ H Ext.refl s [] ArgsOk.nil
theorem pa_rDat {X : Cx} {e : Expr} {es : List Expr} {m : M} {ms : MR} (ha : PE X e (tM g ER m)) (hr : PA X es (tMR g ER ms)) (hs : starEach (e :: es) X.env = (false, eval e X.env) :: starEach es X.env := by rfl) : PA X (e :: es) (tMR g ER (rDat m ms)) := by
  refine PAi (pa_cons ha hr hs) fun σ H Q h => ?_
  obtain ⟨ρ, st, s, h⟩ := h
  refine ⟨ρ, st, s, (OutC.bind h).mono fun d st1 ρ1 H1 _ h1 s1 x rx => ?_⟩
  refine ⟨ρ1, st1, s1, (OutC.bind h1).mono fun ds st2 ρ2 H2 e2 h2 s2 xs rs => ?_⟩
  exact h2 ρ2 H2 Ext.refl s2 (x :: xs) (ArgsOk.cons ⟨x, rfl, rx.go e2⟩ rs)
theorem pa_rRef {X : Cx} {x : Str} {p : Pos} {i : Nat} {es : List Expr} {ms : MR} (hx : PE X (.Name x p) (tVar i)) (hr : PA X es (tMR g ER ms)) (hs : starEach (.Name x p :: es) X.env = (false, eval (.Name x p) X.env) :: starEach es X.env := by rfl) : PA X (.Name x p :: es) (tMR g ER (rRef i ms)) := by
  refine PAi (pa_cons hx hr hs) fun σ H Q h => ?_
  obtain ⟨ρ, st, s, h⟩ := h
  cases e : st.sl[i]? with
  | none => simp only [rRef, e] at h; exact h.elim
  | some sl =>
    obtain ⟨hi, _⟩ := List.getElem?_eq_some_iff.mp e
    have hs : i < σ.length := by rw [s.len]; exact hi
    have q := s.slot i _ _ e (List.getElem?_eq_getElem hs)
    have main : ∀ v, σ[i]? = some (some v) → SlOk g (Vol ρ st) ρ H (some v) sl → OutC ER ρ st H (bindO (ms st) fun as st2 => .ok (sl :: as) st2) (fun as st' ρ' H' => Sim g ρ' σ H' st' → ∀ vs, ArgsOk g ρ' st' H' vs as → Q vs H') → ∃ v, σ[i]? = some (some v) ∧ tMR g ER ms σ H fun vs H1 => Q (v :: vs) H1 := fun v hv ok h => by
      refine ⟨v, hv, ρ, st, s, (OutC.bind h).mono fun as st2 ρ2 H2 e2 h2 s2 xs rs => ?_⟩
      exact h2 ρ2 H2 Ext.refl s2 (v :: xs) (ArgsOk.cons (ok.ext e2.keep e2.pre) rs)
    cases sl with
    | no => simp only [rRef, e] at h; exact h.elim
    | d y =>
      simp only [rRef, e] at h
      obtain ⟨u, hu, r⟩ := q
      exact main u (by rw [List.getElem?_eq_getElem hs, hu]) ⟨u, rfl, r⟩ h
    | rf k =>
      simp only [rRef, e] at h
      obtain ⟨a, hu, r⟩ := q
      exact main (.ref a) (by rw [List.getElem?_eq_getElem hs, hu]) ⟨a, rfl, r⟩ h
end
def Ce.flat : Ce → Bool
  | .rK _ => false
  | .rT _ => false
  | .o _ _ => false
  | _ => true
theorem CeOk.flat {g : G} {A : Addr → Prop} {ad ad' : List Addr} {H : Hp} {a : Addr} {c : Ce} (f : c.flat = true) (h : CeOk g A ad H a c) : CeOk g A ad' H a c := by
  cases c with
  | rK _ => cases f
  | rT _ => cases f
  | o _ _ => cases f
  | _ => exact h
/-- the one cell that is handed on -/
def refOf : List Sl → Option Nat
  | [] => none
  | .rf k :: _ => some k
  | _ :: as => refOf as
def okRef (k : Nat) : List Sl → Bool
  | [] => true
  | .rf j :: as => decide (j = k) && okRef k as
  | _ :: as => okRef k as
def toZero : List Sl → List Sl
  | [] => []
  | .rf _ :: as => .rf 0 :: toZero as
  | s :: as => s :: toZero as
theorem toZero_get (k : Nat) : ∀ (as : List Sl) (i : Nat) (s : Sl), okRef k as = true → (toZero as)[i]? = some s → (s = .rf 0 ∧ as[i]? = some (.rf k)) ∨ ((∀ j, s ≠ .rf j) ∧ as[i]? = some s)
  | [], i, s, _, h => by simp [toZero] at h
  | .rf j :: as, 0, s, h, e => by
    cases Option.some.inj (show some (Sl.rf 0) = some s from e)
    have h' : (decide (j = k) && okRef k as) = true := h
    have : j = k := of_decide_eq_true (Bool.and_eq_true_iff.mp h').1
    exact .inl ⟨rfl, by rw [this]; rfl⟩
  | .no :: as, 0, s, h, e => by
    cases Option.some.inj (show some Sl.no = some s from e)
    exact .inr ⟨fun _ z => (nomatch z), rfl⟩
  | .d x :: as, 0, s, h, e => by
    cases Option.some.inj (show some (Sl.d x) = some s from e)
    exact .inr ⟨fun _ z => (nomatch z), rfl⟩
  | .rf j :: as, i + 1, s, h, e => by
    have h' : (decide (j = k) && okRef k as) = true := h
    exact toZero_get k as i s (Bool.and_eq_true_iff.mp h').2 e
  | .no :: as, i + 1, s, h, e => toZero_get k as i s h e
  | .d x :: as, i + 1, s, h, e => toZero_get k as i s h e
theorem toZero_len : ∀ as : List Sl, (toZero as).length = as.length
  | [] => rfl
  | .rf j :: as => by show (toZero as).length + 1 = as.length + 1; rw [toZero_len]
  | .no :: as => by show (toZero as).length + 1 = as.length + 1; rw [toZero_len]
  | .d x :: as => by show (toZero as).length + 1 = as.length + 1; rw [toZero_len]
/-- the caller's state behind the call -/
def S.gets (st : S) (k : Nat) (ce : List Ce) : Option S := match ce[0]? with
  | some c => if (c.alive && c.flat) = true then some (st.setC k c) else none
  | none => none
def runR (ms : MS) (n : Nat) (as : List Sl) (st : S) : O D := match refOf as with
  | none => .no
  | some k => match st.ce[k]? with
    | none => .no
    | some c => if ((c.alive && c.flat) && okRef k as) = true then (match ms (S.start (toZero as) n [c]) with
      | .rt d st' => (match st.gets k st'.ce with
        | some st2 => .ok d st2
        | none => .no)
      | .nx st' => (match st.gets k st'.ce with
        | some st2 => .ok .non st2
        | none => .no)
      | .er e vs st' => (match st.gets k st'.ce with
        | some st2 => .er e vs st2
        | none => .no)
      | _ => .no) else .no
def mCallR (ms : MS) (n : Nat) (dfl : List D) (mr : MR) : M := fun st => bindO (mr st) fun as st1 => runR ms n (as ++ dfl.map .d) st1
section
variable {g : G} {ρ ρ' : Rh} {σ : L2.St} {H H' : Hp} {st st' st0 : S} {k : Nat} {c : Ce} {a : Addr}
/-- the callee's frame -/
theorem sim_argsR {vs : List V} {as : List Sl} (s : Sim g ρ σ H st) (r : ArgsOk g ρ st H vs as) (hc : st.ce[k]? = some c) (al : c.alive = true) (fl : c.flat = true) (hk : okRef k as = true) (ha : ρ.ad[k]? = some a) :
    Sim g ⟨[a], fun b => Vol ρ st b ∧ b ≠ a⟩ (vs.map some) H ⟨toZero as, [c]⟩ := by
  have va : Vol ρ st a := .inr ⟨k, c, hc, al, ha⟩
  have one : ∀ {j : Nat} {c' : Ce}, [c][j]? = some c' → j = 0 ∧ c' = c := fun {j c'} h => by
    cases j with
    | zero => exact ⟨rfl, (Option.some.inj h).symm⟩
    | succ j => simp at h
  have oneA : ∀ {b : Addr}, [a][0]? = some b → b = a := fun h => (Option.some.inj h).symm
  have sub : ∀ b, Vol ⟨[a], fun b => Vol ρ st b ∧ b ≠ a⟩ ⟨toZero as, [c]⟩ b → Vol ρ st b := fun b v => by
    rcases v with v | ⟨j, c', h1, h2, h3⟩
    · exact v.1
    · obtain ⟨rfl, rfl⟩ := one h1
      rw [oneA h3]; exact va
  have kp : ∀ b o, H b = some o → ¬ Vol ρ st b → H b = some o ∧ ¬ Vol ⟨[a], fun b => Vol ρ st b ∧ b ≠ a⟩ ⟨toZero as, [c]⟩ b := fun b o h n => ⟨h, fun v => n (sub b v)⟩
  refine ⟨⟨fun b h => s.volT h.1, rfl, fun j c' b h1 h2 => ?_, fun i j c1 c2 b h1 h2 _ _ _ _ => ?_, fun j c1 b h1 _ h2 v => ?_⟩, ?_, fun i sl v h1 h2 => ?_⟩
  · obtain ⟨rfl, rfl⟩ := one h1
    rw [oneA h2]
    exact (CeOk.flat fl (s.cell k _ a hc ha)).ext rfl kp
  · rw [(one h1).1, (one h2).1]
  · obtain ⟨rfl, rfl⟩ := one h1
    exact v.2 (oneA h2)
  · show (vs.map some).length = (toZero as).length
    rw [List.length_map, toZero_len, r.1]
  · have h1 : (toZero as)[i]? = some sl := h1
    rw [List.getElem?_map] at h2
    obtain ⟨u, hu, rfl⟩ := Option.map_eq_some_iff.mp h2
    rcases toZero_get k as i sl hk h1 with ⟨rfl, e⟩ | ⟨n, e⟩
    · obtain ⟨b, eb, q⟩ := r.2 i u _ hu e
      rw [ha] at q
      cases Option.some.inj q
      exact ⟨a, eb, rfl⟩
    · have q := r.2 i u _ hu e
      cases sl with
      | no => trivial
      | d x => obtain ⟨w, ew, rw'⟩ := q; exact ⟨w, ew, rw'.ext kp⟩
      | rf j => exact absurd rfl (n j)
theorem gets_ok {ce : List Ce} {st2 : S} (h : st.gets k ce = some st2) : ∃ c', ce[0]? = some c' ∧ (c'.alive = true ∧ c'.flat = true) ∧ st2 = st.setC k c' := by
  unfold S.gets at h
  cases e : ce[0]? with
  | none => (rw [e] at h; cases h)
  | some c' =>
    rw [e] at h
    by_cases q : (c'.alive && c'.flat) = true
    · have h : (if (c'.alive && c'.flat) = true then some (st.setC k c') else none) = some st2 := h
      rw [if_pos q] at h; exact ⟨c', rfl, Bool.and_eq_true_iff.mp q, (Option.some.inj h).symm⟩
    · have h : (if (c'.alive && c'.flat) = true then some (st.setC k c') else none) = some st2 := h
      rw [if_neg q] at h; cases h
/-- behind it -/
theorem back_callR {as : List Sl} {c' : Ce} (s : Sim g ρ σ H st) (hc : st.ce[k]? = some c) (al : c.alive = true) (ha : ρ.ad[k]? = some a)
    (e : Ext ⟨[a], fun b => Vol ρ st b ∧ b ≠ a⟩ ⟨as, [c]⟩ H ρ' st' H') (cs : Cells g ρ' H' st') (h0 : st'.ce[0]? = some c') (alf : c'.alive = true ∧ c'.flat = true) :
    Ext ρ st H ρ (st.setC k c') H' ∧ Sim g ρ σ H' (st.setC k c') ∧ ∀ b, Vol ρ (st.setC k c') b → Vol ρ' st' b := by
  obtain ⟨al', fl'⟩ := alf
  have va : Vol ρ st a := .inr ⟨k, c, hc, al, ha⟩
  have one : ∀ {j : Nat} {c' : Ce}, [c][j]? = some c' → j = 0 ∧ c' = c := fun {j c'} h => by
    cases j with
    | zero => exact ⟨rfl, (Option.some.inj h).symm⟩
    | succ j => simp at h
  have nv : ∀ b, ¬ Vol ρ st b → ¬ Vol ⟨[a], fun b => Vol ρ st b ∧ b ≠ a⟩ ⟨as, [c]⟩ b := fun b n v => by
    rcases v with v | ⟨j, c1, h1, h2, h3⟩
    · exact n v.1
    · obtain ⟨rfl, rfl⟩ := one h1
      cases (Option.some.inj (show some a = some b from h3))
      exact n va
  have ha' : ρ'.ad[0]? = some a := e.pre 0 a rfl
  have va' : Vol ρ' st' a := .inr ⟨0, c', h0, al', ha'⟩
  have sub : ∀ b, Vol ρ (st.setC k c') b → Vol ρ st b := fun b v => vol_setC ⟨c, hc, al⟩ v
  have up : ∀ b, Vol ρ st b → Vol ρ' st' b := fun b v => by
    by_cases z : b = a
    · rw [z]; exact va'
    · left; rw [e.same]; exact ⟨v, z⟩
  have k1 : ∀ b o, H b = some o → ¬ Vol ρ st b → H' b = some o ∧ ¬ Vol ρ (st.setC k c') b := fun b o h n => ⟨(e.keep b o h (nv b n)).1, fun v => n (sub b v)⟩
  have un : ∀ b, Vol ρ st b → b ≠ a → H' b = H b := fun b v z => e.un b ⟨v, z⟩
  refine ⟨⟨k1, fun _ _ h => h, rfl, fun b h => un b (.inl h) fun z => s.out k c a hc al ha (by rw [← z]; exact h), fun b v => .inl (sub b v), e.mono⟩, ⟨⟨fun b h => ?_, ?_, fun j cj b h1 h2 => ?_, ?_, ?_⟩, s.len, fun i sl v h1 h2 => (s.slot i sl v h1 h2).ext k1 fun _ _ h => h⟩, fun b v => up b (sub b v)⟩
  · obtain ⟨o, ho, nt⟩ := s.uok b h
    exact ⟨o, by rw [un b (.inl h) fun z => s.out k c a hc al ha (by rw [← z]; exact h)]; exact ho, nt⟩
  · show ρ.ad.length = (st.ce.set k c').length
    rw [List.length_set]; exact s.clen
  · have h1 : (st.ce.set k c')[j]? = some cj := h1
    rw [List.getElem?_set] at h1
    by_cases z : k = j
    · rw [if_pos z] at h1
      split at h1
      · cases Option.some.inj h1
        rw [← z, ha] at h2
        cases Option.some.inj h2
        exact (CeOk.flat fl' (cs.cell 0 c' a h0 ha')).ext rfl fun b o h n => ⟨h, fun v => n (up b (sub b v))⟩
      · cases h1
    · rw [if_neg z] at h1
      by_cases q : cj.alive = true
      · have vb : Vol ρ st b := .inr ⟨j, cj, h1, q, h2⟩
        refine (s.cell j cj b h1 h2).ext (un b vb fun y => z ?_) k1
        exact s.inj k j c cj b hc h1 al q (by rw [y]; exact ha) h2
      · cases cj <;> first | trivial | exact absurd rfl q
  · intro i j c1 c2 b h1 h2 a1 a2 e1 e2
    have old : ∀ (m : Nat) (c3 : Ce), (st.ce.set k c')[m]? = some c3 → c3.alive = true → ∃ c4, st.ce[m]? = some c4 ∧ c4.alive = true := fun m c3 q q' => by
      rw [List.getElem?_set] at q
      by_cases e : k = m
      · exact ⟨c, by rw [← e]; exact hc, al⟩
      · rw [if_neg e] at q; exact ⟨c3, q, q'⟩
    obtain ⟨c3, q1, q2⟩ := old i c1 h1 a1
    obtain ⟨c4, q3, q4⟩ := old j c2 h2 a2
    exact s.inj i j c3 c4 b q1 q3 q2 q4 e1 e2
  · intro j c1 b h1 a1 e1 v
    have h1 : (st.ce.set k c')[j]? = some c1 := h1
    rw [List.getElem?_set] at h1
    by_cases z : k = j
    · exact s.out j c b (by rw [← z]; exact hc) al e1 v
    · rw [if_neg z] at h1; exact s.out j c1 b h1 a1 e1 v
end
section
variable {X : Cx} {g : G} {ER : EK} {CX : CXT} {k n np : Nat} {f : Addr} {fd : FuncData} {ps : List Str} {ms : MS} {dfl : List D} {dvs : List V} {ds : List Value} {E : XK} {x : Str} {p pos : Pos} {e : Expr} {es : List Expr} {mr : MR}
theorem call_readR (hdf : ∀ A H, RpA g A H dvs dfl) (hE : ∀ c vs ρ st H cls d, ER c vs ρ st H → Cells g ρ H st → ErrIs g (Vol ρ st) H c vs cls d → E cls d H)
    {ρ : Rh} {σ : L2.St} {st : S} {H : Hp} {vs : List V} {as : List Sl} {Q : VK} (s : Sim g ρ σ H st) (r : ArgsOk g ρ st H vs as) (hl : (vs ++ dvs).length = np)
    (h : OutC ER ρ st H (runR ms n (as ++ dfl.map .d) st) fun d st' ρ' H' => Sim g ρ' σ H' st' → ∀ v, Rp g (Vol ρ' st') H' v d → Q v H') : spF g np n ms (vs ++ dvs) H Q E := by
  have rr := r.append (ArgsOk.data (hdf (Vol ρ st) H))
  generalize hb : as ++ dfl.map Sl.d = bs at rr h
  unfold runR at h
  cases e1 : refOf bs with
  | none => simp only [e1] at h; exact h.elim
  | some k =>
  simp only [e1] at h
  cases e2 : st.ce[k]? with
  | none => simp only [e2] at h; exact h.elim
  | some c =>
  simp only [e2] at h
  by_cases e3 : ((c.alive && c.flat) && okRef k bs) = true
  case neg => rw [if_neg e3] at h; exact h.elim
  rw [if_pos e3] at h
  obtain ⟨alf, okk⟩ := Bool.and_eq_true_iff.mp e3
  obtain ⟨al, fl⟩ := Bool.and_eq_true_iff.mp alf
  obtain ⟨hk, _⟩ := List.getElem?_eq_some_iff.mp e2
  have hka : k < ρ.ad.length := by rw [s.clen]; exact hk
  have ha : ρ.ad[k]? = some ρ.ad[k] := List.getElem?_eq_getElem hka
  have sa := sim_argsR s rr e2 al fl okk ha
  refine ⟨hl, ⟨[ρ.ad[k]], fun b => Vol ρ st b ∧ b ≠ ρ.ad[k]⟩, toZero bs, [c], by rw [toZero_len, ← rr.1]; exact hl, sa, ?_⟩
  cases eo : ms (S.start (toZero bs) n [c]) with
  | nx st' =>
    simp only [eo] at h
    cases eg : st.gets k st'.ce with
    | none => simp only [eg] at h; exact h.elim
    | some st2 =>
      simp only [eg] at h
      obtain ⟨c', h0, al', rfl⟩ := gets_ok eg
      intro ρ' H' x cc
      obtain ⟨b1, b2, b3⟩ := back_callR s e2 al ha x cc h0 al'
      exact h ρ H' b1 b2 .non .non
  | rt d st' =>
    simp only [eo] at h
    cases eg : st.gets k st'.ce with
    | none => simp only [eg] at h; exact h.elim
    | some st2 =>
      simp only [eg] at h
      obtain ⟨c', h0, al', rfl⟩ := gets_ok eg
      intro ρ' H' v x cc r'
      obtain ⟨b1, b2, b3⟩ := back_callR s e2 al ha x cc h0 al'
      exact h ρ H' b1 b2 v (r'.back b3)
  | bk st' => simp only [eo] at h; exact h.elim
  | ct st' => simp only [eo] at h; exact h.elim
  | no => simp only [eo] at h; exact h.elim
  | er cl vs' st' =>
    simp only [eo] at h
    cases eg : st.gets k st'.ce with
    | none => simp only [eg] at h; exact h.elim
    | some st2 =>
      simp only [eg] at h
      obtain ⟨c', h0, al', rfl⟩ := gets_ok eg
      intro ρ' H' x cls d cc ei
      obtain ⟨b1, b2, b3⟩ := back_callR s e2 al ha x cc h0 al'
      refine hE cl vs' ρ _ H' cls d (h ρ H' b1) b2.toCells ?_
      obtain ⟨q1, q2⟩ := ei
      exact ⟨q1, q2.imp id fun ⟨dd, nm, y, v, z1, z2, z3, z4, z5, z6⟩ => ⟨dd, nm, y, v, z1, z2, z3, z4, z5.back b3, fun q => z6 (b3 _ q)⟩⟩
theorem pe_mCallR (F : FnOk X.prog X.w X.K X.mg X.base CX k f fd ps (spF g np n ms)) (hr : Room k X.A) (hg : Gl X x) (hm : X.mg x = some (.ref f)) (hk : PySem.W.keepIn X.K (.ref f) = true) (hb : Binds X.K fd ps ds) (hd : Vals dvs ds) (hx : Passes CX X E)
    (hdf : ∀ A H, RpA g A H dvs dfl) (hE : ∀ c vs ρ st H cls d, ER c vs ρ st H → Cells g ρ H st → ErrIs g (Vol ρ st) H c vs cls d → E cls d H) (ha : PA X (e :: es) (tMR g ER mr)) (hlen : ∀ st xs st', mr st = .ok xs st' → xs.length + dfl.length = np) (hdb : (x == ("__debug__" : Str)) = false := by decide) (he : starEach (e :: es) X.env = (false, eval e X.env) :: starEach es X.env := by rfl) (hpl : (backTo pos (starEach es X.env)).any (·.1) = false := by rfl) :
    PE X (.Call (.Name x p) (e :: es) [] pos) (tM g ER (mCallR ms n dfl mr)) := by
  refine PEi (pe_call F hr hg hm hk hb hd hx ha hdb he hpl) fun σ H Q h => ?_
  obtain ⟨ρ, st, s, h⟩ := h
  refine ⟨ρ, st, s, ?_⟩
  have hh := OutC.bind h
  cases ea : mr st with
  | no => rw [ea] at hh; exact hh
  | er c vs st' => rw [ea] at hh; exact hh
  | ok xs st1 =>
    rw [ea] at hh
    intro ρ1 H1 x1 s1 vs rs
    refine call_readR hdf hE s1 rs ?_ (hh ρ1 H1 x1)
    have h1 := hlen st xs st1 ea
    have h2 := (hdf (Vol ρ1 st1) H1).1
    rw [List.length_append, rs.1, h2]
    exact h1
end
end RE
set_option maxHeartbeats 2000000
namespace RE
open PySem PySem.Spec PyProof.Rows L2
theorem passT {X : Cx} {E : XK} (tk : Takes X (fun cls d _ H => E cls d H)) : Passes (L2.CX X.prog X.w) X E := fun _ _ _ _ e s' I c => tk e s' (XE.of_call I (fun _ _ _ h => h) c)
theorem passF {X : Cx} : Passes (L2.CX X.prog X.w) X (fun _ _ _ => False) := fun _ _ _ _ _ _ _ c => by
  obtain ⟨_, _, _, _, _, _, _, _, _, _, _, _, h⟩ := c
  exact h.elim
theorem hE_of {g : G} {E : XK} : ∀ c vs ρ st H cls d, erOf g E c vs ρ st H → Cells g ρ H st → ErrIs g (Vol ρ st) H c vs cls d → E cls d H := fun _ _ _ _ _ cls d h a b => h cls d a b
theorem hE_no {g : G} : ∀ c vs ρ st H cls d, erNo c vs ρ st H → Cells g ρ H st → ErrIs g (Vol ρ st) H c vs cls d → (fun _ _ _ => False : XK) cls d H := fun _ _ _ _ _ _ _ h _ _ => h.elim
section
variable {X : Cx} {g : G} {ER : EK} {pos : Pos} {x : Str}
/-- a tuple of the module's -/
theorem pe_mGt {d : D} (h : ∃ a, X.mg x = some (.ref a) ∧ ∀ A H, Rp g A H (.ref a) d) (hg : Gl X x) (hd : (x == ("__debug__" : Str)) = false := by decide) : PE X (.Name x pos) (tM g ER (mC d)) := by
  obtain ⟨a, h, r⟩ := h
  exact pe_mC (pe_glob (v := .ref a) hg h rfl hd) r
/-- a def -/
theorem pe_mGf {i : Nat} (h : X.mg x = some (.ref (g.F i))) (hg : Gl X x) (hd : (x == ("__debug__" : Str)) = false := by decide) : PE X (.Name x pos) (tM g ER (mC (.fn i))) :=
  pe_mC (pe_glob (v := .ref (g.F i)) hg h rfl hd) fun _ _ => .fn i
end
section
variable {X : Cx} {g : G} {ER : EK} {CX : CXT} {k n np : Nat} {f : Addr} {fd : FuncData} {ps : List Str} {ms : MS} {dfl : List D} {dvs : List V} {ds : List Value} {E : XK} {x : Str} {p pos : Pos} {e : Expr} {es : List Expr} {ma : MA}
/-- f() -/
theorem pe_mCall0 (F : FnOk X.prog X.w X.K X.mg X.base CX k f fd [] (spF g 0 n ms)) (hr : Room k X.A) (hg : Gl X x) (hm : X.mg x = some (.ref f)) (hk : PySem.W.keepIn X.K (.ref f) = true) (hb : Binds X.K fd [] []) (hx : Passes CX X E)
    (hE : ∀ c vs ρ st H cls d, ER c vs ρ st H → Cells g ρ H st → ErrIs g (Vol ρ st) H c vs cls d → E cls d H) (hdb : (x == ("__debug__" : Str)) = false := by decide) :
    PE X (.Call (.Name x p) [] [] pos) (tM g ER (mCall ms n [] mNil)) := by
  refine PEi (pe_call0 F hr hg hm hk hb .nil hx hdb) fun σ H Q h => ?_
  obtain ⟨ρ, st, s, h⟩ := h
  exact call_read (ps := []) (dfl := []) (dvs := []) (fun _ _ => RpA.nil) (fun vs => Iff.rfl) hE s (vs := []) (xs := []) RpA.nil rfl h
/-- a call of what a name holds -/
def mCallV (tab : Nat → Option (MS × Nat)) (i : Nat) (ma : MA) : M := fun st => match st.sl[i]? with
  | some (.d (.fn j)) => match tab j with
    | some (ms, n) => bindO (ma st) fun ds st1 => runD ms n ds st1
    | none => .no
  | _ => .no
theorem pe_mCallV {i : Nat} {tab : Nat → Option (MS × Nat)} (hF : ∀ j ms n, tab j = some (ms, n) → ∃ fd ps, FnOk X.prog X.w X.K X.mg X.base CX k (g.F j) fd ps (spF g np n ms) ∧ PySem.W.keepIn X.K (.ref (g.F j)) = true ∧ Binds X.K fd ps [] ∧ ps.length = np)
    (hr : Room k X.A) (hN : X.N[i]? = some x) (hv : Vis X.env.scope x) (hx : Passes CX X E)
    (hE : ∀ c vs ρ st H cls d, ER c vs ρ st H → Cells g ρ H st → ErrIs g (Vol ρ st) H c vs cls d → E cls d H) (ha : PA X (e :: es) (tMA g ER ma)) (hlen : ∀ st xs st', ma st = .ok xs st' → xs.length = np) (hdb : (x == ("__debug__" : Str)) = false := by decide) (hcd : (x == ("__classdict__" : Str)) = false := by decide) (he : starEach (e :: es) X.env = (false, eval e X.env) :: starEach es X.env := by rfl) (hpl : (backTo pos (starEach es X.env)).any (·.1) = false := by rfl) :
    PE X (.Call (.Name x p) (e :: es) [] pos) (tM g ER (mCallV tab i ma)) := by
  refine ⟨fun pq s σ H Q I h => ?_⟩
  obtain ⟨ρ, st, sm, h⟩ := h
  cases e1 : st.sl[i]? with
  | none => simp only [mCallV, e1] at h; exact h.elim
  | some sl =>
    cases sl with
    | no => simp only [mCallV, e1] at h; exact h.elim
    | rf k => simp only [mCallV, e1] at h; exact h.elim
    | d y =>
      cases y with
      | fn j =>
        cases e2 : tab j with
        | none => simp only [mCallV, e1, e2] at h; exact h.elim
        | some r =>
          obtain ⟨ms, n⟩ := r
          simp only [mCallV, e1, e2] at h
          obtain ⟨fd, ps, F, kp, hb, hps⟩ := hF j ms n e2
          obtain ⟨hi, _⟩ := List.getElem?_eq_some_iff.mp e1
          have hs : i < σ.length := by rw [sm.len]; exact hi
          obtain ⟨u, hu, ru⟩ := sm.slot i _ _ e1 (List.getElem?_eq_getElem hs)
          have hsl : σ[i]? = some (some (.ref (g.F j))) := by rw [List.getElem?_eq_getElem hs, hu, ru.inv_fn]
          refine (pe_callL (i := i) (dvs := []) F hr hN hv kp hb .nil hx ha hdb hcd he hpl).run pq s σ H Q I ⟨hsl, ρ, st, sm, ?_⟩
          have hh := OutC.bind h
          cases ea : ma st with
          | no => rw [ea] at hh; exact hh
          | er c vs st' => rw [ea] at hh; exact hh
          | ok xs st1 =>
            rw [ea] at hh
            intro ρ1 H1 x1 s1 vs rs
            have h1 := hlen st xs st1 ea
            refine call_read (ps := ps) (dfl := []) (dvs := []) (fun _ _ => RpA.nil) (fun vs => by rw [hps]) hE s1 rs ?_ (by rw [List.append_nil]; exact hh ρ1 H1 x1)
            rw [List.append_nil, rs.1]; exact h1
      | _ => simp only [mCallV, e1] at h; exact h.elim
end
theorem len_nil : ∀ st xs st', mNil st = .ok xs st' → xs.length = 0 := fun st xs st' h => by
  have h : O.ok [] st = O.ok xs st' := h
  injection h with h1 h2
  rw [← h1]; rfl
theorem len_cons {m : M} {ms : MA} {n : Nat} (h : ∀ st xs st', ms st = .ok xs st' → xs.length = n) : ∀ st xs st', mCons m ms st = .ok xs st' → xs.length = n + 1 := fun st xs st' e => by
  unfold mCons at e
  cases e1 : m st with
  | no => rw [e1] at e; cases e
  | er c v s => rw [e1] at e; cases e
  | ok d st1 =>
    rw [e1] at e
    have e : bindO (ms st1) (fun ds st2 => O.ok (d :: ds) st2) = .ok xs st' := e
    cases e2 : ms st1 with
    | no => rw [e2] at e; cases e
    | er c v s => rw [e2] at e; cases e
    | ok ds st2 =>
      rw [e2] at e
      have e : O.ok (d :: ds) st2 = .ok xs st' := e
      injection e with e3 e4
      rw [← e3, List.length_cons, h st1 ds st2 e2]
theorem lenR_nil : ∀ st xs st', rNil st = .ok xs st' → xs.length = 0 := fun st xs st' h => by
  have h : O.ok [] st = O.ok xs st' := h
  injection h with h1 h2
  rw [← h1]; rfl
theorem lenR_dat {m : M} {ms : MR} {n : Nat} (h : ∀ st xs st', ms st = .ok xs st' → xs.length = n) : ∀ st xs st', rDat m ms st = .ok xs st' → xs.length = n + 1 := fun st xs st' e => by
  unfold rDat at e
  cases e1 : m st with
  | no => rw [e1] at e; cases e
  | er c v s => rw [e1] at e; cases e
  | ok d st1 =>
    rw [e1] at e
    have e : bindO (ms st1) (fun ds st2 => O.ok (Sl.d d :: ds) st2) = .ok xs st' := e
    cases e2 : ms st1 with
    | no => rw [e2] at e; cases e
    | er c v s => rw [e2] at e; cases e
    | ok ds st2 =>
      rw [e2] at e
      have e : O.ok (Sl.d d :: ds) st2 = .ok xs st' := e
      injection e with e3 e4
      rw [← e3, List.length_cons, h st1 ds st2 e2]
theorem lenR_ref {i : Nat} {ms : MR} {n : Nat} (h : ∀ st xs st', ms st = .ok xs st' → xs.length = n) : ∀ st xs st', rRef i ms st = .ok xs st' → xs.length = n + 1 := fun st xs st' e => by
  unfold rRef at e
  split at e
  · cases e
  · rename_i s' _ _
    cases e2 : ms st with
    | no => rw [e2] at e; cases e
    | er c v s => rw [e2] at e; cases e
    | ok ds st2 =>
      rw [e2] at e
      have e : O.ok (s' :: ds) st2 = .ok xs st' := e
      injection e with e3 e4
      rw [← e3, List.length_cons, h st ds st2 e2]
  · cases e
end RE
set_option maxHeartbeats 2000000
namespace RE
open PySem PySem.Spec PyProof.Rows L2
theorem okNo {P : Program} {w : World} {K : PySem.W.Frag} {mg : Str → Option Value} {base : Heap} {CX : CXT} {k : Nat} {f : Addr} {fd : FuncData} {ps : List Str} {g : G} {np n : Nat} (h : ps.length = np) : FnOk P w K mg base CX k f fd ps (spF g np n fun _ => .no) :=
  ⟨fun vs H Q E q => by rw [h]; exact q.1, fun A outer s H args us vs Q E _ _ _ _ q => by
    obtain ⟨_, _, _, _, _, _, o⟩ := q
    exact o.elim⟩
theorem tyP {X : Cx} {x : Str} {n : String} {p : Pos} (hg : Gl X x) (hm : X.mg x = none) (hv : bootBuiltins x = some (.type n)) (hn : x ≠ "__name__" := by decide) (hd : (x == ("__debug__" : Str)) = false := by decide) : PE X (.Name x p) (tC (.ty n)) := pe_bltn hg hm hv rfl hn hd
end RE
set_option maxHeartbeats 2000000
namespace RE
open PySem PySem.Spec PyProof.Rows L2
abbrev MO := S → O (Option Int)
def tMO (g : G) (ER : EK) (m : MO) : TO := fun σ H Q => ∃ ρ st, Sim g ρ σ H st ∧ OutC ER ρ st H (m st) fun o st' ρ' H' => Sim g ρ' σ H' st' → Q o H'
theorem POi {X : Cx} {e : Option Expr} {t t' : TO} (p : PO X e t) (h : ∀ σ H Q, t' σ H Q → t σ H Q) : PO X e t' := ⟨fun pq s σ H Q I q => p.run pq s σ H Q I (h _ _ _ q)⟩
def mPN : MO := fun st => .ok none st
def mPS (m : M) : MO := fun st => bindO (m st) fun d st1 => match d with
  | .int i => .ok (some i) st1
  | _ => .no
def cutD (ds : List D) (lo hi : Option Int) : List D := (ds.drop (HT.sIx ds.length 0 lo)).take (HT.sIx ds.length ds.length hi - HT.sIx ds.length 0 lo)
def mSl (m : M) (lo hi : MO) : M := fun st => bindO (m st) fun d st1 => bindO (lo st1) fun l st2 => bindO (hi st2) fun u st3 => match d with
  | .lst ds => .ok (.lst (cutD ds l u)) st3
  | .tup ds => .ok (.tup (cutD ds l u)) st3
  | .ks ds => .ok (.lst (cutD ds l u)) st3
  | _ => .no
section
variable {X : Cx} {g : G} {ER : EK} {pos p2 : Pos} {e : Expr}
theorem po_mN : PO X none (tMO g ER mPN) := POi po_none fun σ H Q h => by
  obtain ⟨ρ, st, s, h⟩ := h
  exact h ρ H Ext.refl s
theorem po_mS {m : M} (h : PE X e (tM g ER m)) : PO X (some e) (tMO g ER (mPS m)) := POi (po_some h) fun σ H Q h => by
  obtain ⟨ρ, st, s, h⟩ := h
  refine ⟨ρ, st, s, (OutC.bind h).mono fun d st1 ρ1 H1 _ h1 s1 x rx => ?_⟩
  cases d with
  | int i => exact ⟨i, rx.inv_int, h1 ρ1 H1 Ext.refl s1⟩
  | _ => exact h1.elim
theorem cut_ok {A : Addr → Prop} {H : Hp} {xs : List V} {ds : List D} (r : RpA g A H xs ds) (lo hi : Option Int) : RpA g A H (cutV xs lo hi) (cutD ds lo hi) := by
  unfold cutV cutD
  rw [r.1]
  exact (r.drop _).take _
theorem pe_mSl {lo hi : Option Expr} {m : M} {ml mh : MO} (hk : X.K = g.K) (he : PE X e (tM g ER m)) (hl : PO X lo (tMO g ER ml)) (hh : PO X hi (tMO g ER mh)) : PE X (.Subscript e (.Slice lo hi none p2) pos) (tM g ER (mSl m ml mh)) := by
  refine PEi (pe_slice (SlR.or sl_list sl_tupA) he hl hh) fun σ H Q h => ?_
  obtain ⟨ρ, st, s, h⟩ := h
  refine ⟨ρ, st, s, (OutC.bind h).mono fun d st1 ρ1 H1 _ h1 s1 x rx => ?_⟩
  refine ⟨ρ1, st1, s1, (OutC.bind h1).mono fun l st2 ρ2 H2 x2 h2 s2 => ?_⟩
  refine ⟨ρ2, st2, s2, (OutC.bind h2).mono fun u st3 ρ3 H3 x3 h3 s3 => ?_⟩
  have rx := (rx.go x2).go x3
  rw [hk]
  cases d with
  | lst ds =>
    obtain ⟨a, xs, rfl, ha, na, ra⟩ := rx.inv_lst
    exact .inl ⟨a, xs, rfl, SqL.of ha, fresh_lst s3 (cut_ok ra l u) fun ρ' H' v x s' r => h3 ρ' H' x s' v r⟩
  | tup ds =>
    obtain ⟨a, xs, rfl, ha, na, ra⟩ := rx.inv_tup
    refine .inr ⟨a, xs, rfl, SqT.of ha, fun z => ?_, fun _ => fresh_tup s3 (cut_ok ra l u) fun ρ' H' v x s' r => h3 ρ' H' x s' v r⟩
    have e : cutD ds l u = ds := by
      unfold cutD
      rw [← ra.1, z.1, z.2, List.drop_zero, Nat.sub_zero, ra.1, List.take_length]
    simp only [e] at h3
    exact h3 ρ3 H3 Ext.refl s3 _ (Rp.tup' ha na ra)
  | ks ds =>
    obtain ⟨a, xs, rfl, ha, ra⟩ := rx.seq (ds := ds) rfl
    rcases ha with ha | ha
    · exact .inl ⟨a, xs, rfl, ha, fresh_lst s3 (cut_ok ra l u) fun ρ' H' v x s' r => h3 ρ' H' x s' v r⟩
    · cases rx with
      | kls h n hl q => exact .inl ⟨_, _, rfl, .inl (.inr ⟨_, h⟩), fresh_lst s3 (cut_ok ⟨hl, q⟩ l u) fun ρ' H' v x s' r => h3 ρ' H' x s' v r⟩
      | klw h hl q => exact .inl ⟨_, _, rfl, .inr h, fresh_lst s3 (cut_ok ⟨hl, q⟩ l u) fun ρ' H' v x s' r => h3 ρ' H' x s' v r⟩
  | _ => exact h3.elim
end
end RE
set_option maxHeartbeats 2000000
namespace RE
open PySem PySem.Spec PyProof.Rows L2
def powD (a b : D) : Option D := match a, b with
  | .int i, .int j => if 0 ≤ j ∧ j ≤ 1000000 ∧ smallI i = true then some (.int (i ^ j.toNat)) else none
  | _, _ => none
theorem rop_pow {g : G} : ROp g (rI CPow fun i j => .int (i ^ j.toNat)) powD := by
  intro ρ σ st H x y dx dy d Q e s rx ry k
  unfold powD at e
  split at e
  · rename_i i j
    split at e
    · rename_i hz
      obtain ⟨h1, h2, h3⟩ := hz
      have h4 := smallI_ok h3
      exact ⟨i, j, rx.inv_int, ry.inv_int, ⟨h1, h2, by omega⟩, k ρ H _ Ext.refl s (by rw [← Option.some.inj e]; exact .int _)⟩
    · cases e
  · cases e
section
variable {X : Cx} {g : G} {ER : EK} {pos pos' : Pos}
theorem RpA.set {A : Addr → Prop} {H : Hp} {xs : List V} {ds : List D} {x : V} {d : D} (h : RpA g A H xs ds) (r : Rp g A H x d) (n : Nat) : RpA g A H (xs.set n x) (ds.set n d) :=
  ⟨by rw [List.length_set, List.length_set]; exact h.1, fun i y e hy he => by
    rw [List.getElem?_set] at hy he
    by_cases z : n = i
    · rw [if_pos z] at hy he
      split at hy
      · split at he
        · cases Option.some.inj hy; cases Option.some.inj he; exact r
        · cases he
      · cases hy
    · rw [if_neg z] at hy he
      exact h.2 i y e hy he⟩
/-- x[k] = v, x a list's cell -/
def mPutL (i : Nat) (mk mv : M) : MS := fun st => bindS (mv st) fun z st1 => match st1.cellOf i with
  | some k => bindS (mk st1) fun y st2 => match y with
    | .int j => match st2.ce[k]? with
      | some (.l ds) => match ixN ds.length j with
        | some n => .nx (st2.setC k (.l (ds.set n z)))
        | none => .no
      | _ => .no
    | _ => .no
  | none => .no
theorem ps_mPutL {o ke ve : Expr} {i : Nat} {mk mv : M} {tp : Pos} (ho : PE X o (tVar i)) (hk : PE X ke (tM g ER mk)) (hv : PE X ve (tM g ER mv)) (hs : swapsWithSole [.Subscript o ke tp] ve pos.line X.env = pure false := by rfl) (hw : swappedStores [.Subscript o ke tp] ve X.env = pure none := by rfl)
    (h1 : (assignEach [.Subscript o ke tp] X.env).map (·.2) = [assign (.Subscript o ke tp) X.env] := by rfl)
    (ha : ∀ v, assign (.Subscript o ke tp) X.env v = (do
      let oo ← holding [v] (eval o X.env)
      let ii ← holding [v, oo] (eval ke X.env)
      standAt tp
      holding [v, oo, ii] (setItem oo ii v)
      release [v, oo, ii] []) := by intro _; rfl) :
    PS X (.Assign [.Subscript o ke tp] ve pos) (tMS g ER (mPutL i mk mv)) := by
  refine PSi (ps_asg hv (pg_sub ho hk set_list ha) hs hw h1) fun E σ H h => ?_
  obtain ⟨ρ, st, s, h⟩ := h
  refine ⟨ρ, st, s, (OutS.bind h).mono fun z st1 ρ1 H1 _ h1 s1 v rv => ?_⟩
  cases e1 : st1.cellOf i with
  | none => simp only [e1] at h1; exact h1.elim
  | some k =>
    simp only [e1] at h1
    obtain ⟨a, hu, ha⟩ := s1.rf (cellOf_ok e1)
    refine ⟨_, hu, ρ1, st1, s1, (OutS.bind h1).mono fun y st2 ρ2 H2 x2 h2 s2 u ru => ?_⟩
    have ha2 := x2.pre k a ha
    have rv2 := rv.go x2
    cases y with
    | int j =>
      cases e3 : st2.ce[k]? with
      | none => simp only [e3] at h2; exact h2.elim
      | some c =>
        cases c with
        | l ds =>
          simp only [e3] at h2
          cases e4 : ixN ds.length j with
          | none => simp only [e4] at h2; exact h2.elim
          | some n =>
            simp only [e4] at h2
            obtain ⟨xs, q2, q3⟩ := s2.cell k _ a e3 ha2
            have xe := Ext.setC (c := .l (ds.set n z)) (o := .lst (xs.set n v)) s2 e3 rfl ha2
            exact ⟨a, xs, j, n, rfl, ru.inv_int, q2, by rw [q3.1]; exact e4, h2 ρ2 σ _ xe (s2.setC e3 rfl ha2 rfl ⟨_, upd_same, (q3.set rv2 n).ext xe.keep⟩)⟩
        | _ => simp only [e3] at h2; exact h2.elim
    | _ => exact h2.elim
/-- x[k], x a name: a datum, or a cell that stays one -/
def mIxB (i : Nat) (mb : M) : M := fun st => match st.cellOf i with
  | some k => bindO (mb st) fun y st1 => match st1.ce[k]? with
    | some (.l ds) => optO (ixI ds y) st1
    | _ => .no
  | none => mBin ixD (mVarF i) mb st
theorem pe_mIxB {x : Str} {p : Pos} {b : Expr} {i : Nat} {mb : M} (hk : X.K = g.K) (hu : X.A.units + 1 < cLine) (hx : PE X (.Name x p) (tVar i)) (hb : PE X b (tM g ER mb)) (hs : PlainIx b) (hn : NoSl b) : PE X (.Subscript (.Name x p) b pos) (tM g ER (mIxB i mb)) := by
  refine PEi (PE.or (pe_mIx hk hu (pe_mVarF hx) hb hs hn) (pe_ix ix_seq hx hb hs)) fun σ H Q h => ?_
  obtain ⟨ρ, st, s, h⟩ := h
  cases e1 : st.cellOf i with
  | none => simp only [mIxB, e1] at h; exact .inl ⟨ρ, st, s, h⟩
  | some k =>
    simp only [mIxB, e1] at h
    obtain ⟨a, hu, ha⟩ := s.rf (cellOf_ok e1)
    refine .inr ⟨_, hu, ρ, st, s, (OutC.bind h).mono fun y st1 ρ1 H1 x1 h1 s1 u ru => ?_⟩
    cases e3 : st1.ce[k]? with
    | none => simp only [e3] at h1; exact h1.elim
    | some c =>
      cases c with
      | l ds =>
        simp only [e3] at h1
        obtain ⟨xs, q2, q3⟩ := s1.cell k _ a e3 (x1.pre k a ha)
        cases y with
        | int j =>
          cases e4 : atD ds j with
          | none =>
            have e5 : ixI ds (.int j) = none := e4
            simp only [e5] at h1; exact h1.elim
          | some d =>
            have e5 : ixI ds (.int j) = some d := e4
            simp only [e5] at h1
            obtain ⟨v, hv, rv⟩ := atD_ok q3 e4
            rw [hk]
            exact .inl ⟨a, xs, j, v, rfl, ru.inv_int, SqL.of q2, hv, h1 ρ1 H1 Ext.refl s1 v rv⟩
        | _ => exact h1.elim
      | _ => simp only [e3] at h1; exact h1.elim
end
end RE
set_option maxHeartbeats 2000000
namespace RE
open PySem PySem.Spec PyProof.Rows L2
/-- e makes a list as its last deed -/
def tF (g : G) (ER : EK) (m : MA) : TE := fun σ H Q => ∃ ρ st, Sim g ρ σ H st ∧ OutC ER ρ st H (m st) fun ds st' ρ' H' => Sim g ρ' σ H' st' → ∀ xs, RpA g (Vol ρ' st') H' xs ds → ∀ p, H' p = none → Q (.ref p) (upd H' p (.lst xs))
section
variable {X : Cx} {g : G} {ER : EK} {pos pos' : Pos}
def fLst (ms : MA) : MA := fun st => bindO (ms st) fun ds st1 => if ds.length ≤ 1000 then .ok ds st1 else .no
theorem pe_fLst {es : List Expr} {ms : MA} (h : PA X es (tMA g ER ms)) : PE X (.List es pos) (tF g ER (fLst ms)) := by
  refine PEi (pe_lst h) fun σ H Q h => ?_
  obtain ⟨ρ, st, s, h⟩ := h
  refine ⟨ρ, st, s, (OutC.bind h).mono fun ds st1 ρ1 H1 _ h1 s1 xs rs => ?_⟩
  by_cases hz : ds.length ≤ 1000
  · rw [if_pos hz] at h1
    exact ⟨by rw [rs.1]; exact Nat.le_trans hz (by decide), h1 ρ1 H1 Ext.refl s1 xs rs⟩
  · rw [if_neg hz] at h1; exact h1.elim
def fAdd (ma mb : M) : MA := fun st => bindO (ma st) fun a st1 => bindO (mb st1) fun b st2 => match a, b with
  | .lst ds, .lst es => if ds.length + es.length ≤ lim then .ok (ds ++ es) st2 else .no
  | _, _ => .no
theorem pe_fAdd {a b : Expr} {ma mb : M} (ha : PE X a (tM g ER ma)) (hb : PE X b (tM g ER mb)) : PE X (.BinOp a .Add b pos) (tF g ER (fAdd ma mb)) := by
  refine PEi (pe_op op_cat ha hb) fun σ H Q h => ?_
  obtain ⟨ρ, st, s, h⟩ := h
  refine ⟨ρ, st, s, (OutC.bind h).mono fun d st1 ρ1 H1 _ h1 s1 v rv => ?_⟩
  refine ⟨ρ1, st1, s1, (OutC.bind h1).mono fun e st2 ρ2 H2 x2 h2 s2 u ru => ?_⟩
  cases d with
  | lst ds =>
    cases e with
    | lst es =>
      by_cases hz : ds.length + es.length ≤ lim
      · simp only [if_pos hz] at h2
        obtain ⟨a, xs, rfl, ha, na, ra⟩ := (rv.go x2).inv_lst
        obtain ⟨b, ys, rfl, hb, nb, rb⟩ := ru.inv_lst
        exact ⟨a, b, xs, ys, rfl, rfl, ha, hb, lim_ok (by rw [ra.1, rb.1]; exact hz), h2 ρ2 H2 Ext.refl s2 _ (ra.append rb)⟩
      · simp only [if_neg hz] at h2; exact h2.elim
    | _ => exact h2.elim
  | _ => exact h2.elim
def fList (m : M) : MA := fun st => bindO (m st) fun d st1 => optO (seqD d) st1
theorem pe_fList {p : Pos} {a : Expr} {m : M} (hk : X.K = g.K) (hg : Gl X "list") (hm : X.mg "list" = none) (ha : PE X a (tM g ER m)) (hs : starEach [a] X.env = (false, eval a X.env) :: starEach [] X.env := by rfl) (hpl : (backTo pos (starEach ([] : List Expr) X.env)).any (·.1) = false := by rfl) : PE X (.Call (.Name "list" p) [a] [] pos) (tF g ER (fList m)) := by
  refine PEi (pe_callTy call_list_of hg hm (by decide +kernel) (pa_cons ha pa_nil hs) (by decide) (by decide) hs hpl) fun σ H Q h => ?_
  obtain ⟨ρ, st, s, h⟩ := h
  refine ⟨ρ, st, s, (OutC.bind h).mono fun d st1 ρ1 H1 _ h1 s1 v rv => ?_⟩
  cases e : seqD d with
  | none => simp only [e] at h1; exact h1.elim
  | some ds =>
    simp only [e] at h1
    obtain ⟨a, ys, rfl, ha, ra⟩ := rv.seq e
    rw [hk]
    exact ⟨a, ys, rfl, ha, h1 ρ1 H1 Ext.refl s1 ys ra⟩
/-- a or b, two lists made new -/
def fOr (m n : MA) : MA := fun st => bindO (m st) fun ds st1 => if ds.isEmpty = true then n st1 else .ok ds st1
theorem pe_fOr {a b : Expr} {m n : MA} (hk : X.K = g.K) (ha : PE X a (tF g ER m)) (hb : PE X b (tF g ER n)) : PE X (.BoolOp .Or [a, b] pos) (tF g ER (fOr m n)) := by
  refine PEi (pe_orT ha (pe_one hb)) fun σ H Q h => ?_
  obtain ⟨ρ, st, s, h⟩ := h
  refine ⟨ρ, st, s, (OutC.bind h).mono fun ds st1 ρ1 H1 x1 h1 s1 xs rs p hp => ?_⟩
  have ht : ∀ k, k = !ds.isEmpty → TruV X.K (.ref p) (upd H1 p (.lst xs)) k := fun k e => .inl ⟨xs, SqL.of upd_same, by rw [e, empty_of rs.1]⟩
  cases e : ds.isEmpty with
  | true =>
    rw [e, if_pos rfl] at h1
    refine ⟨false, ht false (by rw [e]; rfl), iteF ⟨ρ1, st1, s1.new hp, h1.later (Ext.new s1 hp)⟩⟩
  | false =>
    rw [e, if_neg (by decide)] at h1
    exact ⟨true, ht true (by rw [e]; rfl), iteT (h1 ρ1 H1 Ext.refl s1 xs rs p hp)⟩
/-- x = a new list: a cell -/
def mSetF (i : Nat) (m : MA) : MS := fun st => bindS (m st) fun ds st1 => .nx (st1.addC i (.l ds))
theorem ps_mSetF {i : Nat} {x : Str} {e : Expr} {m : MA} (hN : X.N.Nodup) (hi : X.N[i]? = some x) (hx : Loc X.env.scope x) (he : PE X e (tF g ER m)) {spos : Pos} (hs : swapsWith e (some (.Name x pos')) spos.line X.env = pure false := by rfl) (hf : X.fn x = true ∨ X.env.scope.names.lookup x = some .local := by first | exact .inl rfl | exact .inr rfl) :
    PS X (.Assign [.Name x pos'] e spos) (tMS g ER (mSetF i m)) := by
  refine PSi (ps_set hN hi hx he hs hf) fun E σ H h => ?_
  obtain ⟨ρ, st, s, h⟩ := h
  refine ⟨ρ, st, s, (OutS.bind h).mono fun ds st1 ρ1 H1 _ h1 s1 xs rs p hp => ?_⟩
  have xe := Ext.addC (c := .l ds) (i := i) (o := .lst xs) s1 hp
  exact h1 (ρ1.addC p) _ _ xe (s1.addC hp ⟨xs, upd_same, rs.ext xe.keep⟩)
/-- a new list handed on as a cell -/
def rFr (m : MA) (ms : MR) : MR := fun st => bindO (m st) fun ds st1 => bindO (ms (st1.addC st1.sl.length (.l ds))) fun as st2 => .ok (.rf st1.ce.length :: as) st2
theorem pa_rFr {e : Expr} {es : List Expr} {m : MA} {ms : MR} (ha : PE X e (tF g ER m)) (hr : PA X es (tMR g ER ms)) (hs : starEach (e :: es) X.env = (false, eval e X.env) :: starEach es X.env := by rfl) : PA X (e :: es) (tMR g ER (rFr m ms)) := by
  refine PAi (pa_cons ha hr hs) fun σ H Q h => ?_
  obtain ⟨ρ, st, s, h⟩ := h
  refine ⟨ρ, st, s, (OutC.bind h).mono fun ds st1 ρ1 H1 _ h1 s1 xs rs p hp => ?_⟩
  have xe := Ext.addC (c := .l ds) (i := st1.sl.length) (o := .lst xs) s1 hp
  have sa := s1.addC (c := .l ds) (i := st1.sl.length) (o := .lst xs) hp ⟨xs, upd_same, rs.ext xe.keep⟩
  have es' : σ.set st1.sl.length (some (.ref p)) = σ := List.set_eq_of_length_le (by rw [s1.len]; exact Nat.le_refl _)
  rw [es'] at sa
  refine ⟨ρ1.addC p, _, sa, ?_⟩
  have hz : (ρ1.addC p).ad[st1.ce.length]? = some p := by
    show (ρ1.ad ++ [p])[st1.ce.length]? = _
    rw [List.getElem?_append_right (by rw [s1.clen]; exact Nat.le_refl _), s1.clen, Nat.sub_self]; rfl
  refine ((OutC.bind h1).later xe).mono fun as st2 ρ2 H2 e2 h2 s2 vs rv => ?_
  exact h2 ρ2 H2 Ext.refl s2 (.ref p :: vs) (ArgsOk.cons ⟨p, rfl, e2.pre _ _ hz⟩ rv)
theorem lenR_fr {m : MA} {ms : MR} {n : Nat} (h : ∀ st xs st', ms st = .ok xs st' → xs.length = n) : ∀ st xs st', rFr m ms st = .ok xs st' → xs.length = n + 1 := fun st xs st' e => by
  unfold rFr at e
  cases e1 : m st with
  | no => rw [e1] at e; cases e
  | er c v s => rw [e1] at e; cases e
  | ok d st1 =>
    rw [e1] at e
    have e : bindO (ms (st1.addC st1.sl.length (.l d))) (fun as st2 => O.ok (Sl.rf st1.ce.length :: as) st2) = .ok xs st' := e
    cases e2 : ms (st1.addC st1.sl.length (.l d)) with
    | no => rw [e2] at e; cases e
    | er c v s => rw [e2] at e; cases e
    | ok ds st2 =>
      rw [e2] at e
      have e : O.ok (Sl.rf st1.ce.length :: ds) st2 = .ok xs st' := e
      injection e with e3 e4
      rw [← e3, List.length_cons, h _ ds st2 e2]
end
def spFr (g : G) (np n : Nat) (ms : MS) (mf : MA) : Sp := fun vs H Q E => vs.length = np ∧ ∃ (ρ : Rh) (as : List Sl) (ce : List Ce), as.length = np ∧ Sim g ρ (vs.map some) H ⟨as, ce⟩ ∧ ∃ st1 ds st', ms (S.start as n ce) = .nx st1 ∧ mf st1 = .ok ds st' ∧
  ∀ ρ' H' xs, Ext ρ ⟨as, ce⟩ H ρ' st' H' → Cells g ρ' H' st' → RpA g (Vol ρ' st') H' xs ds → ∀ p, H' p = none → Q (.ref p) (upd H' p (.lst xs))
section
variable {P : Program} {w : World} {base : Heap} {K : PySem.W.Frag} {mg : Str → Option Value}
theorem okFr {g : G} {x qual : Str} {st : Stmt} {f : Addr} {fd : FuncData} {N ps : List Str} {k np n : Nat} {ms : MS} {mf : MA} (F : Fun K x qual st f fd) (S' : FnScope N ps (defScope st)) (hp : ps.length = np) (hN : N.length = n) (hpn : np ≤ n)
    (hbody : ∀ (cdv : Value) (A : Around) (outer : List Env) (s : Shared) (H : Hp) (E : XK), Room k (A.deeper (envOfC qual (defScope st) s.heap.objs.size f cdv)) →
      PSs (cxOf (L2.CX P w) P w K mg base N qual (defScope st) f cdv A outer s H E) (defBody st) (fun D σ H => tMS g (erOf g E) ms { D with nx := fun σ' H' => tRet (tF g (erOf g E) mf) D σ' H' } σ H)) : FnOk P w K mg base (L2.CX P w) (k + 1) f fd ps (spFr g np n ms mf) := by
  refine F.okX S' (fun vs H Q E h => by rw [hp]; exact h.1) fun cdv A outer s H vs Q E hr h => ⟨_, hbody cdv A outer s H E hr, ?_⟩
  obtain ⟨hl, ρ, as, ce, ha, sm, st1, ds, st', e1, e2, q⟩ := h
  subst hN
  refine ⟨ρ, S.start as N.length ce, sim_start sm (by omega), ?_⟩
  rw [e1]
  intro ρ1 σ1 H1 x1 s1
  refine ⟨ρ1, st1, s1, ?_⟩
  rw [e2]
  intro ρ2 H2 x2 s2 xs rs p hp'
  exact q ρ2 H2 xs ((x1.trans x2).ce rfl) s2.toCells rs p hp'
end
/-- what it gives for such data -/
def runFr (ms : MS) (mf : MA) (n : Nat) (ds : List D) (st : S) : O (List D) := match ms (S.start (ds.map .d) n []) with
  | .nx st1 => match mf st1 with
    | .ok es _ => .ok es st
    | _ => .no
  | _ => .no
def fCall (ms : MS) (mf : MA) (n : Nat) (ma : MA) : MA := fun st => bindO (ma st) fun ds st1 => runFr ms mf n ds st1
section
variable {X : Cx} {g : G} {ER : EK} {CX : CXT} {k n np : Nat} {f : Addr} {fd : FuncData} {ps : List Str} {ms : MS} {mf : MA} {E : XK} {x : Str} {p pos : Pos} {e : Expr} {es : List Expr} {ma : MA}
theorem pe_fCall (F : FnOk X.prog X.w X.K X.mg X.base CX k f fd ps (spFr g np n ms mf)) (hr : Room k X.A) (hg : Gl X x) (hm : X.mg x = some (.ref f)) (hk : PySem.W.keepIn X.K (.ref f) = true) (hb : Binds X.K fd ps []) (hx : Passes CX X E)
    (ha : PA X (e :: es) (tMA g ER ma)) (hlen : ∀ st xs st', ma st = .ok xs st' → xs.length = np) (hdb : (x == ("__debug__" : Str)) = false := by decide) (he : starEach (e :: es) X.env = (false, eval e X.env) :: starEach es X.env := by rfl) (hpl : (backTo pos (starEach es X.env)).any (·.1) = false := by rfl) :
    PE X (.Call (.Name x p) (e :: es) [] pos) (tF g ER (fCall ms mf n ma)) := by
  refine PEi (pe_call F hr hg hm hk hb .nil hx ha hdb he hpl) fun σ H Q h => ?_
  obtain ⟨ρ, st, s, h⟩ := h
  refine ⟨ρ, st, s, ?_⟩
  have hh := OutC.bind h
  cases ea : ma st with
  | no => rw [ea] at hh; exact hh
  | er c vs st' => rw [ea] at hh; exact hh
  | ok ds st1 =>
    rw [ea] at hh
    intro ρ1 H1 x1 s1 vs rs
    have h1 := hlen st ds st1 ea
    have h2 : OutC ER ρ1 st1 H1 (runFr ms mf n ds st1) _ := hh ρ1 H1 x1
    unfold runFr at h2
    cases e1 : ms (S.start (ds.map .d) n []) with
    | nx stb =>
      simp only [e1] at h2
      cases e2 : mf stb with
      | ok es' stc =>
        simp only [e2] at h2
        rw [List.append_nil]
        refine ⟨by rw [rs.1]; exact h1, ⟨[], Vol ρ1 st1⟩, ds.map .d, [], by rw [List.length_map]; exact h1, sim_args s1 rs, stb, es', stc, e1, e2, fun ρ' H' xs x' cc rx p' hp' => ?_⟩
        obtain ⟨b1, b2, b3⟩ := back_call s1 rfl x'
        exact h2 ρ1 H' b1 b2 xs (rx.ext fun a o h n => ⟨h, fun v => n (b3 a v)⟩) p' hp'
      | er c v s => simp only [e2] at h2; exact h2.elim
      | no => simp only [e2] at h2; exact h2.elim
    | _ => simp only [e1] at h2; exact h2.elim
end
end RE
set_option maxHeartbeats 2000000
namespace RE
open PySem PySem.Spec PyProof.Rows L2
def clsIs (o : Obj) (s : String) : Bool := match o.cls with
  | .type t => decide (t = s)
  | _ => false
/-- the value v of the written part is the datum d -/
def ktV (K : PySem.W.Frag) : Nat → Value → D → Bool
  | _, .int i _, .int j => decide (i = j)
  | n + 1, .ref a, .kt ds => match K.lookup a with
    | some o => (clsIs o "tuple" && o.dict.isNone) && match o.data with
      | .seq its _ => decide (ds.length ≤ 1000) && ktL K n its.toList ds
      | _ => false
    | none => false
  | _, _, _ => false
where ktL (K : PySem.W.Frag) (n : Nat) : List Value → List D → Bool
  | [], [] => true
  | v :: vs, d :: ds => ktV K n v d && ktL K n vs ds
  | _, _ => false
theorem clsIs_ok {o : Obj} {s : String} (h : clsIs o s = true) : o.cls = .type s := by
  unfold clsIs at h
  split at h
  · rename_i t e; rw [e, of_decide_eq_true h]
  · cases h
theorem ktV_ok {K : PySem.W.Frag} : ∀ (n : Nat) (v : Value) (d : D), ktV K n v d = true → ∃ u, RelV u v ∧ ∀ (g : G), g.K = K → ∀ A H, Rp g A H u d := by
  intro n
  induction n with
  | zero =>
    intro v d h
    cases v <;> cases d <;> first
      | (have e := of_decide_eq_true (show decide _ = true from h); subst e; exact ⟨.int _, ⟨_, rfl⟩, fun g hg A H => .int _⟩)
      | cases h
  | succ n ih =>
    have all : ∀ (vs : List Value) (ds : List D), ktV.ktL K n vs ds = true → ∃ us, Vals us vs ∧ ∀ (g : G), g.K = K → ∀ A H, RpA g A H us ds := by
      intro vs
      induction vs with
      | nil =>
        intro ds h
        cases ds with
        | nil => exact ⟨[], .nil, fun g hg A H => RpA.nil⟩
        | cons _ _ => cases h
      | cons v vs ihv =>
        intro ds h
        cases ds with
        | nil => cases h
        | cons d ds =>
          have h' : (ktV K n v d && ktV.ktL K n vs ds) = true := h
          obtain ⟨h1, h2⟩ := (Bool.and_eq_true_iff).mp h'
          obtain ⟨u, r1, q1⟩ := ih v d h1
          obtain ⟨us, r2, q2⟩ := ihv ds h2
          exact ⟨u :: us, .cons r1 r2, fun g hg A H => RpA.cons (q1 g hg A H) (q2 g hg A H)⟩
    intro v d h
    cases v with
    | int i t =>
      cases d with
      | int j => have e := of_decide_eq_true (show decide (i = j) = true from h); subst e; exact ⟨.int _, ⟨_, rfl⟩, fun g hg A H => .int _⟩
      | _ => cases h
    | ref a =>
      cases d with
      | kt ds =>
        unfold ktV at h
        cases e : K.lookup a with
        | none => simp only [e] at h; cases h
        | some o =>
          simp only [e] at h
          obtain ⟨h1, h2⟩ := Bool.and_eq_true_iff.mp h
          cases e2 : o.data with
          | seq its m =>
            simp only [e2] at h2
            obtain ⟨h3, h4⟩ := Bool.and_eq_true_iff.mp h2
            obtain ⟨us, r, q⟩ := all its.toList ds h4
            have hz : its.size ≤ sizeLine := by
              have e3 := r.length
              have e4 := (q ⟨K, fun _ => 0, fun _ => 0, fun _ => []⟩ rfl (fun _ => False) (fun _ => none)).1
              have e5 : its.size = its.toList.length := by rw [Array.length_toList]
              have e6 := of_decide_eq_true h3
              rw [e5, ← e3, e4]
              exact Nat.le_trans e6 (by decide)
            refine ⟨.ref a, rfl, fun g hg A H => ?_⟩
            subst hg
            obtain ⟨h1, h5⟩ := Bool.and_eq_true_iff.mp h1
            exact .ktup (.inl ⟨o, its, m, e, clsIs_ok h1, Option.isNone_iff_eq_none.mp h5, e2, hz, r⟩) (q g rfl A H).1 (q g rfl A H).2
          | _ => simp only [e2] at h2; cases h2
      | _ => cases h
    | _ => cases d <;> cases h
/-- the constant x of the module -/
theorem const_t {K : PySem.W.Frag} {g : G} {mg : Str → Option Value} {x : Str} {a : Addr} {d : D} {n : Nat} (hg : g.K = K) (h : mg x = some (.ref a)) (e : ktV K n (.ref a) d = true) : ∃ a, mg x = some (.ref a) ∧ ∀ A H, Rp g A H (.ref a) d := by
  obtain ⟨u, r, q⟩ := ktV_ok n _ d e
  have hu : u = .ref a := by
    cases u with
    | ref b => have r' : Value.ref a = Value.ref b := r; injection r' with r'; rw [r']
    | int i => obtain ⟨t, r'⟩ := (show ∃ t, Value.ref a = Value.int i t from r); cases r'
    | str z => obtain ⟨t, r'⟩ := (show ∃ t, Value.ref a = Value.str z t from r); cases r'
    | bl b => have r' : Value.ref a = Value.bool b := r; cases r'
    | non => have r' : Value.ref a = Value.none := r; cases r'
    | _ => first | (cases r; done) | (obtain ⟨t, r'⟩ := r; cases r'; done)
  exact ⟨a, h, fun A H => by rw [← hu]; exact q g hg A H⟩
/-- the script -/
theorem script_rp {g : G} {H : Hp} {a : Addr} {ns : List Int} (hO : Only H) (h : SqL g.K H a (ns.map V.int)) : Rp g (fun _ => False) H (.ref a) (.ks (ns.map .int)) := by
  have q : RpA g (fun _ => False) H (ns.map V.int) (ns.map D.int) := ⟨by rw [List.length_map, List.length_map], fun i x d hx hd => by
    rw [List.getElem?_map] at hx hd
    obtain ⟨n, hn, rfl⟩ := Option.map_eq_some_iff.mp hx
    obtain ⟨m, hm, rfl⟩ := Option.map_eq_some_iff.mp hd
    rw [hn] at hm
    cases Option.some.inj hm
    exact .int n⟩
  rcases h with h | h
  · rcases h with h | ⟨o, h⟩
    · rcases hO a with z | ⟨o, xs, z⟩
      · rw [h] at z; cases z
      · rw [h] at z; cases z
    · exact .kls h (fun f => f.elim) q.1 q.2
  · exact .klw h q.1 q.2
/-- the law's promise -/
def spLaw (K : PySem.W.Frag) : Sp := fun vs H Q _ => ∃ (a : Addr) (ns : List Int), vs = [.ref a] ∧ Only H ∧ SqL K H a (ns.map V.int) ∧ ns.length ≤ 63 ∧ ∀ H', Q (.bl true) H'
def trueS : SO → Bool
  | .rt (.bl true) _ => true
  | _ => false
theorem law_imp {P : Program} {w : World} {g : G} {mg : Str → Option Value} {base : Heap} {CX : CXT} {k n : Nat} {f : Addr} {fd : FuncData} {ps : List Str} {ms : MS} (F : FnOk P w g.K mg base CX k f fd ps (spF g 1 n ms))
    (h : ∀ ns : List Int, ns.length ≤ 63 → trueS (ms (S.start [.d (.ks (ns.map .int))] n [])) = true) : FnOk P w g.K mg base CX k f fd ps (spLaw g.K) := F.imp fun vs H Q E q => by
  obtain ⟨a, ns, rfl, hO, hS, hl, q⟩ := q
  refine ⟨rfl, ⟨[], fun _ => False⟩, [.d (.ks (ns.map .int))], [], rfl, ⟨⟨fun a f => f.elim, rfl, fun k c a e => by simp at e, fun j k c c' a e => by simp at e, fun k c a e => by simp at e⟩, rfl, fun i s v e1 e2 => ?_⟩, ?_⟩
  · cases i with
    | zero =>
      have e1 : some (Sl.d (.ks (ns.map .int))) = some s := e1
      have e2 : some (some (V.ref a)) = some v := e2
      cases Option.some.inj e1
      cases Option.some.inj e2
      refine ⟨.ref a, rfl, (script_rp hO hS).ext fun b o hb n => ⟨hb, fun v => ?_⟩⟩
      rcases v with v | ⟨k, c, hc, _⟩
      · exact v.elim
      · simp at hc
    | succ i => simp at e1
  · have h1 := h ns hl
    unfold trueS at h1
    split at h1
    · rename_i st' e
      rw [e]
      intro ρ' H' v _ _ r
      rw [r.inv_bl]
      exact q H'
    · cases h1
theorem cx_no {P : Program} {w : World} {H : Hp} {s : Shared} {e : Value} {s' : Shared} (h : L2.CX P w [] H s (fun _ _ _ => False) e s') : False := by
  obtain ⟨_, _, _, _, _, _, _, _, _, _, _, _, h⟩ := h
  exact h
end RE
set_option maxHeartbeats 4000000
namespace RE
open PySem PySem.Spec PyProof.Rows L2 Builtin Builtin.ObjectAttr
end RE
set_option maxHeartbeats 4000000
namespace RE
open PySem PySem.Spec PyProof.Rows L2
/-- behind a suite the name's slot is empty -/
def gone (D : Ends) (i : Nat) : Ends := ⟨fun σ' H' => D.nx (σ'.set i none) H', D.rt, fun σ' H' => D.bk (σ'.set i none) H', fun σ' H' => D.ct (σ'.set i none) H'⟩
section
variable {X : Cx} {pn : List (Addr × Obj)} {σ : L2.St} {H : Hp} {sI s : Shared} {B h3 : Heap} {a : Addr} {cls : Value} {d : Option Addr} {D : Ends} {Wout : WX}
/-- an error that has come down at a try -/
structure Down (X : Cx) (pn : List (Addr × Obj)) (σ : L2.St) (H : Hp) (sI s : Shared) (B : Heap) (a : Addr) (cls : Value) (d : Option Addr) (h3 : Heap) : Prop where
  inv : Inv X pn σ H sI
  nb : ∀ b o, sI.heap.get? b = some o → b ∉ frs X.stack → B.get? b = some o
  up : sI.heap.UpToSlots h3
  fly : HandSPX.FlyingZ B (X.env :: X.outer) a (Zc cls d) h3
  na : H a = none
  os : s.os = sI.os
  ag : AllBare s.gens
theorem Down.more {h4 : Heap} (x : Down X pn σ H sI s B a cls d h3) (fl : HandSPX.FlyingZ B (X.env :: X.outer) a (Zc cls d) h4) (up : h3.UpToSlots h4) : Down X pn σ H sI s B a cls d h4 := ⟨x.inv, x.nb, x.up.trans up, fl, x.na, x.os, x.ag⟩
end
end RE
set_option maxHeartbeats 4000000
namespace RE
open PySem PySem.Spec PyProof.Rows L2
end RE
set_option maxHeartbeats 4000000
namespace RE
open PySem PySem.Spec PyProof.Rows L2
theorem ErrIs.go {g : G} {ρ ρ' : Rh} {st st' : S} {H H' : Hp} {c : Nat} {vs : List D} {cls : Value} {d : Option Addr} (x : ErrIs g (Vol ρ st) H c vs cls d) (e : Ext ρ st H ρ' st' H') : ErrIs g (Vol ρ' st') H' c vs cls d := by
  obtain ⟨q1, q2⟩ := x
  refine ⟨q1, q2.imp id fun ⟨dd, nm, y, v, z1, z2, z3, z4, z5, z6⟩ => ?_⟩
  obtain ⟨k1, k2⟩ := e.keep dd _ z2 z6
  exact ⟨dd, nm, y, v, z1, k1, z3, z4, z5.go e, k2⟩
theorem ErrIs.ce {g : G} {ρ : Rh} {st st' : S} {H : Hp} {c : Nat} {vs : List D} {cls : Value} {d : Option Addr} (x : ErrIs g (Vol ρ st) H c vs cls d) (e : st'.ce = st.ce) : ErrIs g (Vol ρ st') H c vs cls d := by
  obtain ⟨q1, q2⟩ := x
  have k : ∀ a o, H a = some o → ¬ Vol ρ st a → H a = some o ∧ ¬ Vol ρ st' a := fun a o h n => ⟨h, fun v => n ((Vol.ce e a).mp v)⟩
  refine ⟨q1, q2.imp id fun ⟨dd, nm, y, v, z1, z2, z3, z4, z5, z6⟩ => ⟨dd, nm, y, v, z1, z2, z3, z4, z5.ext k, (k dd _ z2 z6).2⟩⟩
end RE
set_option maxHeartbeats 4000000
namespace RE
open PySem PySem.Spec PyProof.Rows L2
end RE
set_option maxHeartbeats 4000000
namespace RE
open PySem PySem.Spec PyProof.Rows L2
end RE
set_option maxHeartbeats 4000000
namespace RE
open PySem PySem.Spec PyProof.Rows L2
end RE
set_option maxHeartbeats 4000000
namespace RE
open PySem PySem.Spec PyProof.Rows L2
end RE
set_option maxHeartbeats 4000000
namespace RE
open PySem PySem.Spec PyProof.Rows L2
end RE
set_option maxHeartbeats 4000000
namespace RE
open PySem PySem.Spec PyProof.Rows L2
def toI : D → Option Int
  | .int i => some i
  | _ => none
theorem toI_all {g : G} {A : Addr → Prop} {H : Hp} : ∀ {ds : List D} {ys : List V} {ns : List Int}, mapO toI ds = some ns → RpA g A H ys ds → ys = ns.map V.int
  | [], ys, ns, e, r => by
    rw [r.cases_nil]
    cases Option.some.inj e
    rfl
  | d :: ds, ys, ns, e, r => by
    obtain ⟨y, ys, rfl, r1, r2⟩ := r.cases_cons
    unfold mapO at e
    cases d with
    | int i =>
      simp only [toI] at e
      cases e2 : mapO toI ds with
      | none => rw [e2] at e; cases e
      | some ns' =>
        rw [e2] at e
        cases Option.some.inj e
        rw [toI_all e2 r2, r1.inv_int]
        rfl
    | _ => simp only [toI] at e; cases e
def maxD : List D → Option D
  | [.lst ds] => match mapO toI ds with
    | some (i :: is) => some (.int (is.foldl max i))
    | _ => none
  | _ => none
theorem foldMax : ∀ (l : List Int) (a : Int), (l.foldl max a = a ∨ l.foldl max a ∈ l) ∧ a ≤ l.foldl max a ∧ ∀ x ∈ l, x ≤ l.foldl max a
  | [], a => ⟨.inl rfl, Int.le_refl a, fun x h => by cases h⟩
  | b :: l, a => by
    obtain ⟨h1, h2, h3⟩ := foldMax l (max a b)
    refine ⟨?_, ?_, fun x hx => ?_⟩
    · rcases h1 with h | h
      · rw [List.foldl_cons, h]
        rcases Int.le_total a b with q | q
        · right; rw [Int.max_eq_right q]; exact List.mem_cons_self
        · left; exact Int.max_eq_left q
      · exact .inr (List.mem_cons_of_mem _ h)
    · exact Int.le_trans (Int.le_max_left a b) h2
    · rcases List.mem_cons.mp hx with rfl | hx
      · exact Int.le_trans (Int.le_max_right a x) h2
      · exact h3 x hx
theorem rop_max {g : G} : ROpN g (rMax g.K) maxD := by
  intro ρ σ st H xs ds d Q e s rs k
  unfold maxD at e
  split at e
  · rename_i es
    obtain ⟨v, rfl, r⟩ := rs.one
    obtain ⟨a, ys, rfl, ha, _, ra⟩ := r.inv_lst
    split at e
    · rename_i i is ei
      cases Option.some.inj e
      have hy := toI_all ei ra
      subst hy
      refine ⟨a, i :: is, rfl, SqL.of ha, Nat.succ_pos _, fun m hm hl => ?_⟩
      obtain ⟨h1, h2, h3⟩ := foldMax is i
      have e1 : m ≤ is.foldl max i := by
        rcases List.mem_cons.mp hm with rfl | q
        · exact h2
        · exact h3 m q
      have e2 : is.foldl max i ≤ m := hl _ (by
        rcases h1 with q | q
        · rw [q]; exact List.mem_cons_self
        · exact List.mem_cons_of_mem _ q)
      exact k ρ H _ Ext.refl s (by rw [Int.le_antisymm e1 e2]; exact .int _)
    · cases e
  · cases e
end RE
set_option maxHeartbeats 4000000
namespace RE
open PySem PySem.Spec PyProof.Rows L2
section
variable {s : Shared} {A : Around} {w : World} {P : Program} {E : Value → Shared → Prop}
/-- a new set -/
abbrev ns0 (w : World) : Obj := { cls := .type "set", dict := none, data := .set #[] 0 (.fresh 0 0 (!w.params.followText "set-order")) }
abbrev ns1 (w : World) (h : Heap) : Heap := h.push (ns0 w)
/-- what the fill leaves -/
def Filled (w : World) (s s₂ : Shared) (ns : List Int) : Prop := ∃ h' tk c, s₂ = { s with heap := h', toks := tk } ∧ SetR w h' s.heap.objs.size (fun j => decide (j ∈ ns)) c ∧ c ≤ ns.length ∧ ∀ b o, s.heap.get? b = some o → h'.get? b = some o
set_option maxHeartbeats 3200000 in
theorem set_fill {l : Addr} {items : Array Value} {ns : List Int} (hh : A.handled = none) (hl : s.heap.IsList l items) (hit : IntsAre items.toList ns) (hb : ns.length + 1 < scanBound) :
    wpAny (model P w) A.in1 (Builtin.«set.__init__» ⟨[.ref s.heap.objs.size, .ref l], []⟩)
      (fun fin t => match fin with
        | .done f => wants (fun r s₂ => r = Value.none ∧ Filled w s s₂ ns) E (.ok f) t
        | .again c => c.quiet = true ∧ codeAny (model P w) A c (wants (fun r s₂ => r = Value.none ∧ Filled w s s₂ ns) E) t)
      (fun e t => wants (fun r s₂ => r = Value.none ∧ Filled w s s₂ ns) E (.error e) t) { s with heap := ns1 w s.heap } := by
  have len : items.size = ns.length := by
    rw [← Array.length_toList]; exact IntsAre.length hit
  have hS : (ns1 w s.heap).get? s.heap.objs.size = some (ns0 w) := Heap.get?_push_size _ rfl
  have hT : Shared.TypeIs { s with heap := ns1 w s.heap } (.ref s.heap.objs.size) "set" := ⟨_, hS, rfl⟩
  obtain ⟨⟨oc, od, oda, osl⟩, hol, hcl, nl, hdl⟩ := hl
  simp only at hcl hdl
  subst hcl; subst hdl
  have below : l < s.heap.objs.size := Heap.lt_size hol
  have old : (ns1 w s.heap).get? l = some { cls := .type "list", dict := od, data := .seq items nl, slots := osl } := Heap.get?_push_of_some _ hol
  have q1 := F.sub_list_set
  have q2 := F.sub_list_frozenset
  have q3 : (Value.type "list" == Value.type "dict") = false := by decide
  have isl : (ns1 w s.heap).IsList l items := ⟨_, old, rfl, nl, rfl⟩
  have sz : (ns1 w s.heap).objs.size = s.heap.objs.size + 1 := Heap.size_push ..
  unfold Builtin.«set.__init__» Builtin.Frozenset.updateFrom noKeywords
  generalize hPI : pyIter = PI
  wp_walk
  subst hPI
  refine wpAny_pyIter_list isl ?_
  refine wpAny_bind (wpAny_runValue (?_)) -- the fill
  have off : s.heap.objs.size ∉ [(ns1 w s.heap).objs.size, l] := by
    rw [sz]
    intro z
    rcases List.mem_cons.mp z with z1 | z1
    · exact Nat.ne_of_lt (Nat.lt_succ_self _) z1
    · exact Nat.ne_of_gt below (List.mem_singleton.mp z1)
  refine set_update_ints ((Walks.list (by simp [hh]) _ l (by rw [sz]; exact Nat.ne_of_lt (Nat.lt_succ_of_lt below)) items).toS) s.heap.objs.size off ns len hb (fun i v hv => ?_) (items.size - 0) 0 _ (by omega) (Nat.zero_le _)
    ⟨⟨_, Heap.get?_push_size _ rfl, rfl, rfl⟩, (isl.push _)⟩ ⟨0, Nat.le_refl 0, setR_new_at (Heap.get?_push_of_some _ hS)⟩ fun s' c' hm hc' hS' => ?_
  · have hi : i < ns.length := by rw [← len]; exact (Array.getElem?_eq_some_iff.mp hv).1
    have ⟨tk, e⟩ := hit.int_at i v (Array.getElem?_toList ▸ hv)
    exact ⟨ns[i], tk, List.getElem?_eq_getElem hi, by rw [e, List.getD_eq_getElem?_getD, List.getElem?_eq_getElem hi]; rfl⟩
  · obtain ⟨h', g2, d', tk', os'⟩ := s'
    obtain rfl : g2 = s.gens := hm.gens
    obtain rfl : d' = s.drawn := hm.drawn
    obtain rfl : os' = s.os := hm.os
    show wpAny _ _ _ _ _ _
    refine wpAny_pure ?_
    show wpAny _ _ (ret .none) _ _ _
    refine wpAny_pure ⟨rfl, h', tk', c', rfl, hS', by omega, fun b o e => ?_⟩
    have lb : b < s.heap.objs.size := Heap.lt_size e
    refine hm.heap b o (fun z => ?_) (Heap.get?_push_of_some _ (Heap.get?_push_of_some _ e))
    rw [sz] at z
    rcases List.mem_cons.mp z with z1 | z1
    · exact Nat.ne_of_lt lb z1
    · exact Nat.ne_of_lt (Nat.lt_succ_of_lt lb) (List.mem_singleton.mp z1)
set_option maxHeartbeats 3200000 in
theorem set_list {l : Addr} {items : Array Value} {ns : List Int} {Q : Value → Shared → Prop} (hh : A.handled = none) (hl : s.heap.IsList l items) (hit : IntsAre items.toList ns) (hb : ns.length + 1 < scanBound)
    (h : ∀ s₂, Filled w s s₂ ns → Q (.ref s.heap.objs.size) s₂) : wpAny (model P w) A (call (.type "set") [.ref l]) Q E s := by
  obtain ⟨c, tl, g1⟩ := F.called_set.mro
  have g2 := F.called_set.made
  have g3 := F.called_set.sub
  refine wpAny_call (codeAny_of_tree (show wpAny _ _ (callAny (.type "set") _) _ _ _ from ?_))
  have g0 := Code.quiet_builtin (id := "type.__call__") ⟨[.type "set", .ref l], []⟩ (by decide +kernel)
  refine wpAny_pure ⟨g0, codeAny_builtin F.entry_type_call ?_⟩
  rw [Around.under_plain (weight_type_call_type _ _ _) rfl]
  have g4 := F.called_set.notType
  have g5 := F.called_set.canCreate
  have g6 := F.typeCall_set_1 (.ref l)
  repeat' first | assumption | wp_step
  refine codeAny_mono (code_set_led1 (.ref l) (E := E) (Q₁ := fun o t => o = .ref s.heap.objs.size ∧ t = { s with heap := ns1 w s.heap }) ⟨rfl, rfl⟩) fun r s₁ hr => ?_
  cases r with
  | error e => exact hr
  | ok fl =>
    cases fl with
    | ret o =>
      obtain ⟨rfl, rfl⟩ := hr
      have hS : (ns1 w s.heap).get? s.heap.objs.size = some (ns0 w) := Heap.get?_push_size _ rfl
      have hT : Shared.TypeIs { s with heap := ns1 w s.heap } (.ref s.heap.objs.size) "set" := ⟨_, hS, rfl⟩
      have g7 := F.called_set.init.lookup
      have g8 := F.called_set.init.bind (.ref s.heap.objs.size)
      repeat' first | assumption | wp_step
      refine codeAny_mono (codeAny_call_builtin (R := wants (fun r s₂ => r = Value.none ∧ Filled w s s₂ ns) E) F.called_set.init.plain F.entry_set_init (check_set_init_1 hT (set_fill (by simp [hh]) hl hit hb))) fun r₂ s₂ hr₂ => ?_
      cases r₂ with
      | error e => exact hr₂
      | ok fl₂ =>
        cases fl₂ with
        | ret r =>
          obtain ⟨rfl, hf⟩ := hr₂
          repeat' first | assumption | wp_step
          exact h _ hf
        | _ => exact hr₂.elim
    | _ => exact hr.elim
end
end RE
set_option maxHeartbeats 4000000
namespace RE
open PySem PySem.Spec PyProof.Rows L2
end RE
set_option maxHeartbeats 4000000
namespace RE
open PySem PySem.Spec PyProof.Rows L2
end RE
set_option maxHeartbeats 4000000
namespace RE
open PySem PySem.Spec PyProof.Rows L2
end RE
set_option maxHeartbeats 4000000
namespace RE
open PySem PySem.Spec PyProof.Rows L2
end RE
set_option maxHeartbeats 4000000
namespace RE
open PySem PySem.Spec PyProof.Rows L2
end RE
set_option maxHeartbeats 4000000
namespace RE
open PySem PySem.Spec PyProof.Rows L2
end RE
set_option maxHeartbeats 4000000
namespace RE
open PySem PySem.Spec PyProof.Rows L2
end RE
set_option maxHeartbeats 4000000
namespace RE
open PySem PySem.Spec PyProof.Rows L2
end RE
set_option maxHeartbeats 4000000
namespace RE
open PySem PySem.Spec PyProof.Rows L2
/-- at it an iterator over the list or the tuple l stands, k items on -/
def SqIt (h : Heap) (it l : Addr) (k : Nat) (xs : Array Value) : Prop := (h.IsListIter it l k ∧ h.IsList l xs) ∨ (h.IsTupleIter it l k ∧ h.IsTuple l xs)
theorem SqIt.go {h h' : Heap} {it l : Addr} {k : Nat} {xs : Array Value} (x : SqIt h it l k xs) (e : ∀ c o, c = it ∨ c = l → h.get? c = some o → h'.get? c = some o) : SqIt h' it l k xs :=
  x.imp (fun y => ⟨y.1.at fun o z => e _ o (.inl rfl) z, y.2.at fun o z => e _ o (.inr rfl) z⟩) fun y => ⟨y.1.at fun o z => e _ o (.inl rfl) z, y.2.at fun o z => e _ o (.inr rfl) z⟩
theorem SqIt.but {h h' : Heap} {it l c : Addr} {k : Nat} {xs : Array Value} (x : SqIt h it l k xs) (sb : Heap.SameBut c h h') (n1 : it ≠ c) (n2 : l ≠ c) : SqIt h' it l k xs :=
  x.go fun d o hd z => sb.extBut d o (by rcases hd with rfl | rfl <;> assumption) z
section
variable {prog : Program} {w : World} {A : Around} {E : Value → Shared → Prop} {s : Shared}
/-- both sources of a zip -/
structure Zs (h : Heap) (TI i1 i2 l1 l2 : Addr) (k : Nat) (xs ys : Array Value) : Prop where
  ti : IsPair h TI (.ref i1) (.ref i2)
  a : SqIt h i1 l1 k xs
  b : SqIt h i2 l2 k ys
variable {z TI TO i1 i2 l1 l2 : Addr} {k : Nat} {xs ys : Array Value} {x y a b : Value}
end
end RE
set_option maxHeartbeats 4000000
namespace RE
open PySem PySem.Spec PyProof.Rows L2
end RE
set_option maxHeartbeats 4000000
namespace RE
open PySem PySem.Spec PyProof.Rows L2
section
variable {prog : Program} {w : World}
theorem Zs.go {h h' : Heap} {TI i1 i2 l1 l2 : Addr} {k : Nat} {xs ys : Array Value} (S : Zs h TI i1 i2 l1 l2 k xs ys) (e : ∀ c o, c = TI ∨ c = i1 ∨ c = i2 ∨ c = l1 ∨ c = l2 → h.get? c = some o → h'.get? c = some o) : Zs h' TI i1 i2 l1 l2 k xs ys where
  ti := e _ _ (.inl rfl) S.ti
  a := S.a.go fun c o hc q => e c o (by rcases hc with r | r; exact .inr (.inl r); exact .inr (.inr (.inr (.inl r)))) q
  b := S.b.go fun c o hc q => e c o (by rcases hc with r | r; exact .inr (.inr (.inl r)); exact .inr (.inr (.inr (.inr r)))) q
variable {z TI TO i1 i2 l1 l2 d : Addr} {xs ys : Array Value}
end
end RE
set_option maxHeartbeats 4000000
namespace RE
open PySem PySem.Spec PyProof.Rows L2
end RE
set_option maxHeartbeats 4000000
namespace RE
open PySem PySem.Spec PyProof.Rows L2
end RE
set_option maxHeartbeats 4000000
namespace RE
open PySem PySem.Spec PyProof.Rows L2
end RE
set_option maxHeartbeats 4000000
namespace RE
open PySem PySem.Spec PyProof.Rows L2
end RE
set_option maxHeartbeats 4000000
namespace RE
open PySem PySem.Spec PyProof.Rows L2
def errB (K : PySem.W.Frag) (C i : Addr) (fs : List Str) : Bool := [decide (PySem.W.findIn K (.ref C) "__setattr__" = some (some (.builtin "object.__setattr__"))), decide (PySem.W.subIn K (.ref C) (.type "BaseException") = some true), decide (PySem.W.typeIn K (.ref C) = some (.type "type")), PySem.W.keepIn K (.ref C),
  decide (PySem.W.typeIn K (.ref i) = some (.type "function")), (PySem.W.clsIn K C).isSome, xfB K C, decide (PySem.W.findIn K (.ref C) "__class__" = some (some (.builtin "object.__class__"))), decide (PySem.W.specialIn K (.builtin "object.__class__") "__get__" = some (some (.builtin "getset_descriptor.__get__"))),
  decide (PySem.W.takesIn K (.builtin "object.__class__") = some true), decide (PySem.W.mroIn K C (.type "object") = some true), fs.all fun f => decide (PySem.W.findIn K (.ref C) f = some none)].all id
end RE
set_option maxHeartbeats 4000000
namespace RE
open PySem PySem.Spec PyProof.Rows L2
def cellsBody : MS := (mSeq (mAsg 5 (mBin modD (mFun intD (mCons (mVarF 3) mNil)) (mVarF 1)))
    (mPutL 2 (mVarF 5) (mBin addD (mIxB 2 (mVarF 5)) (mBin mulD (mVarF 4) (mBin addD (mVarF 3) (mC (.int 2)))))))
def cellsM : MS := (mSeq (mSetF 2 (fOr (fList (mSl (mVarF 0) mPN (mPS (mVarF 1)))) (fLst (mCons (mC (.int 0)) mNil))))
    (mSeq (mFor (miFun enumF (mCons (mSl (mVarF 0) (mPS (mVarF 1)) (mPS (mC (.int 63)))) mNil)) (tgTup [3, 4]) cellsBody)
    (mRet (mVarF 2))))
theorem cut_ints (ns : List Int) (l u : Option Int) : ∃ ms : List Int, cutD (ns.map .int) l u = ms.map .int ∧ ms.length ≤ ns.length := by
  unfold cutD
  rw [← List.map_drop, ← List.map_take]
  exact ⟨_, rfl, by rw [List.length_take, List.length_drop]; omega⟩
theorem bin_at {f : D → D → Option D} {ma mb : M} {st st1 st2 : S} {a b d : D} (h1 : ma st = .ok a st1) (h2 : mb st1 = .ok b st2) (h3 : f a b = some d) : mBin f ma mb st = .ok d st2 := by
  unfold mBin
  rw [h1]
  show bindO (mb st1) _ = _
  rw [h2]
  show optO (f a b) st2 = _
  rw [h3]
  rfl
theorem asg_at {i : Nat} {m : M} {st st1 : S} {d : D} (h : m st = .ok d st1) : mAsg i m st = .nx (st1.put i (.d d)) := by
  unfold mAsg bindS
  rw [h]
theorem seq_at {a b : MS} {st st1 : S} (h : a st = .nx st1) : mSeq a b st = b st1 := by
  unfold mSeq seqS
  rw [h]
theorem ret_at {m : M} {st st1 : S} {d : D} (h : m st = .ok d st1) : mRet m st = .rt d st1 := by
  unfold mRet bindS
  rw [h]
theorem mod1 (k : Int) : modD (.int k) (.int 1) = some (.int 0) := by
  show (if (0 : Int) < 1 then some (D.int (k % 1)) else none) = _
  rw [if_pos (by decide), Int.emod_one]
theorem mul_at (x j : Int) (h : smallI j = true) : mulD (.int x) (.int j) = some (.int (x * j)) := by
  show (if smallI j = true then some (D.int (x * j)) else none) = _
  rw [if_pos h]
theorem small_at {i : Int} (h1 : -18446744073709551616 < i) (h2 : i < 18446744073709551616) : smallI i = true := by
  unfold smallI
  rw [decide_eq_true h1, decide_eq_true h2]
  rfl
abbrev cS (ds : D) (s3 s4 s5 : Sl) (c : Int) : S := ⟨[.d ds, .d (.int 1), .rf 0, s3, s4, s5], [.l [.int c]]⟩
theorem cells_turn (ds : D) (k x c : Int) (s5 : Sl) (h0 : 0 ≤ k) (hk : k < 100) : cellsBody (cS ds (.d (.int k)) (.d (.int x)) s5 c) = .nx (cS ds (.d (.int k)) (.d (.int x)) (.d (.int 0)) (c + x * (k + 2))) := by
  have a1 : (mAsg 5 (mBin modD (mFun intD (mCons (mVarF 3) mNil)) (mVarF 1))) (cS ds (.d (.int k)) (.d (.int x)) s5 c) = .nx (cS ds (.d (.int k)) (.d (.int x)) (.d (.int 0)) c) := asg_at (bin_at rfl rfl (mod1 k))
  have a2 : (mBin mulD (mVarF 4) (mBin addD (mVarF 3) (mC (.int 2)))) (cS ds (.d (.int k)) (.d (.int x)) (.d (.int 0)) c) = .ok (.int (x * (k + 2))) (cS ds (.d (.int k)) (.d (.int x)) (.d (.int 0)) c) :=
    bin_at rfl (bin_at rfl rfl rfl) (mul_at x (k + 2) (small_at (by omega) (by omega)))
  have a3 : (mBin addD (mIxB 2 (mVarF 5)) (mBin mulD (mVarF 4) (mBin addD (mVarF 3) (mC (.int 2))))) (cS ds (.d (.int k)) (.d (.int x)) (.d (.int 0)) c) = .ok (.int (c + x * (k + 2))) (cS ds (.d (.int k)) (.d (.int x)) (.d (.int 0)) c) := bin_at rfl a2 rfl
  unfold cellsBody
  rw [seq_at a1]
  unfold mPutL bindS
  rw [a3]
  rfl
theorem cells_loop (ds : D) : ∀ (es : List Int) (k : Nat) (c : Int) (s3 s4 s5 : Sl), k + es.length ≤ 100 → ∃ c' s3' s4' s5', loopS (tgTup [3, 4]) cellsBody (enumFrom k (es.map .int)) (cS ds s3 s4 s5 c) = .nx (cS ds s3' s4' s5' c')
  | [], k, c, s3, s4, s5, _ => ⟨c, s3, s4, s5, rfl⟩
  | x :: es, k, c, s3, s4, s5, h => by
    have h : k + (es.length + 1) ≤ 100 := h
    obtain ⟨c', u3, u4, u5, e3⟩ := cells_loop ds es (k + 1) (c + x * (k + 2)) (.d (.int k)) (.d (.int x)) (.d (.int 0)) (by omega)
    refine ⟨c', u3, u4, u5, ?_⟩
    show loopS (tgTup [3, 4]) cellsBody (.tup [.int k, .int x] :: enumFrom (k + 1) (es.map .int)) _ = _
    unfold loopS
    have e1 : tgTup [3, 4] (.tup [.int k, .int x]) (cS ds s3 s4 s5 c) = some (cS ds (.d (.int k)) (.d (.int x)) s5 c) := rfl
    rw [e1]
    simp only [cells_turn ds k x c s5 (Int.natCast_nonneg k) (by omega)]
    exact e3
theorem cells1 (ns : List Int) (hl : ns.length ≤ 63) : ∃ c st, cellsM (S.start [.d (.ks (ns.map .int)), .d (.int 1)] 6 []) = .rt (.lst [.int c]) st := by
  obtain ⟨ms, em, lm⟩ := cut_ints ns (some 1) (some 63)
  have first : ∃ c, (fOr (fList (mSl (mVarF 0) mPN (mPS (mVarF 1)))) (fLst (mCons (mC (.int 0)) mNil))) (S.start [.d (.ks (ns.map .int)), .d (.int 1)] 6 []) = .ok [.int c] (S.start [.d (.ks (ns.map .int)), .d (.int 1)] 6 []) := by
    cases ns with
    | nil => exact ⟨0, rfl⟩
    | cons n ns =>
      refine ⟨n, ?_⟩
      have e : cutD ((n :: ns).map .int) none (some 1) = [.int n] := by
        unfold cutD
        have q : HT.sIx ((n :: ns).map D.int).length ((n :: ns).map D.int).length (some 1) = 1 := by
          show (if (1 : Int) < 0 then ((1 : Int) + (((n :: ns).map D.int).length : Nat)).toNat else min (1 : Int).toNat ((n :: ns).map D.int).length) = 1
          rw [if_neg (by decide), List.length_map, List.length_cons]
          show min 1 (ns.length + 1) = 1
          omega
        rw [q]
        rfl
      show bindO (optO (seqD (.lst (cutD ((n :: ns).map .int) none (some 1)))) _) _ = _
      rw [e]
      rfl
  obtain ⟨c, e⟩ := first
  obtain ⟨c', s3, s4, s5, e2⟩ := cells_loop (.ks (ns.map .int)) ms 0 c .no .no .no (by omega)
  have e1 : (mSetF 2 (fOr (fList (mSl (mVarF 0) mPN (mPS (mVarF 1)))) (fLst (mCons (mC (.int 0)) mNil)))) (S.start [.d (.ks (ns.map .int)), .d (.int 1)] 6 []) = .nx (cS (.ks (ns.map .int)) .no .no .no c) := by
    unfold mSetF bindS
    rw [e]
    rfl
  have e3 : (mFor (miFun enumF (mCons (mSl (mVarF 0) (mPS (mVarF 1)) (mPS (mC (.int 63)))) mNil)) (tgTup [3, 4]) cellsBody) (cS (.ks (ns.map .int)) .no .no .no c) = .nx (cS (.ks (ns.map .int)) s3 s4 s5 c') := by
    show loopS (tgTup [3, 4]) cellsBody (enumFrom 0 (cutD (ns.map .int) (some 1) (some 63))) (cS (.ks (ns.map .int)) .no .no .no c) = _
    rw [em]
    exact e2
  have e4 : cellsM (S.start [.d (.ks (ns.map .int)), .d (.int 1)] 6 []) = mRet (mVarF 2) (cS (.ks (ns.map .int)) s3 s4 s5 c') := by
    unfold cellsM
    rw [seq_at e1, seq_at e3]
  exact ⟨c', _, e4.trans (ret_at rfl)⟩
/-- the first number of the script with the later ones added, as the calls tell it -/
theorem cells_call (ns : List Int) (hl : ns.length ≤ 63) (st : S) : ∃ c, runD cellsM 6 [.ks (ns.map .int), .int 1] st = .ok (.lst [.int c]) st := by
  obtain ⟨c, st', e⟩ := cells1 ns hl
  refine ⟨c, ?_⟩
  have e : cellsM (S.start ([D.ks (ns.map .int), D.int 1].map .d) 6 []) = .rt (.lst [.int c]) st' := e
  unfold runD
  rw [e]
end RE
set_option maxHeartbeats 4000000
namespace RE
open PySem PySem.Spec PyProof.Rows L2
def boxM : MS := (mAsg 2 (mIfE (mB (mBin ltD (mVarF 1) (mFun lenD (mCons (mVarF 0) mNil)))) (mBin ixD (mVarF 0) (mVarF 1)) (mC (.int 0))))
def boxF (seed : Int) : MA := (fLst (mCons (mBin mulD (mFun absD (mCons (mVarF 2) mNil)) (mFun intD (mCons (mBin geD (mFun absD (mCons (mVarF 2) mNil)) (mBin powD (mC (.int 10)) (mC (.int 18)))) mNil))) (mCons (mBin addD (mBin addD (mBin modD (mFun intD (mCons (mVarF 2) mNil)) (mC (.int 2305843009213693951))) (mBin mulD (mC (.int 39373)) (mVarF 1))) (mC (.int seed))) (mCons (mC (.int 0)) mNil))))
theorem if_t {t : MT} {a b : MS} {st st1 : S} (h : t st = .ok true st1) : mIf t a b st = a st1 := by
  unfold mIf bindS
  rw [h]
  rfl
theorem if_f {t : MT} {a b : MS} {st st1 : S} (h : t st = .ok false st1) : mIf t a b st = b st1 := by
  unfold mIf bindS
  rw [h]
  rfl
theorem if_n {t : MT} {a : MS} {st st1 : S} (h : t st = .ok false st1) : mIf t a mSkip st = .nx st1 := if_f h
theorem seq_rt {a b : MS} {st st1 : S} {d : D} (h : a st = .rt d st1) : mSeq a b st = .rt d st1 := by
  unfold mSeq seqS
  rw [h]
theorem b_at {m : M} {st st1 : S} {k : Bool} (h : m st = .ok (.bl k) st1) : mB m st = .ok k st1 := by
  unfold mB bindO
  rw [h]
theorem fun_at {f : List D → Option D} {ms : MA} {st st1 : S} {ds : List D} {d : D} (h : ms st = .ok ds st1) (e : f ds = some d) : mFun f ms st = .ok d st1 := by
  unfold mFun bindO
  rw [h]
  show optO (f ds) st1 = _
  rw [e]
  rfl
theorem cons_at {m : M} {ms : MA} {st st1 st2 : S} {d : D} {ds : List D} (h : m st = .ok d st1) (e : ms st1 = .ok ds st2) : mCons m ms st = .ok (d :: ds) st2 := by
  unfold mCons
  rw [h]
  show bindO (ms st1) _ = _
  rw [e]
  rfl
theorem mod_at (i n : Int) (h : 0 < n) : modD (.int i) (.int n) = some (.int (i % n)) := by
  show (if 0 < n then some (D.int (i % n)) else none) = _
  rw [if_pos h]
theorem div_at (i n : Int) (h : 0 < n) (h2 : n < 1073741824) : divD (.int i) (.int n) = some (.int (i / n)) := by
  show (if 0 < n ∧ n < 1073741824 then some (D.int (i / n)) else none) = _
  rw [if_pos ⟨h, h2⟩]
abbrev bS (c : Int) : S := ⟨[.d (.lst [.int c]), .d (.int 0), .d (.int c)], []⟩
/-- the source made of the number c -/
theorem box_call (seed c : Int) (st : S) : ∃ a b, runFr boxM (boxF seed) 3 [.lst [.int c], .int 0] st = .ok [.int a, .int b, .int 0] st := by
  have e1 : boxM (S.start ([D.lst [.int c], D.int 0].map .d) 3 []) = .nx (bS c) := rfl
  have ab : (mFun absD (mCons (mVarF 2) mNil)) (bS c) = .ok (.int (if c < 0 then -c else c)) (bS c) := rfl
  have pw : (mBin powD (mC (.int 10)) (mC (.int 18))) (bS c) = .ok (.int 1000000000000000000) (bS c) := bin_at rfl rfl (by rfl)
  generalize hy : (if c < 0 then -c else c) = y at ab
  have ge : (mFun intD (mCons (mBin geD (mFun absD (mCons (mVarF 2) mNil)) (mBin powD (mC (.int 10)) (mC (.int 18)))) mNil)) (bS c) = .ok (.int (if (decide ((1000000000000000000 : Int) ≤ y)) then 1 else 0)) (bS c) :=
    fun_at (cons_at (bin_at ab pw rfl) rfl) rfl
  have sm : smallI (if (decide ((1000000000000000000 : Int) ≤ y)) then 1 else 0) = true := by
    cases decide ((1000000000000000000 : Int) ≤ y) <;> decide
  generalize (if (decide ((1000000000000000000 : Int) ≤ y)) then (1 : Int) else 0) = z at ge sm
  have p1 : (mBin mulD (mFun absD (mCons (mVarF 2) mNil)) (mFun intD (mCons (mBin geD (mFun absD (mCons (mVarF 2) mNil)) (mBin powD (mC (.int 10)) (mC (.int 18)))) mNil))) (bS c) = .ok (.int (y * z)) (bS c) := bin_at ab ge (mul_at y z sm)
  have p2 : (mBin addD (mBin addD (mBin modD (mFun intD (mCons (mVarF 2) mNil)) (mC (.int 2305843009213693951))) (mBin mulD (mC (.int 39373)) (mVarF 1))) (mC (.int seed))) (bS c) = .ok (.int (c % 2305843009213693951 + 39373 * 0 + seed)) (bS c) :=
    bin_at (bin_at (bin_at rfl rfl (mod_at c 2305843009213693951 (by decide))) (bin_at rfl rfl (mul_at 39373 0 (by decide))) rfl) rfl rfl
  refine ⟨y * z, c % 2305843009213693951 + 39373 * 0 + seed, ?_⟩
  have e2 : boxF seed (bS c) = .ok [.int (y * z), .int (c % 2305843009213693951 + 39373 * 0 + seed), .int 0] (bS c) := by
    unfold boxF fLst
    rw [cons_at p1 (cons_at p2 (show (mCons (mC (.int 0)) mNil) (bS c) = .ok [.int 0] (bS c) from rfl))]
    rfl
  unfold runFr
  rw [e1]
  show (match boxF seed (bS c) with
    | O.ok es _ => O.ok es st
    | _ => O.no) = _
  rw [e2]
def takeM : MS := (mSeq (mIf (mB (mBin gtD (mIxB 0 (mC (.int 0))) (mC (.int 0))))
    (mSeq (mAsg 2 (mBin modD (mFun intD (mCons (mIxB 0 (mC (.int 0))) mNil)) (mVarF 1)))
    (mSeq (mPutL 0 (mC (.int 0)) (mBin divD (mIxB 0 (mC (.int 0))) (mVarF 1)))
    (mRet (mVarF 2))))
    mSkip)
    (mSeq (mPutL 0 (mC (.int 2)) (mBin addD (mIxB 0 (mC (.int 2))) (mC (.int 1))))
    (mSeq (mAsg 3 (mBin modD (mFun intD (mCons (mBin mulD (mBin addD (mIxB 0 (mC (.int 1))) (mBin mulD (mC (.int 48271)) (mIxB 0 (mC (.int 2))))) (mBin addD (mC (.int 39373)) (mIxB 0 (mC (.int 2))))) mNil)) (mC (.int 2147483647))))
    (mSeq (mAsg 4 (mBin addD (mBin modD (mFun intD (mCons (mVarF 3) mNil)) (mC (.int 40009))) (mC (.int 7))))
    (mSeq (mAsg 5 (mBin modD (mFun intD (mCons (mBin mulD (mBin addD (mBin addD (mVarF 3) (mIxB 0 (mC (.int 2)))) (mBin divD (mIxB 0 (mC (.int 1))) (mC (.int 1000003)))) (mVarF 4)) mNil)) (mC (.int 2147483629))))
    (mRet (mBin modD (mFun intD (mCons (mBin divD (mBin modD (mFun intD (mCons (mBin addD (mBin mulD (mVarF 5) (mC (.int 48271))) (mVarF 3)) mNil)) (mC (.int 2147483587))) (mC (.int 64))) mNil)) (mVarF 1))))))))
abbrev dS (n : Int) (s2 s3 s4 s5 : Sl) (a b t : Int) : S := ⟨[.rf 0, .d (.int n), s2, s3, s4, s5], [.l [.int a, .int b, .int t]]⟩
theorem take_at (n a b t : Int) (n0 : 0 < n) (n1 : n < 1073741824) (t0 : 0 ≤ t) (t1 : t < 1000000) : ∃ v a' t' st, 0 ≤ v ∧ v < n ∧ 0 ≤ t' ∧ t' ≤ t + 1 ∧ takeM (S.start [.rf 0, .d (.int n)] 6 [.l [.int a, .int b, .int t]]) = .rt (.int v) st ∧ st.ce = [.l [.int a', .int b, .int t']] := by
  by_cases ha : 0 < a
  · have e0 : (mB (mBin gtD (mIxB 0 (mC (.int 0))) (mC (.int 0)))) (dS n .no .no .no .no a b t) = .ok true (dS n .no .no .no .no a b t) := b_at (bin_at rfl rfl (by show some (D.bl (decide (0 < a))) = _; rw [decide_eq_true ha]))
    have e1 : (mAsg 2 (mBin modD (mFun intD (mCons (mIxB 0 (mC (.int 0))) mNil)) (mVarF 1))) (dS n .no .no .no .no a b t) = .nx (dS n (.d (.int (a % n))) .no .no .no a b t) := asg_at (bin_at rfl rfl (mod_at a n n0))
    have e2 : (mPutL 0 (mC (.int 0)) (mBin divD (mIxB 0 (mC (.int 0))) (mVarF 1))) (dS n (.d (.int (a % n))) .no .no .no a b t) = .nx (dS n (.d (.int (a % n))) .no .no .no (a / n) b t) := by
      unfold mPutL bindS
      rw [bin_at (f := divD) (ma := mIxB 0 (mC (.int 0))) (mb := mVarF 1) (st := dS n (.d (.int (a % n))) .no .no .no a b t) rfl rfl (div_at a n n0 n1)]
      rfl
    refine ⟨a % n, a / n, t, dS n (.d (.int (a % n))) .no .no .no (a / n) b t, Int.emod_nonneg _ (by omega), Int.emod_lt_of_pos _ n0, t0, by omega, ?_, rfl⟩
    show takeM (dS n .no .no .no .no a b t) = _
    unfold takeM
    refine seq_rt ?_
    rw [if_t e0, seq_at e1, seq_at e2]
    exact ret_at rfl
  · have e0 : (mB (mBin gtD (mIxB 0 (mC (.int 0))) (mC (.int 0)))) (dS n .no .no .no .no a b t) = .ok false (dS n .no .no .no .no a b t) := b_at (bin_at rfl rfl (by show some (D.bl (decide (0 < a))) = _; rw [decide_eq_false ha]))
    have e1 : (mPutL 0 (mC (.int 2)) (mBin addD (mIxB 0 (mC (.int 2))) (mC (.int 1)))) (dS n .no .no .no .no a b t) = .nx (dS n .no .no .no .no a b (t + 1)) := by
      unfold mPutL bindS
      rw [bin_at (f := addD) (ma := mIxB 0 (mC (.int 2))) (mb := mC (.int 1)) (st := dS n .no .no .no .no a b t) rfl rfl (d := .int (t + 1)) rfl]
      rfl
    generalize ht : t + 1 = u at e1
    have q1 : (mBin mulD (mBin addD (mIxB 0 (mC (.int 1))) (mBin mulD (mC (.int 48271)) (mIxB 0 (mC (.int 2))))) (mBin addD (mC (.int 39373)) (mIxB 0 (mC (.int 2))))) (dS n .no .no .no .no a b u) = .ok (.int ((b + 48271 * u) * (39373 + u))) (dS n .no .no .no .no a b u) :=
      bin_at (bin_at rfl (bin_at rfl rfl (mul_at 48271 u (small_at (by omega) (by omega)))) rfl) (bin_at rfl rfl rfl) (mul_at _ _ (small_at (by omega) (by omega)))
    generalize (b + 48271 * u) * (39373 + u) = m1 at q1
    have e2 : (mAsg 3 (mBin modD (mFun intD (mCons (mBin mulD (mBin addD (mIxB 0 (mC (.int 1))) (mBin mulD (mC (.int 48271)) (mIxB 0 (mC (.int 2))))) (mBin addD (mC (.int 39373)) (mIxB 0 (mC (.int 2))))) mNil)) (mC (.int 2147483647)))) (dS n .no .no .no .no a b u) = .nx (dS n .no (.d (.int (m1 % 2147483647))) .no .no a b u) :=
      asg_at (bin_at (fun_at (cons_at q1 rfl) rfl) rfl (mod_at m1 2147483647 (by decide)))
    generalize m1 % 2147483647 = x at e2
    have e3 : (mAsg 4 (mBin addD (mBin modD (mFun intD (mCons (mVarF 3) mNil)) (mC (.int 40009))) (mC (.int 7)))) (dS n .no (.d (.int x)) .no .no a b u) = .nx (dS n .no (.d (.int x)) (.d (.int (x % 40009 + 7))) .no a b u) :=
      asg_at (bin_at (bin_at rfl rfl (mod_at x 40009 (by decide))) rfl rfl)
    have hy : smallI (x % 40009 + 7) = true := small_at (by omega) (by omega)
    generalize x % 40009 + 7 = y at e3 hy
    have q4 : (mBin mulD (mBin addD (mBin addD (mVarF 3) (mIxB 0 (mC (.int 2)))) (mBin divD (mIxB 0 (mC (.int 1))) (mC (.int 1000003)))) (mVarF 4)) (dS n .no (.d (.int x)) (.d (.int y)) .no a b u) = .ok (.int ((x + u + b / 1000003) * y)) (dS n .no (.d (.int x)) (.d (.int y)) .no a b u) :=
      bin_at (bin_at (bin_at rfl rfl rfl) (bin_at rfl rfl (div_at b 1000003 (by decide) (by decide))) rfl) rfl (mul_at _ y hy)
    generalize (x + u + b / 1000003) * y = m2 at q4
    have e4 : (mAsg 5 (mBin modD (mFun intD (mCons (mBin mulD (mBin addD (mBin addD (mVarF 3) (mIxB 0 (mC (.int 2)))) (mBin divD (mIxB 0 (mC (.int 1))) (mC (.int 1000003)))) (mVarF 4)) mNil)) (mC (.int 2147483629)))) (dS n .no (.d (.int x)) (.d (.int y)) .no a b u) = .nx (dS n .no (.d (.int x)) (.d (.int y)) (.d (.int (m2 % 2147483629))) a b u) :=
      asg_at (bin_at (fun_at (cons_at q4 rfl) rfl) rfl (mod_at m2 2147483629 (by decide)))
    generalize m2 % 2147483629 = z at e4
    have q5 : (mBin divD (mBin modD (mFun intD (mCons (mBin addD (mBin mulD (mVarF 5) (mC (.int 48271))) (mVarF 3)) mNil)) (mC (.int 2147483587))) (mC (.int 64))) (dS n .no (.d (.int x)) (.d (.int y)) (.d (.int z)) a b u) = .ok (.int ((z * 48271 + x) % 2147483587 / 64)) (dS n .no (.d (.int x)) (.d (.int y)) (.d (.int z)) a b u) :=
      bin_at (bin_at (fun_at (cons_at (bin_at (bin_at rfl rfl (mul_at z 48271 (by decide))) rfl rfl) rfl) rfl) rfl (mod_at _ 2147483587 (by decide))) rfl (div_at _ 64 (by decide) (by decide))
    generalize (z * 48271 + x) % 2147483587 / 64 = m3 at q5
    refine ⟨m3 % n, a, u, dS n .no (.d (.int x)) (.d (.int y)) (.d (.int z)) a b u, Int.emod_nonneg _ (by omega), Int.emod_lt_of_pos _ n0, by omega, by omega, ?_, rfl⟩
    show takeM (dS n .no .no .no .no a b t) = _
    unfold takeM
    rw [seq_at (if_n e0), seq_at e1, seq_at e2, seq_at e3, seq_at e4]
    exact ret_at (bin_at (fun_at (cons_at q5 rfl) rfl) rfl (mod_at m3 n n0))
end RE
set_option maxHeartbeats 4000000
namespace RE
open PySem PySem.Spec PyProof.Rows L2
theorem call0_at {ms : MS} {n : Nat} (h : trueS (ms (S.start [] n [])) = true) (st : S) : mCall ms n [] mNil st = .ok (.bl true) st := by
  show runD ms n [] st = _
  unfold runD
  unfold trueS at h
  split at h
  · rename_i st' e
    have e : ms (S.start (([] : List D).map .d) n []) = .rt (.bl true) st' := e
    rw [e]
  · cases h
theorem tru_at {m : M} {st st1 : S} {d : D} {b : Bool} (h : m st = .ok d st1) (e : truD d = some b) : mTru m st = .ok b st1 := by
  unfold mTru bindO
  rw [h]
  show (match truD d with
    | some b => O.ok b st1
    | none => O.no) = _
  rw [e]
theorem not_at {t : MT} {st st1 : S} {b : Bool} (h : t st = .ok b st1) : mNotT t st = .ok (!b) st1 := by
  unfold mNotT bindO
  rw [h]
end RE
set_option maxHeartbeats 4000000
namespace RE
open PySem PySem.Spec PyProof.Rows L2
theorem PG.or {X : Cx} {tg : Expr} {t u : TG} (a : PG X tg t) (b : PG X tg u) : PG X tg (fun v σ H Q => t v σ H Q ∨ u v σ H Q) :=
  ⟨fun pq s σ H x y Q I r h => h.elim (fun q => a.run pq s σ H x y Q I r q) fun q => b.run pq s σ H x y Q I r q⟩
def gTL (K : PySem.W.Frag) (n : Nat) (t : TGs) : TG := fun v σ H Q => gTup K n t v σ H Q ∨ gUnl K n t v σ H Q
theorem pg_tl {X : Cx} {es : List Expr} {k : Nat} {pos : Pos} {t : TGs} {n : Nat} (hc : X.calm = true) (h : PGs X es t) (many : (assignEach es X.env).length = n := by rfl) (flat : (assignEach es X.env).findIdx? (·.1) = none := by rfl) : PG X (.Tuple es k pos) (gTL X.K n t) := PG.or (pg_tup hc h many flat) (pg_unl hc h many flat)
def tgTL (is : List Nat) : Tg := fun d st => match d with
  | .lst ds => putsD is ds st
  | _ => tgTup is d st
theorem gok_tl {g : G} (is : List Nat) : GOk g (tgTL is) (gTL g.K is.length (gNames is)) is := by
  intro ρ σ H st x d st' Q e s r k
  have hl : ∀ (is : List Nat) (ds : List D) (st st' : S), putsD is ds st = some st' → ds.length = is.length := by
    intro is
    induction is with
    | nil => intro ds st st' h; cases ds with
      | nil => rfl
      | cons _ _ => cases h
    | cons i is ih => intro ds st st' h; cases ds with
      | nil => cases h
      | cons d ds => show ds.length + 1 = is.length + 1; rw [ih ds _ _ h]
  cases d with
  | lst ds =>
    obtain ⟨a, xs, rfl, ha, _, ra⟩ := r.inv_lst
    exact .inr ⟨a, xs, rfl, SqL.of ha, by rw [ra.1]; exact hl is ds st st' e, gok_names is ρ σ H st xs ds st' Q e s ra k⟩
  | tup ds => exact .inl (gok_tup (g := g) is ρ σ H st x (.tup ds) st' Q e s r k)
  | kt ds => exact .inl (gok_tup (g := g) is ρ σ H st x (.kt ds) st' Q e s r k)
  | _ => cases e
end RE
set_option maxHeartbeats 4000000
namespace RE
open PySem PySem.Spec PyProof.Rows L2
def isDct : HO → Prop
  | .dK _ => True
  | .dT _ => True
  | _ => False
section
variable {g : G} {ER : EK} {ρ ρ' : Rh} {σ σ' : L2.St} {st st' : S} {H H' : Hp} {A : Addr → Prop} {d : Addr} {u : HO} {od : Obj}
theorem rd_free {b : Addr} {v : HO} (hd : H d = some (.frz od u)) (hv : isDct v) (h : Rd H b v) : Rd (upd H d u) b v := by
  by_cases e : b = d
  · subst e
    rcases h with h | ⟨o, h⟩
    · rw [hd] at h
      cases Option.some.inj h
      cases hv
    · rw [hd] at h
      cases Option.some.inj h
      exact .inl upd_same
  · rcases h with h | ⟨o, h⟩
    · exact .inl (by rw [upd_ne e]; exact h)
    · exact .inr ⟨o, by rw [upd_ne e]; exact h⟩
theorem Rp.free {v : V} {x : D} (hd : H d = some (.frz od u)) (hu : isDct u) (r : Rp g A H v x) : Rp g A (upd H d u) v x := by
  have off : ∀ {b : Addr} {o : HO}, H b = some o → o ≠ .frz od u → b ≠ d := fun h n e => by
    subst e
    rw [hd] at h
    exact n (Option.some.inj h).symm
  induction r with
  | non => exact .non
  | bl b => exact .bl b
  | int i => exact .int i
  | str s => exact .str s
  | lst h na hl _ ih => exact .lst (by rw [upd_ne (off h fun z => nomatch z)]; exact h) na hl ih
  | tup h na hl _ ih => exact .tup (by rw [upd_ne (off h fun z => nomatch z)]; exact h) na hl ih
  | ktup h hl _ ih =>
    refine .ktup ?_ hl ih
    rcases h with h | ⟨o, h, e, n⟩
    · exact .inl h
    · exact .inr ⟨o, by rw [upd_ne (off h fun z => by injection z with _ z; rw [← z] at hu; exact hu)]; exact h, e, n⟩
  | kls h na hl _ ih => exact .kls (by rw [upd_ne (off h fun z => by injection z with _ z; rw [← z] at hu; exact hu)]; exact h) na hl ih
  | klw h hl _ ih => exact .klw h hl ih
  | dK h na hl hk _ ih => exact .dK (rd_free hd trivial h) na hl hk ih
  | dT h na hl hk _ ih => exact .dT (rd_free hd trivial h) na hl hk ih
  | fn i => exact .fn i
  | ob h na hl hk _ ih => exact .ob (by rw [upd_ne (off h fun z => nomatch z)]; exact h) na hl hk ih
theorem RpA.free {v : List V} {x : List D} (hd : H d = some (.frz od u)) (hu : isDct u) (r : RpA g A H v x) : RpA g A (upd H d u) v x := ⟨r.1, fun i y e h1 h2 => (r.2 i y e h1 h2).free hd hu⟩
theorem SlA.free {ad : List Addr} {vs : List V} {ss : List Sl} (hd : H d = some (.frz od u)) (hu : isDct u) (h : SlA g A ad H vs ss) : SlA g A ad (upd H d u) vs ss :=
  ⟨h.1, fun i v s h1 h2 => by
    have q := h.2 i v s h1 h2
    cases s with
    | no => exact q
    | d x => exact Rp.free hd hu q
    | rf j => exact q⟩
theorem CeOk.free {ad : List Addr} {a : Addr} {c : Ce} (hd : H d = some (.frz od u)) (hu : isDct u) (ne : a ≠ d) (h : CeOk g A ad H a c) : CeOk g A ad (upd H d u) a c := by
  cases c with
  | dN ds => obtain ⟨xs, e, q, r, z⟩ := h; exact ⟨xs, by rw [upd_ne ne]; exact e, q, r.free hd hu, z.free hd hu⟩
  | rK ds => obtain ⟨xs, e, q, r⟩ := h; exact ⟨xs, by rw [upd_ne ne]; exact e, q, r⟩
  | rT ds => obtain ⟨xs, e, q, r⟩ := h; exact ⟨xs, by rw [upd_ne ne]; exact e, q, r⟩
  | o c fs => obtain ⟨dx, xs, e, q, r⟩ := h; exact ⟨dx, xs, by rw [upd_ne ne]; exact e, q, r.free hd hu⟩
  | dead => trivial
  | l ds => obtain ⟨xs, e, r⟩ := h; exact ⟨xs, by rw [upd_ne ne]; exact e, r.free hd hu⟩
  | dK ds => obtain ⟨xs, e, q, r⟩ := h; exact ⟨xs, by rw [upd_ne ne]; exact e, q, r.free hd hu⟩
  | dT ds => obtain ⟨xs, e, q, r⟩ := h; exact ⟨xs, by rw [upd_ne ne]; exact e, q, r.free hd hu⟩
theorem Sim.free (s : Sim g ρ σ H st) (hd : H d = some (.frz od u)) (hu : isDct u) (nv : ¬ Vol ρ st d) : Sim g ρ σ (upd H d u) st where
  uok := fun a h => by
    obtain ⟨o, e, nt⟩ := s.uok a h
    exact ⟨o, by rw [upd_ne fun z => nv (by rw [← z]; exact .inl h)]; exact e, nt⟩
  clen := s.clen
  cell := fun k c a h1 h2 => by
    by_cases al : c.alive = true
    · exact (s.cell k c a h1 h2).free hd hu fun z => nv (by rw [← z]; exact .inr ⟨k, c, h1, al, h2⟩)
    · cases c <;> first | trivial | exact absurd rfl al
  inj := s.inj
  out := s.out
  len := s.len
  slot := fun i sl v h1 h2 => by
    have q := s.slot i sl v h1 h2
    cases sl with
    | no => trivial
    | d x => obtain ⟨w, e, r⟩ := q; exact ⟨w, e, r.free hd hu⟩
    | rf k => exact q
theorem Ext.free (e : Ext ρ st (upd H d (.frz od u)) ρ' st' H') (hd : H d = some u) (nv : ¬ Vol ρ st d) : Ext ρ st H ρ' st' (upd H' d u) where
  keep := fun a o h n => by
    by_cases z : a = d
    · subst z
      rw [hd] at h
      cases Option.some.inj h
      exact ⟨upd_same, (e.keep a _ upd_same n).2⟩
    · obtain ⟨h1, h2⟩ := e.keep a o (by rw [upd_ne z]; exact h) n
      exact ⟨by rw [upd_ne z]; exact h1, h2⟩
  pre := e.pre
  same := e.same
  un := fun a h => by
    have z : a ≠ d := fun z => nv (by rw [← z]; exact .inl h)
    rw [upd_ne z, e.un a h, upd_ne z]
  more := fun a v => by
    rcases e.more a v with q | q
    · exact .inl q
    · by_cases z : a = d
      · rw [z, upd_same] at q; cases q
      · rw [upd_ne z] at q; exact .inr q
  mono := fun a h => by
    by_cases z : a = d
    · rw [z, upd_same] at h; cases h
    · rw [upd_ne z] at h
      have q := e.mono a h
      rw [upd_ne z] at q
      exact q
end
theorem PS.or {X : Cx} {s : Stmt} {t u : TS} (a : PS X s t) (b : PS X s u) : PS X s (fun E σ H => t E σ H ∨ u E σ H) := ⟨fun pq s σ H E I h => h.elim (fun q => a.run pq s σ H E I q) fun q => b.run pq s σ H E I q⟩
end RE
set_option maxHeartbeats 4000000
namespace RE
open PySem PySem.Spec PyProof.Rows L2
section
variable {K : PySem.W.Frag} {x y : Str} {st : Stmt} {f f' C C' : Addr} {d d' : FuncData} {ps : List Str} {mg : Str → Option Value} {dvs : List V}
theorem at_fun (q : f = f') (r : d = d') (h : Fun K x y st f' d') : Fun K x y st f d := by subst q r; exact h
theorem at_binds (r : d = d') (h : Binds K d' ps []) : Binds K d ps [] := by subst r; exact h
theorem at_mg (q : f = f') (h : mg x = some (.ref f')) : mg x = some (.ref f) := by subst q; exact h
end
end RE
set_option maxHeartbeats 4000000
namespace RE
open PySem PySem.Spec PyProof.Rows L2
end RE
set_option maxHeartbeats 4000000
namespace RE
open PySem PySem.Spec PyProof.Rows L2
end RE
set_option maxHeartbeats 4000000
namespace RE
open PySem PySem.Spec PyProof.Rows L2
end RE
set_option maxHeartbeats 4000000
namespace RE
open PySem PySem.Spec PyProof.Rows L2
end RE
set_option maxHeartbeats 4000000
namespace RE
open PySem PySem.Spec PyProof.Rows L2
section
variable {X : Cx} {pq : List (Addr × Obj)} {σ : L2.St} {H : Hp} {s : Shared} {c : Addr} {ob : Obj} {ps : List (List Key × V)}
/-- a locked dict's entries: its object, each key's own tuple, each value -/
structure FrzT (H : Hp) (s : Shared) (c : Addr) (ob : Obj) (ps : List (List Key × V)) (es : Array DictEntry) (n : Nat) : Prop where
  sys : (c == sysModules) = false
  raw : DT.Raw s.heap c es n
  exact' : ob.ExactDict
  at' : s.heap.get? c = some ob
  data : ob.data = .dict es n
  size : es.size = ps.length
  item : ∀ (i : Nat) (ks : List Key) (y : V), ps[i]? = some (ks, y) → ∃ (en : DictEntry) (q : Addr), es[i]? = some en ∧ en.key = .ref q ∧ H q = some (.tup (ks.map kV)) ∧ RelV y en.val
end
section
variable {P : Program} {w : World} {K : PySem.W.Frag} {c : Addr} {ob : Obj} {es : Array DictEntry} {n : Nat} {ps : List (List Key × V)}
theorem FrzT.same {H : Hp} {s : Shared} {es' : Array DictEntry} {n' : Nat} (x : FrzT H s c ob ps es' n') (h : ob.data = .dict es n) : FrzT H s c ob ps es n := by
  obtain ⟨z1, z2⟩ := dict_ep h x.data
  rw [z1, z2] at x
  exact x
end
end RE
set_option maxHeartbeats 4000000
namespace RE
open PySem PySem.Spec PyProof.Rows L2
end RE
set_option maxHeartbeats 4000000
namespace RE
open PySem PySem.Spec PyProof.Rows L2
end RE
set_option maxHeartbeats 4000000
namespace RE
open PySem PySem.Spec PyProof.Rows L2
end RE
set_option maxHeartbeats 4000000
namespace RE
open PySem PySem.Spec PyProof.Rows L2
end RE
set_option maxHeartbeats 4000000
namespace RE
open PySem PySem.Spec PyProof.Rows L2
end RE
set_option maxHeartbeats 4000000
namespace RE
open PySem PySem.Spec PyProof.Rows L2
theorem RfA.uncons {ad : List Addr} {v : V} {vs : List V} {n : Nat} {ns : List Nat} (h : RfA ad (v :: vs) (n :: ns)) : (∃ b, v = .ref b ∧ ad[n]? = some b) ∧ RfA ad vs ns :=
  ⟨h.2 0 v n rfl rfl, by have := h.1; simpa using this, fun i x k h1 h2 => h.2 (i + 1) x k h1 h2⟩
theorem RfA.cons {ad : List Addr} {b : Addr} {vs : List V} {n : Nat} {ns : List Nat} (h : ad[n]? = some b) (t : RfA ad vs ns) : RfA ad (.ref b :: vs) (n :: ns) :=
  ⟨by simp [t.1], fun i x k h1 h2 => by
    cases i with
    | zero => cases Option.some.inj h1; cases Option.some.inj h2; exact ⟨b, rfl, h⟩
    | succ i => exact t.2 i x k h1 h2⟩
theorem RfA.nil {ad : List Addr} : RfA ad [] [] := ⟨rfl, fun i x k h => by simp at h⟩
/-- an expression that tells a cell -/
abbrev MC := S → O Nat
def tC (g : G) (ER : EK) (m : MC) : TE := fun σ H Q => ∃ ρ st, Sim g ρ σ H st ∧ OutC ER ρ st H (m st) fun k st' ρ' H' => Sim g ρ' σ H' st' → ∀ a, ρ'.ad[k]? = some a → Q (.ref a) H'
def cName (i : Nat) : MC := fun st => match st.cellOf i with
  | some k => .ok k st
  | none => .no
section
variable {X : Cx} {g : G} {ER : EK} {pos apos cpos : Pos} {o e : Expr} {mc : MC} {mk m : M}
theorem pe_cName {i : Nat} {x : Str} (p : PE X (.Name x pos) (tVar i)) : PE X (.Name x pos) (tC g ER (cName i)) := by
  refine PEi p fun σ H Q h => ?_
  obtain ⟨ρ, st, s, h⟩ := h
  unfold cName at h
  cases e : st.cellOf i with
  | none => simp only [e] at h; exact h.elim
  | some k =>
    simp only [e] at h
    obtain ⟨a, hu, ha⟩ := s.rf (cellOf_ok e)
    exact ⟨_, hu, h ρ H Ext.refl s a ha⟩
end
end RE
set_option maxHeartbeats 4000000
namespace RE
open PySem PySem.Spec PyProof.Rows L2
theorem SlA.uncons {g : G} {A : Addr → Prop} {ad : List Addr} {H : Hp} {v : V} {vs : List V} {s : Sl} {ss : List Sl} (h : SlA g A ad H (v :: vs) (s :: ss)) : SlV g A ad H v s ∧ SlA g A ad H vs ss :=
  ⟨h.2 0 v s rfl rfl, by have := h.1; simpa using this, fun i x k h1 h2 => h.2 (i + 1) x k h1 h2⟩
end RE
set_option maxHeartbeats 4000000
namespace RE
open PySem PySem.Spec PyProof.Rows L2
end RE
set_option maxHeartbeats 4000000
namespace RE
open PySem PySem.Spec PyProof.Rows L2
end RE
set_option maxHeartbeats 4000000
namespace RE
open PySem PySem.Spec PyProof.Rows L2
section
variable {g : G} {A : Addr → Prop} {ad : List Addr} {H : Hp}
theorem SlA.nil : SlA g A ad H [] [] := ⟨rfl, fun i v s h => by simp at h⟩
theorem SlA.cons {v : V} {vs : List V} {s : Sl} {ss : List Sl} (h : SlV g A ad H v s) (t : SlA g A ad H vs ss) : SlA g A ad H (v :: vs) (s :: ss) :=
  ⟨by simp [t.1], fun i x k h1 h2 => by
    cases i with
    | zero => cases Option.some.inj h1; cases Option.some.inj h2; exact h
    | succ i => exact t.2 i x k h1 h2⟩
end
/-- a new object, as a cell -/
structure NewC (o0 : HO) (c0 : Ce) : Prop where
  ok : ∀ (g : G) (A : Addr → Prop) (ad : List Addr) (H : Hp) (p : Addr), H p = some o0 → CeOk g A ad H p c0
def tNew (o0 : HO) : TE := fun _ H Q => ∀ p, H p = none → Q (.ref p) (upd H p o0)
theorem newL : NewC (.lst []) (.l []) := ⟨fun _ _ _ _ _ h => ⟨[], h, RpA.nil⟩⟩
end RE
set_option maxHeartbeats 4000000
namespace RE
open PySem PySem.Spec PyProof.Rows L2
theorem RfA.snoc {ad : List Addr} {b : Addr} {n : Nat} (hb : ad[n]? = some b) : ∀ {vs : List V} {ns : List Nat}, RfA ad vs ns → RfA ad (vs ++ [.ref b]) (ns ++ [n])
  | [], [], _ => RfA.cons hb RfA.nil
  | [], _ :: _, h => by have := h.1; simp at this
  | _ :: _, [], h => by have := h.1; simp at this
  | v :: vs, m :: ns, h => by
    obtain ⟨⟨b', rfl, q⟩, t⟩ := RfA.uncons h
    exact RfA.cons q (RfA.snoc hb t)
section
variable {X : Cx} {g : G} {ER : EK} {mc : MC} {mk : M} {o e : Expr} {apos cpos lp : Pos}
theorem pe_nil_new : PE X (.List [] lp) (tNew (.lst [])) := PEi (pe_lst pa_nil) fun _ _ _ h => ⟨Nat.zero_le _, h⟩
end
end RE
set_option maxHeartbeats 4000000
namespace RE
open PySem PySem.Spec PyProof.Rows L2
end RE
set_option maxHeartbeats 4000000
namespace RE
open PySem PySem.Spec PyProof.Rows L2
def mLenC (mc : MC) : M := fun st => bindO (mc st) fun k st1 => match st1.ce[k]? with
  | some (.l ds) => .ok (.int (ds.length : Nat)) st1
  | _ => .no
section
variable {X : Cx} {g : G} {ER : EK} {mc : MC} {o : Expr} {p pos : Pos}
theorem pe_mLenC (hk : X.K = g.K) (hg : Gl X "len") (hm : X.mg "len" = none) (ho : PE X o (tC g ER mc)) (hs : starEach [o] X.env = (false, eval o X.env) :: starEach [] X.env := by rfl) (hpl : (backTo pos (starEach ([] : List Expr) X.env)).any (·.1) = false := by rfl) :
    PE X (.Call (.Name "len" p) [o] [] pos) (tM g ER (mLenC mc)) := by
  refine PEi (pe_callB call_len_seq hg hm (by decide +kernel) (pa_cons ho pa_nil hs) (by decide) (by decide) hs hpl) fun σ H Q h => ?_
  obtain ⟨ρ, st, s, h⟩ := h
  refine ⟨ρ, st, s, (OutC.bind h).mono fun k st1 ρ1 H1 _ h1 s1 a ha => ?_⟩
  cases e1 : st1.ce[k]? with
  | none => simp only [e1] at h1; exact h1.elim
  | some c =>
    cases c with
    | l ds =>
      simp only [e1] at h1
      obtain ⟨xs, q1, q2⟩ := s1.cell k _ a e1 ha
      refine ⟨a, xs, rfl, .inl (SqL.of q1), ?_⟩
      rw [q2.1]
      exact h1 ρ1 H1 Ext.refl s1 _ (.int _)
    | _ => simp only [e1] at h1; exact h1.elim
end
end RE
set_option maxHeartbeats 4000000
namespace RE
open PySem PySem.Spec PyProof.Rows L2
end RE
set_option maxHeartbeats 4000000
namespace RE
open PySem PySem.Spec PyProof.Rows L2
variable {κ : Type} [DecidableEq κ] {DK : DKind κ}
variable {g : G} {ER : EK} {ρ0 ρ ρ' : Rh} {st0 st' : S} {H0 H H' : Hp} {σ σ' : L2.St} {p : Addr} {ce : List Ce} {acc : List (κ × V)} {ds : List (κ × D)}
/-- the dict that grew, a cell from here on -/
theorem GrowD.cell {i : Nat} {c : Ce} (Gr : GrowD DK g ρ0 st0 H0 σ p ρ ce H acc ds) (h0 : H0 p = none) (su : ∀ a, ρ0.U a → ∃ u, H0 a = some u)
    (hc : ∀ (A : Addr → Prop) (ad : List Addr), (∀ a o, H a = some o → ¬ Vol ρ (st0.with ce) a → H a = some o ∧ ¬ A a) → CeOk g A ad H p c) :
    Ext ρ0 st0 H0 ((ρ.lev ρ0.U).addC p) ((st0.with ce).addC i c) H ∧ Sim g ((ρ.lev ρ0.U).addC p) (σ.set i (some (.ref p))) H ((st0.with ce).addC i c) := by
  have hU : ∀ a, ρ0.U a → ρ.U a := fun a h => by rw [Gr.u]; exact .inl h
  have up : ρ.U p := by rw [Gr.u]; exact .inr rfl
  have s := Gr.sim
  have cl : (ρ.lev ρ0.U).ad.length = (st0.with ce).ce.length := s.clen
  have sub : ∀ b, Vol ((ρ.lev ρ0.U).addC p) ((st0.with ce).addC i c) b → Vol ρ (st0.with ce) b := fun b v => by
    rcases vol_addC cl v with v | v
    · exact vol_lev hU v
    · rw [v]; exact .inl up
  have kp : ∀ a o, H a = some o → ¬ Vol ρ (st0.with ce) a → H a = some o ∧ ¬ Vol ((ρ.lev ρ0.U).addC p) ((st0.with ce).addC i c) a := fun a o h n => ⟨h, fun v => n (sub a v)⟩
  have pre : ∀ (k : Nat) b, ρ.ad[k]? = some b → (ρ.ad ++ [p])[k]? = some b := fun k b h => by
    obtain ⟨hk, _⟩ := List.getElem?_eq_some_iff.mp h
    rw [List.getElem?_append_left hk]; exact h
  have part : ∀ (m : Nat) (c3 : Ce) (b : Addr), ((st0.with ce).ce ++ [c])[m]? = some c3 → (ρ.ad ++ [p])[m]? = some b → ((st0.with ce).ce[m]? = some c3 ∧ ρ.ad[m]? = some b) ∨ (m = (st0.with ce).ce.length ∧ b = p ∧ c3 = c) := fun m c3 b q1 q2 => by
    by_cases hj : m < (st0.with ce).ce.length
    · rw [List.getElem?_append_left hj] at q1
      rw [List.getElem?_append_left (by rw [s.clen]; exact hj)] at q2
      exact .inl ⟨q1, q2⟩
    · rw [List.getElem?_append_right (by omega)] at q1
      rw [List.getElem?_append_right (by rw [s.clen]; omega), s.clen] at q2
      cases e : m - (st0.with ce).ce.length with
      | zero => rw [e] at q1 q2; exact .inr ⟨by omega, (Option.some.inj q2).symm, (Option.some.inj q1).symm⟩
      | succ n => rw [e] at q1; simp at q1
  refine ⟨⟨fun a o h n => ?_, fun k b h => ?_, rfl, Gr.ext.un, fun a v => ?_, Gr.ext.mono⟩, ⟨⟨fun a h => s.uok a (hU a h), ?_, fun j c' b h1 h2 => ?_, fun j l c1 c2 b h1 h2 a1 a2 e1 e2 => ?_, fun j c' b h1 ha h2 v => ?_⟩, ?_, fun j sl v h1 h2 => ?_⟩⟩
  · obtain ⟨q1, q2⟩ := Gr.ext.keep a o h n
    refine ⟨q1, fun v => ?_⟩
    rcases vol_addC cl v with v | v
    · exact q2 v
    · rw [v, h0] at h; cases h
  · exact pre k b (Gr.ext.pre k b h)
  · rcases vol_addC cl v with v | v
    · exact Gr.ext.more a v
    · right; rw [v]; exact h0
  · show (ρ.ad ++ [p]).length = ((st0.with ce).ce ++ [c]).length
    rw [List.length_append, List.length_append, s.clen]; rfl
  · rcases part j c' b h1 h2 with ⟨q1, q2⟩ | ⟨_, q2, q3⟩
    · exact (s.cell j c' b q1 q2).ext rfl kp pre
    · rw [q2, q3]; exact hc _ _ kp
  · rcases part j c1 b h1 e1 with ⟨q1, q2⟩ | ⟨q1, q2, _⟩
    · rcases part l c2 b h2 e2 with ⟨r1, r2⟩ | ⟨_, r2, _⟩
      · exact s.inj j l c1 c2 b q1 r1 a1 a2 q2 r2
      · rw [r2] at q2; exact absurd up (s.out j c1 p q1 a1 q2)
    · rcases part l c2 b h2 e2 with ⟨r1, r2⟩ | ⟨r1, _, _⟩
      · rw [q2] at r2; exact absurd up (s.out l c2 p r1 a2 r2)
      · rw [q1, r1]
  · rcases part j c' b h1 h2 with ⟨q1, q2⟩ | ⟨_, q2, _⟩
    · exact s.out j c' b q1 ha q2 (hU b v)
    · obtain ⟨u, hu⟩ := su b v
      rw [q2, h0] at hu; cases hu
  · show (σ.set i _).length = ((st0.with ce).sl.set i _).length
    rw [List.length_set, List.length_set]; exact s.len
  · have h1 : ((st0.with ce).sl.set i (.rf (st0.with ce).ce.length))[j]? = some sl := h1
    rw [List.getElem?_set] at h1 h2
    by_cases e : i = j
    · rw [if_pos e] at h1 h2
      split at h1
      · split at h2
        · cases Option.some.inj h1
          cases Option.some.inj h2
          refine ⟨p, rfl, ?_⟩
          show (ρ.ad ++ [p])[(st0.with ce).ce.length]? = _
          rw [List.getElem?_append_right (by rw [s.clen]; exact Nat.le_refl _), s.clen, Nat.sub_self]; rfl
        · cases h2
      · cases h1
    · rw [if_neg e] at h1 h2
      exact (s.slot j sl v h1 h2).ext kp pre
end RE
set_option maxHeartbeats 4000000
namespace RE
open PySem PySem.Spec PyProof.Rows L2
end RE
set_option maxHeartbeats 4000000
namespace RE
open PySem PySem.Spec PyProof.Rows L2
end RE
set_option maxHeartbeats 4000000
namespace RE
open PySem PySem.Spec PyProof.Rows L2
end RE
set_option maxHeartbeats 4000000
namespace RE
open PySem PySem.Spec PyProof.Rows L2
end RE
set_option maxHeartbeats 4000000
namespace RE
open PySem PySem.Spec PyProof.Rows L2
end RE
set_option maxHeartbeats 4000000
namespace RE
open PySem PySem.Spec PyProof.Rows L2
section
variable {g : G} {ER : EK} {ρ0 ρ ρ' : Rh} {st0 st' : S} {H0 H H' : Hp} {σ σ' : L2.St} {p : Addr} {ce : List Ce} {acc : List V} {ds : List D}
/-- the list that grew, a cell from here on -/
theorem Grow.cell {i : Nat} {c : Ce} (Gr : Grow g ρ0 st0 H0 σ p ρ ce H acc ds) (h0 : H0 p = none) (su : ∀ a, ρ0.U a → ∃ u, H0 a = some u)
    (hc : ∀ (A : Addr → Prop) (ad : List Addr), (∀ a o, H a = some o → ¬ Vol ρ (st0.with ce) a → H a = some o ∧ ¬ A a) → CeOk g A ad H p c) :
    Ext ρ0 st0 H0 ((ρ.lev ρ0.U).addC p) ((st0.with ce).addC i c) H ∧ Sim g ((ρ.lev ρ0.U).addC p) (σ.set i (some (.ref p))) H ((st0.with ce).addC i c) := by
  have hU : ∀ a, ρ0.U a → ρ.U a := fun a h => by rw [Gr.u]; exact .inl h
  have up : ρ.U p := by rw [Gr.u]; exact .inr rfl
  have s := Gr.sim
  have cl : (ρ.lev ρ0.U).ad.length = (st0.with ce).ce.length := s.clen
  have sub : ∀ b, Vol ((ρ.lev ρ0.U).addC p) ((st0.with ce).addC i c) b → Vol ρ (st0.with ce) b := fun b v => by
    rcases vol_addC cl v with v | v
    · exact vol_lev hU v
    · rw [v]; exact .inl up
  have kp : ∀ a o, H a = some o → ¬ Vol ρ (st0.with ce) a → H a = some o ∧ ¬ Vol ((ρ.lev ρ0.U).addC p) ((st0.with ce).addC i c) a := fun a o h n => ⟨h, fun v => n (sub a v)⟩
  have pre : ∀ (k : Nat) b, ρ.ad[k]? = some b → (ρ.ad ++ [p])[k]? = some b := fun k b h => by
    obtain ⟨hk, _⟩ := List.getElem?_eq_some_iff.mp h
    rw [List.getElem?_append_left hk]; exact h
  have part : ∀ (m : Nat) (c3 : Ce) (b : Addr), ((st0.with ce).ce ++ [c])[m]? = some c3 → (ρ.ad ++ [p])[m]? = some b → ((st0.with ce).ce[m]? = some c3 ∧ ρ.ad[m]? = some b) ∨ (m = (st0.with ce).ce.length ∧ b = p ∧ c3 = c) := fun m c3 b q1 q2 => by
    by_cases hj : m < (st0.with ce).ce.length
    · rw [List.getElem?_append_left hj] at q1
      rw [List.getElem?_append_left (by rw [s.clen]; exact hj)] at q2
      exact .inl ⟨q1, q2⟩
    · rw [List.getElem?_append_right (by omega)] at q1
      rw [List.getElem?_append_right (by rw [s.clen]; omega), s.clen] at q2
      cases e : m - (st0.with ce).ce.length with
      | zero => rw [e] at q1 q2; exact .inr ⟨by omega, (Option.some.inj q2).symm, (Option.some.inj q1).symm⟩
      | succ n => rw [e] at q1; simp at q1
  refine ⟨⟨fun a o h n => ?_, fun k b h => ?_, rfl, Gr.ext.un, fun a v => ?_, Gr.ext.mono⟩, ⟨⟨fun a h => s.uok a (hU a h), ?_, fun j c' b h1 h2 => ?_, fun j l c1 c2 b h1 h2 a1 a2 e1 e2 => ?_, fun j c' b h1 ha h2 v => ?_⟩, ?_, fun j sl v h1 h2 => ?_⟩⟩
  · obtain ⟨q1, q2⟩ := Gr.ext.keep a o h n
    refine ⟨q1, fun v => ?_⟩
    rcases vol_addC cl v with v | v
    · exact q2 v
    · rw [v, h0] at h; cases h
  · exact pre k b (Gr.ext.pre k b h)
  · rcases vol_addC cl v with v | v
    · exact Gr.ext.more a v
    · right; rw [v]; exact h0
  · show (ρ.ad ++ [p]).length = ((st0.with ce).ce ++ [c]).length
    rw [List.length_append, List.length_append, s.clen]; rfl
  · rcases part j c' b h1 h2 with ⟨q1, q2⟩ | ⟨_, q2, q3⟩
    · exact (s.cell j c' b q1 q2).ext rfl kp pre
    · rw [q2, q3]; exact hc _ _ kp
  · rcases part j c1 b h1 e1 with ⟨q1, q2⟩ | ⟨q1, q2, _⟩
    · rcases part l c2 b h2 e2 with ⟨r1, r2⟩ | ⟨_, r2, _⟩
      · exact s.inj j l c1 c2 b q1 r1 a1 a2 q2 r2
      · rw [r2] at q2; exact absurd up (s.out j c1 p q1 a1 q2)
    · rcases part l c2 b h2 e2 with ⟨r1, r2⟩ | ⟨r1, _, _⟩
      · rw [q2] at r2; exact absurd up (s.out l c2 p r1 a2 r2)
      · rw [q1, r1]
  · rcases part j c' b h1 h2 with ⟨q1, q2⟩ | ⟨_, q2, _⟩
    · exact s.out j c' b q1 ha q2 (hU b v)
    · obtain ⟨u, hu⟩ := su b v
      rw [q2, h0] at hu; cases hu
  · show (σ.set i _).length = ((st0.with ce).sl.set i _).length
    rw [List.length_set, List.length_set]; exact s.len
  · have h1 : ((st0.with ce).sl.set i (.rf (st0.with ce).ce.length))[j]? = some sl := h1
    rw [List.getElem?_set] at h1 h2
    by_cases e : i = j
    · rw [if_pos e] at h1 h2
      split at h1
      · split at h2
        · cases Option.some.inj h1
          cases Option.some.inj h2
          refine ⟨p, rfl, ?_⟩
          show (ρ.ad ++ [p])[(st0.with ce).ce.length]? = _
          rw [List.getElem?_append_right (by rw [s.clen]; exact Nat.le_refl _), s.clen, Nat.sub_self]; rfl
        · cases h2
      · cases h1
    · rw [if_neg e] at h1 h2
      exact (s.slot j sl v h1 h2).ext kp pre
end
end RE
set_option maxHeartbeats 4000000
namespace RE
open PySem PySem.Spec PyProof.Rows L2
mutual
theorem nkD_free : ∀ (d : D) (k : NestedKey), nkD d = some k → noTxt k = true
  | .int i, k, e => by unfold nkD at e; cases Option.some.inj e; rfl
  | .bl b, k, e => by unfold nkD at e; cases Option.some.inj e; rfl
  | .tup ds, k, e => by
    unfold nkD at e
    split at e
    · rename_i ks e1
      cases Option.some.inj e
      unfold noTxt
      exact nkDs_free ds ks e1
    · cases e
  | .kt ds, k, e => by
    unfold nkD at e
    split at e
    · rename_i ks e1
      cases Option.some.inj e
      unfold noTxt
      exact nkDs_free ds ks e1
    · cases e
  | .non, k, e => by unfold nkD at e; cases e
  | .str _, k, e => by unfold nkD at e; cases e
  | .lst _, k, e => by unfold nkD at e; cases e
  | .ks _, k, e => by unfold nkD at e; cases e
  | .dK _, k, e => by unfold nkD at e; cases e
  | .dT _, k, e => by unfold nkD at e; cases e
  | .fn _, k, e => by unfold nkD at e; cases e
  | .ob _ _, k, e => by unfold nkD at e; cases e
theorem nkDs_free : ∀ (ds : List D) (ks : List NestedKey), nkDs ds = some ks → noTxts ks = true
  | [], ks, e => by unfold nkDs at e; cases Option.some.inj e; rfl
  | d :: ds, ks, e => by
    unfold nkDs at e
    split at e
    · rename_i k ks' e1 e2
      cases Option.some.inj e
      unfold noTxts
      exact Bool.and_eq_true_iff.mpr ⟨nkD_free d k e1, nkDs_free ds ks' e2⟩
    · cases e
end
theorem nest_all {h : Heap} : ∀ {xs : List V} {ds : List D} {us : List Value} {ks : List NestedKey}, Vals xs us → nkDs ds = some ks → xs.length = ds.length →
    (∀ (i : Nat) x d, xs[i]? = some x → ds[i]? = some d → ∀ k u, nkD d = some k → RelV x u → NestedIs h k u) → NestedAll h ks us
  | _, [], _, ks, .nil, e, _, _ => by unfold nkDs at e; cases Option.some.inj e; exact .nil
  | _, _ :: _, _, _, .nil, _, hl, _ => by simp at hl
  | _, [], _, _, .cons _ _, _, hl, _ => by simp at hl
  | x :: xs, d :: ds, _, ks, .cons r t, e, hl, f => by
    unfold nkDs at e
    split at e
    · rename_i k ks' e1 e2
      cases Option.some.inj e
      exact .cons (f 0 x d rfl rfl k _ e1 r) (nest_all t e2 (by simpa using hl) fun i y z h1 h2 => f (i + 1) y z h1 h2)
    · cases e
theorem nest_tup {X : Cx} {pins : List (Addr × Obj)} {σ : L2.St} {H : Hp} {s : Shared} (I : Inv X pins σ H s) {a : Addr} {xs : List V} {ds : List D} {ks : List NestedKey} (h : SqT X.K H a xs) (e : nkDs ds = some ks) (hl : xs.length = ds.length)
    (ih : ∀ (i : Nat) x d, xs[i]? = some x → ds[i]? = some d → ∀ k u, nkD d = some k → RelV x u → NestedIs s.heap k u) : NestedIs s.heap (.tup ks) (.ref a) := by
  obtain ⟨its, rv, p, hz⟩ := I.tuple h
  obtain ⟨o, ho, hc, n, hd⟩ := p
  exact .tup ho hc hd (by simpa using nest_all rv e hl ih)
theorem nest_ok {g : G} {A : Addr → Prop} {X : Cx} {pins : List (Addr × Obj)} {σ : L2.St} {H : Hp} {s : Shared} (I : Inv X pins σ H s) (hk : X.K = g.K) {v : V} {d : D} (r : Rp g A H v d) : ∀ k u, nkD d = some k → RelV v u → NestedIs s.heap k u := by
  induction r with
  | int i => intro k u e rv; unfold nkD at e; cases Option.some.inj e; obtain ⟨t, rfl⟩ := rv; exact .int _ _
  | bl b => intro k u e rv; unfold nkD at e; cases Option.some.inj e; obtain rfl : u = .bool b := rv; exact .bool rfl
  | tup h na hl _ ih =>
    intro k u e rv
    unfold nkD at e
    split at e
    · rename_i ks e1
      cases Option.some.inj e
      obtain rfl : u = .ref _ := rv
      exact nest_tup I (SqT.of h) e1 hl ih
    · cases e
  | ktup h hl _ ih =>
    intro k u e rv
    unfold nkD at e
    split at e
    · rename_i ks e1
      cases Option.some.inj e
      obtain rfl : u = .ref _ := rv
      exact nest_tup I (by rw [hk]; exact h.sq) e1 hl ih
    · cases e
  | _ => intro k u e rv; unfold nkD at e; cases e
def valNd : List (D × D) → NestedKey → Option D
  | [], _ => none
  | (kd, d) :: l, k => if nkD kd = some k then some d else valNd l k
abbrev NdR : List (NestedKey × Addr × V) → List (NestedKey × Addr × Value) → Prop := Paired fun p q => p.1 = q.1 ∧ p.2.1 = q.2.1 ∧ RelV p.2.2 q.2.2
theorem NdR.fst {xs : List (NestedKey × Addr × V)} {ys : List (NestedKey × Addr × Value)} (r : NdR xs ys) : xs.map (·.1) = ys.map (·.1) := by
  induction r with
  | nil => rfl
  | cons h _ ih => simp only [List.map_cons, ih, h.1]
end RE
set_option maxHeartbeats 4000000
namespace RE
open PySem PySem.Spec PyProof.Rows L2
def tupDs : D → Option (List D)
  | .tup ds => some ds
  | .kt ds => some ds
  | _ => none
theorem tupDs_ok {g : G} {A : Addr → Prop} {H : Hp} {v : V} {d : D} {ds : List D} (r : Rp g A H v d) (e : tupDs d = some ds) : ∃ a xs, v = .ref a ∧ SqT g.K H a xs ∧ RpA g A H xs ds := by
  cases d with
  | tup es => cases Option.some.inj e; obtain ⟨a, xs, rfl, h, _, q⟩ := r.inv_tup; exact ⟨a, xs, rfl, SqT.of h, q⟩
  | kt es => cases Option.some.inj e; obtain ⟨a, xs, rfl, h, q⟩ := r.inv_kt; exact ⟨a, xs, rfl, h.sq, q⟩
  | _ => cases e
section
variable {X : Cx} {g : G} {ER : EK} {pos p2 apos cpos : Pos} {e o : Expr}
/-- a tuple that has no dict -/
def BareT (K : PySem.W.Frag) (x : V) (H : Hp) : Prop := ∃ a : Addr, x = .ref a ∧ ((∃ o : Obj, K.lookup a = some o ∧ o.cls = .type "tuple" ∧ o.dict = none) ∨ ∃ (o : Obj) (xs : List V), H a = some (.frz o (.tup xs)) ∧ o.dict = none)
theorem KT.bare {K : PySem.W.Frag} {A : Addr → Prop} {H : Hp} {a : Addr} {xs : List V} (h : KT K A H a xs) : BareT K (.ref a) H := by
  rcases h with ⟨o, _, _, h1, h2, h3, _⟩ | ⟨o, h1, h2, _⟩
  · exact ⟨a, rfl, .inl ⟨o, h1, h2, h3⟩⟩
  · exact ⟨a, rfl, .inr ⟨o, xs, h1, h2⟩⟩
end
end RE
set_option maxHeartbeats 4000000
namespace RE
open PySem PySem.Spec PyProof.Rows L2
section
variable {X : Cx} {g : G} {ER : EK} {pos p p2 : Pos} {e : Expr}
theorem reads_ints {h : Heap} : ∀ {ns : List Int} {us : List Value}, Vals (ns.map V.int) us → ReadsAll h us (ns.map PyData.int) [] := by
  intro ns
  induction ns with
  | nil => intro us r; cases r; exact .nil
  | cons n ns ih =>
    intro us r
    cases r with
    | cons r1 r2 =>
      obtain ⟨t, rfl⟩ := r1
      exact ReadsAll.cons (as := []) (Reads.int n t) (ih r2)
end
end RE
set_option maxHeartbeats 4000000
namespace RE
open PySem PySem.Spec PyProof.Rows L2
end RE
set_option maxHeartbeats 4000000
namespace RE
open PySem PySem.Spec PyProof.Rows L2
section
variable {κ : Type} [DecidableEq κ]
def putN (ds : List (κ × Nat)) (k : κ) (d : Nat) : List (κ × Nat) := if (ds.any fun e => decide (e.1 = k)) = true then ds.map (fun e => if e.1 = k then (e.1, d) else e) else ds ++ [(k, d)]
theorem putN_ok {ad : List Addr} {kvs : List (κ × V)} {ds : List (κ × Nat)} {k : κ} {b : Addr} {d : Nat} (hk : kvs.map (·.1) = ds.map (·.1)) (r : RfA ad (kvs.map (·.2)) (ds.map (·.2))) (rb : ad[d]? = some b) :
    (putK kvs k (.ref b)).map (·.1) = (putN ds k d).map (·.1) ∧ RfA ad ((putK kvs k (.ref b)).map (·.2)) ((putN ds k d).map (·.2)) := by
  have e : (kvs.any fun e => decide (e.1 = k)) = ds.any fun e => decide (e.1 = k) := by
    have a1 : (kvs.any fun e => decide (e.1 = k)) = (kvs.map (·.1)).any fun x => decide (x = k) := by rw [List.any_map]; rfl
    have a2 : (ds.any fun e => decide (e.1 = k)) = (ds.map (·.1)).any fun x => decide (x = k) := by rw [List.any_map]; rfl
    rw [a1, a2, hk]
  unfold putK putN
  rw [e]
  split
  · rename_i hany
    clear e hany
    induction kvs generalizing ds with
    | nil => cases ds with
      | nil => exact ⟨rfl, RfA.nil⟩
      | cons _ _ => cases hk
    | cons x xs ih => cases ds with
      | nil => cases hk
      | cons y ys =>
        have h1 : x.1 = y.1 := (List.cons.inj hk).1
        have h2 : xs.map (·.1) = ys.map (·.1) := (List.cons.inj hk).2
        obtain ⟨⟨c, ec, hc⟩, r2⟩ := RfA.uncons r
        obtain ⟨i1, i2⟩ := ih h2 r2
        by_cases hx : x.1 = k
        · have hy : y.1 = k := by rw [← h1]; exact hx
          simp only [List.map_cons, if_pos hx, if_pos hy]
          exact ⟨by rw [h1]; exact congrArg _ i1, RfA.cons rb i2⟩
        · have hy : ¬ y.1 = k := by rw [← h1]; exact hx
          simp only [List.map_cons, if_neg hx, if_neg hy]
          rw [show x.2 = .ref c from ec]
          exact ⟨by rw [h1]; exact congrArg _ i1, RfA.cons hc i2⟩
  · rw [List.map_append, List.map_append, List.map_append, List.map_append, hk]
    exact ⟨rfl, RfA.snoc rb r⟩
variable (DK : DKind κ)
structure GrowR (g : G) (ρ0 : Rh) (st0 : S) (H0 : Hp) (σ : L2.St) (p : Addr) (ρ : Rh) (ce : List Ce) (H : Hp) (acc : List (κ × V)) (ds : List (κ × Nat)) : Prop where
  ext : Ext ρ0 st0 H0 (ρ.lev ρ0.U) (st0.with ce) H
  u : ρ.U = (ρ0.ent p).U
  sim : Sim g ρ σ H (st0.with ce)
  at' : H p = some (DK.ho acc)
  ks : acc.map (·.1) = ds.map (·.1)
  rf : RfA ρ.ad (acc.map (·.2)) (ds.map (·.2))
variable {DK}
variable {g : G} {ER : EK} {ρ0 ρ ρ' : Rh} {st0 st' : S} {H0 H H' : Hp} {σ σ' : L2.St} {p : Addr} {ce : List Ce} {acc : List (κ × V)} {ds : List (κ × Nat)}
theorem GrowR.zero (s : Sim g ρ0 σ H0 st0) (hp : H0 p = none) : GrowR DK g ρ0 st0 H0 σ p (ρ0.ent p) st0.ce (upd H0 p (DK.ho [])) [] [] where
  ext := Ext.zero hp s.uo
  u := rfl
  sim := s.ent hp (DK.nt _)
  at' := upd_same
  ks := rfl
  rf := RfA.nil
theorem GrowR.go (G : GrowR DK g ρ0 st0 H0 σ p ρ ce H acc ds) (h0 : H0 p = none) {stw : S} (hw : stw.ce = ce) (e : Ext ρ stw H ρ' st' H') (c : Cells g ρ' H' st') : GrowR DK g ρ0 st0 H0 σ p ρ' st'.ce H' acc ds where
  ext := Ext.step_lev G.ext G.u h0 (e.with hw)
  u := e.same.trans G.u
  sim := G.sim.back (e.with hw) c
  at' := by rw [e.un p (by rw [G.u]; exact .inr rfl)]; exact G.at'
  ks := G.ks
  rf := G.rf.go e.pre
theorem GrowR.push (G : GrowR DK g ρ0 st0 H0 σ p ρ ce H acc ds) (h0 : H0 p = none) (su : ∀ a, ρ0.U a → ∃ u, H0 a = some u) {k : κ} {b : Addr} {d : Nat} (r : ρ.ad[d]? = some b) : GrowR DK g ρ0 st0 H0 σ p ρ ce (upd H p (DK.ho (putK acc k (.ref b)))) (putK acc k (.ref b)) (putN ds k d) where
  ext := Ext.touch G.ext h0 su
  u := G.u
  sim := G.sim.touch (by rw [G.u]; exact .inr rfl) (DK.nt _)
  at' := upd_same
  ks := (putN_ok G.ks G.rf r).1
  rf := (putN_ok G.ks G.rf r).2
theorem GrowR.kp (Gr : GrowR DK g ρ0 st0 H0 σ p ρ ce H acc ds) (hp : H0 p = none) : ∀ a o, H0 a = some o → ¬ Vol ρ0 st0 a → H a = some o ∧ ¬ Vol ρ (st0.with ce) a := fun a o h n => by
  obtain ⟨h1, n1⟩ := Gr.ext.keep a o h n
  refine ⟨h1, fun v => ?_⟩
  rcases v with v | v
  · rw [Gr.u] at v
    rcases v with v | v
    · exact n1 (.inl v)
    · rw [v, hp] at h; cases h
  · exact n1 (.inr v)
/-- the dict that grew, a cell from here on: what it holds is told by cells, so the same road as for data -/
theorem GrowR.cell {i : Nat} {c : Ce} (Gr : GrowR DK g ρ0 st0 H0 σ p ρ ce H acc ds) (h0 : H0 p = none) (su : ∀ a, ρ0.U a → ∃ u, H0 a = some u)
    (hc : ∀ (A : Addr → Prop) (ad : List Addr), (∀ (k : Nat) b, ρ.ad[k]? = some b → ad[k]? = some b) → CeOk g A ad H p c) :
    Ext ρ0 st0 H0 ((ρ.lev ρ0.U).addC p) ((st0.with ce).addC i c) H ∧ Sim g ((ρ.lev ρ0.U).addC p) (σ.set i (some (.ref p))) H ((st0.with ce).addC i c) := by
  have hU : ∀ a, ρ0.U a → ρ.U a := fun a h => by rw [Gr.u]; exact .inl h
  have up : ρ.U p := by rw [Gr.u]; exact .inr rfl
  have s := Gr.sim
  have cl : (ρ.lev ρ0.U).ad.length = (st0.with ce).ce.length := s.clen
  have sub : ∀ b, Vol ((ρ.lev ρ0.U).addC p) ((st0.with ce).addC i c) b → Vol ρ (st0.with ce) b := fun b v => by
    rcases vol_addC cl v with v | v
    · exact vol_lev hU v
    · rw [v]; exact .inl up
  have kp : ∀ a o, H a = some o → ¬ Vol ρ (st0.with ce) a → H a = some o ∧ ¬ Vol ((ρ.lev ρ0.U).addC p) ((st0.with ce).addC i c) a := fun a o h n => ⟨h, fun v => n (sub a v)⟩
  have pre : ∀ (k : Nat) b, ρ.ad[k]? = some b → (ρ.ad ++ [p])[k]? = some b := fun k b h => by
    obtain ⟨hk, _⟩ := List.getElem?_eq_some_iff.mp h
    rw [List.getElem?_append_left hk]; exact h
  have part : ∀ (m : Nat) (c3 : Ce) (b : Addr), ((st0.with ce).ce ++ [c])[m]? = some c3 → (ρ.ad ++ [p])[m]? = some b → ((st0.with ce).ce[m]? = some c3 ∧ ρ.ad[m]? = some b) ∨ (m = (st0.with ce).ce.length ∧ b = p ∧ c3 = c) := fun m c3 b q1 q2 => by
    by_cases hj : m < (st0.with ce).ce.length
    · rw [List.getElem?_append_left hj] at q1
      rw [List.getElem?_append_left (by rw [s.clen]; exact hj)] at q2
      exact .inl ⟨q1, q2⟩
    · rw [List.getElem?_append_right (by omega)] at q1
      rw [List.getElem?_append_right (by rw [s.clen]; omega), s.clen] at q2
      cases e : m - (st0.with ce).ce.length with
      | zero => rw [e] at q1 q2; exact .inr ⟨by omega, (Option.some.inj q2).symm, (Option.some.inj q1).symm⟩
      | succ n => rw [e] at q1; simp at q1
  refine ⟨⟨fun a o h n => ?_, fun k b h => ?_, rfl, Gr.ext.un, fun a v => ?_, Gr.ext.mono⟩, ⟨⟨fun a h => s.uok a (hU a h), ?_, fun j c' b h1 h2 => ?_, fun j l c1 c2 b h1 h2 a1 a2 e1 e2 => ?_, fun j c' b h1 ha h2 v => ?_⟩, ?_, fun j sl v h1 h2 => ?_⟩⟩
  · obtain ⟨q1, q2⟩ := Gr.ext.keep a o h n
    refine ⟨q1, fun v => ?_⟩
    rcases vol_addC cl v with v | v
    · exact q2 v
    · rw [v, h0] at h; cases h
  · exact pre k b (Gr.ext.pre k b h)
  · rcases vol_addC cl v with v | v
    · exact Gr.ext.more a v
    · right; rw [v]; exact h0
  · show (ρ.ad ++ [p]).length = ((st0.with ce).ce ++ [c]).length
    rw [List.length_append, List.length_append, s.clen]; rfl
  · rcases part j c' b h1 h2 with ⟨q1, q2⟩ | ⟨_, q2, q3⟩
    · exact (s.cell j c' b q1 q2).ext rfl kp pre
    · rw [q2, q3]; exact hc _ _ pre
  · rcases part j c1 b h1 e1 with ⟨q1, q2⟩ | ⟨q1, q2, _⟩
    · rcases part l c2 b h2 e2 with ⟨r1, r2⟩ | ⟨_, r2, _⟩
      · exact s.inj j l c1 c2 b q1 r1 a1 a2 q2 r2
      · rw [r2] at q2; exact absurd up (s.out j c1 p q1 a1 q2)
    · rcases part l c2 b h2 e2 with ⟨r1, r2⟩ | ⟨r1, _, _⟩
      · rw [q2] at r2; exact absurd up (s.out l c2 p r1 a2 r2)
      · rw [q1, r1]
  · rcases part j c' b h1 h2 with ⟨q1, q2⟩ | ⟨_, q2, _⟩
    · exact s.out j c' b q1 ha q2 (hU b v)
    · obtain ⟨u, hu⟩ := su b v
      rw [q2, h0] at hu; cases hu
  · show (σ.set i _).length = ((st0.with ce).sl.set i _).length
    rw [List.length_set, List.length_set]; exact s.len
  · have h1 : ((st0.with ce).sl.set i (.rf (st0.with ce).ce.length))[j]? = some sl := h1
    rw [List.getElem?_set] at h1 h2
    by_cases e : i = j
    · rw [if_pos e] at h1 h2
      split at h1
      · split at h2
        · cases Option.some.inj h1
          cases Option.some.inj h2
          refine ⟨p, rfl, ?_⟩
          show (ρ.ad ++ [p])[(st0.with ce).ce.length]? = _
          rw [List.getElem?_append_right (by rw [s.clen]; exact Nat.le_refl _), s.clen, Nat.sub_self]; rfl
        · cases h2
      · cases h1
    · rw [if_neg e] at h1 h2
      exact (s.slot j sl v h1 h2).ext kp pre
end
end RE
set_option maxHeartbeats 4000000
namespace RE
open PySem PySem.Spec PyProof.Rows L2
end RE
set_option maxHeartbeats 4000000
namespace RE
open PySem PySem.Spec PyProof.Rows L2
end RE
set_option maxHeartbeats 4000000
namespace RE
open PySem PySem.Spec PyProof.Rows L2
end RE
set_option maxHeartbeats 4000000
namespace RE
open PySem PySem.Spec PyProof.Rows L2
end RE
set_option maxHeartbeats 4000000
namespace RE
open PySem PySem.Spec PyProof.Rows L2
end RE
set_option maxHeartbeats 4000000
namespace RE
open PySem PySem.Spec PyProof.Rows L2
end RE
set_option maxHeartbeats 4000000
namespace RE
open PySem PySem.Spec PyProof.Rows L2
end RE
set_option maxHeartbeats 4000000
namespace RE
open PySem PySem.Spec PyProof.Rows L2
def SqB (K : PySem.W.Frag) (H : Hp) (k : Bool) (a : Addr) (xs : List V) : Prop := if k = true then SqL K H a xs else SqT K H a xs
def ItB (h : Heap) (k : Bool) (it a : Addr) (i : Nat) : Prop := if k = true then h.IsListIter it a i else h.IsTupleIter it a i
theorem ItB.ob {h : Heap} {k : Bool} {it a : Addr} {i : Nat} (x : ItB h k it a i) : ∃ o, h.get? it = some o ∧ ∀ v, o.data ≠ .cell v := by
  cases k
  · obtain ⟨o, e, _, d⟩ := (show h.IsTupleIter it a i from x)
    exact ⟨o, e, fun v q => by rw [d] at q; cases q⟩
  · obtain ⟨o, e, _, d⟩ := (show h.IsListIter it a i from x)
    exact ⟨o, e, fun v q => by rw [d] at q; cases q⟩
theorem ItB.at {h h' : Heap} {k : Bool} {it a : Addr} {i : Nat} (x : ItB h k it a i) (e : ∀ o, h.get? it = some o → h'.get? it = some o) : ItB h' k it a i := by
  cases k
  · exact (show h.IsTupleIter it a i from x).at e
  · exact (show h.IsListIter it a i from x).at e
end RE
set_option maxHeartbeats 4000000
namespace RE
open PySem PySem.Spec PyProof.Rows L2
section
variable {g : G} {ρ : Rh} {st : S} {H : Hp}
/-- a sequence that stands, of either kind -/
def At3 (g : G) (ρ : Rh) (st : S) (H : Hp) (k : Bool) (a : Addr) (xs : List V) : Prop := if k = true then H a = some (.lst xs) ∧ ¬ Vol ρ st a else (H a = some (.tup xs) ∧ ¬ Vol ρ st a) ∨ KT g.K (Vol ρ st) H a xs
theorem At3.sq {k : Bool} {a : Addr} {xs : List V} {B : Addr → Prop} {H' : Hp} (h : At3 g ρ st H k a xs) (kp : ∀ a o, H a = some o → ¬ Vol ρ st a → H' a = some o ∧ ¬ B a) : SqB g.K H' k a xs := by
  cases k
  · rcases (show (H a = some (.tup xs) ∧ ¬ Vol ρ st a) ∨ KT g.K (Vol ρ st) H a xs from h) with ⟨h, n⟩ | h
    · exact (SqT.of (kp a _ h n).1 : SqT g.K H' a xs)
    · exact ((h.ext kp).sq : SqT g.K H' a xs)
  · obtain ⟨h, n⟩ := (show H a = some (.lst xs) ∧ ¬ Vol ρ st a from h)
    exact (SqL.of (kp a _ h n).1 : SqL g.K H' a xs)
end
end RE
set_option maxHeartbeats 4000000
namespace RE
open PySem PySem.Spec PyProof.Rows L2
end RE
set_option maxHeartbeats 4000000
namespace RE
open PySem PySem.Spec PyProof.Rows L2
end RE
set_option maxHeartbeats 4000000
namespace RE
open PySem PySem.Spec PyProof.Rows L2
section
variable {X : Cx} {g : G} {ER : EK} {e : Expr} {pos p2 : Pos}
theorem tM_either {m n : M} {c : S → Bool} {σ : L2.St} {H : Hp} {Q : VK} (h : tM g ER (fun st => if c st = true then m st else n st) σ H Q) : tM g ER m σ H Q ∨ tM g ER n σ H Q := by
  obtain ⟨ρ, st, s, h⟩ := h
  have h : OutC ER ρ st H (if c st = true then m st else n st) fun d st' ρ' H' => Sim g ρ' σ H' st' → ∀ v, Rp g (Vol ρ' st') H' v d → Q v H' := h
  by_cases z : c st = true
  · rw [if_pos z] at h; exact .inl ⟨ρ, st, s, h⟩
  · rw [if_neg z] at h; exact .inr ⟨ρ, st, s, h⟩
def mLenB (i : Nat) : M := fun st => match st.cellOf i with
  | some _ => mLenC (cName i) st
  | none => mFun lenD (mCons (mVarF i) mNil) st
theorem pe_mLenB {x : Str} {p p0 : Pos} {i : Nat} (hk : X.K = g.K) (hg : Gl X "len") (hm : X.mg "len" = none) (hx : PE X (.Name x p) (tVar i))
    (hb : PE X (.Call (.Name "len" p0) [.Name x p] [] pos) (tM g ER (mFun lenD (mCons (mVarF i) mNil))))
    (hs : starEach [.Name x p] X.env = (false, eval (.Name x p) X.env) :: starEach [] X.env := by rfl) (hpl : (backTo pos (starEach ([] : List Expr) X.env)).any (·.1) = false := by rfl) :
    PE X (.Call (.Name "len" p0) [.Name x p] [] pos) (tM g ER (mLenB i)) := by
  refine PEi (PE.or (pe_mLenC (ER := ER) hk hg hm (pe_cName hx) hs hpl) hb) fun σ H Q h => ?_
  refine tM_either (c := fun st => (st.cellOf i).isSome) ?_
  obtain ⟨ρ, st, s, h⟩ := h
  refine ⟨ρ, st, s, ?_⟩
  unfold mLenB at h
  cases e : st.cellOf i with
  | none => simp only [e] at h; simp only [e]; exact h
  | some k => simp only [e] at h; simp only [e]; exact h
end
end RE
set_option maxHeartbeats 4000000
namespace RE
open PySem PySem.Spec PyProof.Rows L2
end RE
set_option maxHeartbeats 4000000
namespace RE
open PySem PySem.Spec PyProof.Rows L2
end RE
set_option maxHeartbeats 4000000
namespace RE
open PySem PySem.Spec PyProof.Rows L2
end RE
set_option maxHeartbeats 4000000
namespace RE
open PySem PySem.Spec PyProof.Rows L2
theorem alike_ints (ns : List Int) : PySem.W.AlikeAll (ns.map PyData.int) := by
  refine ⟨?_, ?_⟩
  · intro x hx y hy
    obtain ⟨m, _, rfl⟩ := List.mem_map.mp hx
    obtain ⟨m', _, rfl⟩ := List.mem_map.mp hy
    rfl
  · intro x hx
    obtain ⟨m, _, rfl⟩ := List.mem_map.mp hx
    intro z; cases z
theorem depth_ints : ∀ l : List Int, PyData.depthAll (l.map PyData.int) = 0
  | [] => rfl
  | n :: l => by rw [List.map_cons, PyData.depthAll, depth_ints l]; rfl
def rMinT (K : PySem.W.Frag) : List V → Hp → VK → Prop := fun xs H Q => ∃ (a : Addr) (n : Int) (ns : List Int), xs = [.ref a] ∧ SqT K H a ((n :: ns).map V.int) ∧ Q (.int (ns.foldl min n)) H
section
variable {X : Cx}
theorem cr_minT (hc : X.calm = true) (hu : X.A.units + 64 < cLine) : CallR X (.builtin "min") (rMinT X.K) := by
  intro pins s σ H vs us Q I r h
  obtain ⟨a, n, ns, rfl, hs, q⟩ := h
  obtain rfl := Vals.ref1 r
  obtain ⟨its, rv, hl, _⟩ := I.tuple hs
  refine PySem.W.min_tuple_data (x := .int n) (xs := ns.map PyData.int) (as := []) (I.ok.hd hc) hl (by have := reads_ints (h := s.heap) (ns := n :: ns) rv; simpa using this) (alike_ints (n :: ns)) (by have e := depth_ints (n :: ns); rw [List.map_cons] at e; rw [e]; omega) fun i v h' tk bs hv hr kp => ?_
  rw [PySem.W.minD_ints] at hr
  cases hr with
  | int _ t => exact ⟨.int _, H, I.kept kp, ⟨t, rfl⟩, q⟩
end
def minTD : List D → Option D
  | [d] => match tupDs d with
    | some ds => match mapO toI ds with
      | some (i :: is) => some (.int (is.foldl min i))
      | _ => none
    | none => none
  | _ => none
theorem rop_minT {g : G} : ROpN g (rMinT g.K) minTD := by
  intro ρ σ st H xs ds d Q e s rs k
  unfold minTD at e
  split at e
  · split at e
    · rename_i y es ey
      obtain ⟨u, rfl, r⟩ := rs.one
      obtain ⟨a, ys, rfl, ha, ra⟩ := tupDs_ok r ey
      split at e
      · rename_i i is ei
        cases Option.some.inj e
        have hy := toI_all ei ra
        subst hy
        exact ⟨a, i, is, rfl, ha, k ρ H _ Ext.refl s (.int _)⟩
      · cases e
    · cases e
  · cases e
end RE
set_option maxHeartbeats 4000000
namespace RE
open PySem PySem.Spec PyProof.Rows L2
end RE
set_option maxHeartbeats 4000000
namespace RE
open PySem PySem.Spec PyProof.Rows L2
end RE
set_option maxHeartbeats 4000000
namespace RE
open PySem PySem.Spec PyProof.Rows L2
theorem adC {ρ : Rh} {st : S} {q : Addr} (h : ρ.ad.length = st.ce.length) : (ρ.addC q).ad[st.ce.length]? = some q := by
  show (ρ.ad ++ [q])[st.ce.length]? = _
  rw [List.getElem?_append_right (by rw [h]; exact Nat.le_refl _), h, Nat.sub_self]; rfl
end RE
set_option maxHeartbeats 4000000
namespace RE
open PySem PySem.Spec PyProof.Rows L2
end RE
set_option maxHeartbeats 4000000
namespace RE
open PySem PySem.Spec PyProof.Rows L2
end RE
set_option maxHeartbeats 4000000
namespace RE
open PySem PySem.Spec PyProof.Rows L2
end RE
set_option maxHeartbeats 4000000
namespace RE
open PySem PySem.Spec PyProof.Rows L2
end RE
set_option maxHeartbeats 4000000
namespace RE
open PySem PySem.Spec PyProof.Rows L2
end RE
set_option maxHeartbeats 4000000
namespace RE
open PySem PySem.Spec PyProof.Rows L2
end RE
set_option maxHeartbeats 4000000
namespace RE
open PySem PySem.Spec PyProof.Rows L2
end RE
set_option maxHeartbeats 2000000
namespace RE
open PySem PySem.Spec PyProof.Rows L2
end RE
set_option maxHeartbeats 4000000
namespace RE
open PySem PySem.Spec PyProof.Rows L2
end RE
set_option maxHeartbeats 4000000
namespace RE
open PySem PySem.Spec PyProof.Rows L2
end RE
namespace RE
open PySem PySem.Spec PyProof.Rows L2
/-- what sorted tells of items, in order -/
def sortSD (ds : List D) : Option (List D) := match mapO (toP 20) ds with
  | some ps => if (ps.all fun p => ps.all fun q => PySem.W.alike p q) = true ∧ (ps.all shapeB = true ∨ ps.all plainB = true) then some ((sortL leP (ds.zip ps)).map (·.1)) else none
  | none => none
theorem sortSD_ok {g : G} {A : Addr → Prop} {H : Hp} {ys : List V} {es rs : List D} (ra : RpA g A H ys es) (e : sortSD es = some rs) : ∃ ps : List PyData, DpAll g.K H ys ps ∧ PyData.depthAll ps ≤ 30 ∧ PySem.W.AllAlike ps ∧ PySem.W.Sortable ps ∧
    RpA g A H (((ys.zip ps).mergeSort (PySem.W.dataLe false fun b => b.2)).map (·.1)) rs := by
  unfold sortSD at e
  cases e1 : mapO (toP 20) es with
  | none => simp only [e1] at e; cases e
  | some ps =>
    simp only [e1] at e
    split at e
    · rename_i hc
      obtain ⟨c1, c2⟩ := hc
      cases Option.some.inj e
      obtain ⟨b1, b2, b3⟩ := toP_all e1 ra
      refine ⟨ps, b1, by omega, fun p hp q hq => List.all_eq_true.mp (List.all_eq_true.mp c1 p hp) q hq, ?_, ?_⟩
      · rcases c2 with c2 | c2
        · refine .inl fun p hp => ?_
          have h := List.all_eq_true.mp c2 p hp
          unfold shapeB at h
          split at h
          · exact ⟨_, _, rfl⟩
          · cases h
        · refine .inr fun p hp => ?_
          have h := List.all_eq_true.mp c2 p hp
          exact ⟨fun z => (by rw [z] at h; cases h), fun xs z => by rw [z] at h; cases h⟩
      · have m1 : ((ys.zip (es.zip ps)).mergeSort r3).map (fun t => (t.1, t.2.2)) = (ys.zip ps).mergeSort (PySem.W.dataLe false fun b => b.2) := by
          rw [PySem.W.sort_maps (r := r3) (s := PySem.W.dataLe false fun b : V × PyData => b.2) (fun t : V × D × PyData => (t.1, t.2.2)) fun _ _ _ _ => rfl, zip_13 ra.1]
        have m2 : ((ys.zip (es.zip ps)).mergeSort r3).map (fun t => t.2) = (es.zip ps).mergeSort leP := by
          rw [PySem.W.sort_maps (r := r3) (s := leP) (fun t : V × D × PyData => t.2) fun _ _ _ _ => rfl, zip_23 ra.1]
        rw [sortL_is leP_total, ← m1, ← m2, List.map_map, List.map_map]
        refine rpA_map _ _ fun t ht => ?_
        exact zip3 ra t ((List.mergeSort_perm _ _).mem_iff.mp ht)
    · cases e
end RE
set_option maxHeartbeats 4000000
namespace RE
open PySem PySem.Spec PyProof.Rows L2
theorem ret_true {m : M} {st st1 : S} (h : m st = .ok (.bl true) st1) : trueS (mRet m st) = true := by
  rw [ret_at h]
  rfl
end RE
set_option maxHeartbeats 4000000
namespace RE
open PySem PySem.Spec PyProof.Rows L2
section
variable {P : Program} {w : World} {A : Around} {E : Value → Shared → Prop} {s : Shared}
mutual
theorem ofA_nk : ∀ (k : NestedKey) (v : Value) (n : Nat) (s : Shared) (Q : Bool → Shared → Prop), NestedIs s.heap k v → k.depth ≤ n → Q false s → wpAny (model P w) A (ofAClassStatement n v) Q E s
  | .none, v, n, s, Q, x, _, h => by
    cases x
    have e : ofAClassStatement n .none = pure false := by cases n <;> rfl
    rw [e]
    exact wpAny_pure h
  | .num i, v, n, s, Q, x, _, h => by
    have e : ofAClassStatement n v = pure false := by cases x <;> cases n <;> rfl
    rw [e]
    exact wpAny_pure h
  | .text y, v, n, s, Q, x, _, h => by
    have e : ofAClassStatement n v = pure false := by cases x; cases n <;> rfl
    rw [e]
    exact wpAny_pure h
  | .tup ks, v, n, s, Q, x, hn, h => by
    cases x with
    | @tup a o items m _ ho hc hd hi =>
      simp only [NestedKey.depth] at hn
      cases n with
      | zero => omega
      | succ n =>
        unfold ofAClassStatement
        refine wpAny_bind (wpAny_typeOf (T := "tuple") ⟨o, ho, hc⟩ ?_)
        dsimp only
        have eT : (("tuple" : String) == "tuple") = true := by decide
        simp only [eT, if_true, Bool.not_true, Bool.false_eq_true, if_false]
        try refine wpAny_bind (wpAny_pure ?_)
        try simp only [Bool.not_true, Bool.false_eq_true, if_false]
        show wpAny _ _ (seqItems? (.ref a) >>= _) _ _ s
        refine wpAny_bind (wpAny_seqItems ho hd ?_)
        dsimp only
        refine wpAny_bind ?_
        show wpAny _ _ (forIn items _ _) _ _ s
        rw [← Array.forIn_toList]
        refine wpAny_forIn_list _ (fun left r z => r.1 = none ∧ z = s ∧ ∀ u ∈ left, ∀ R : Bool → Shared → Prop, R false s → wpAny (model P w) A (ofAClassStatement n u) R E s) _ ?_ ?_ _ _ ⟨rfl, rfl, fun u hu R hR => ofA_nks ks _ n s hi (by omega) u hu R hR⟩
        · rintro u left r z ⟨hr, rfl, all⟩
          refine wpAny_bind (all u List.mem_cons_self _ ?_)
          simp only [Bool.false_eq_true, if_false]
          exact wpAny_pure ⟨rfl, rfl, fun y hy => all y (List.mem_cons_of_mem _ hy)⟩
        · rintro ⟨r1, r2⟩ z ⟨hr, rfl, _⟩
          simp only at hr
          subst hr
          exact wpAny_pure h
theorem ofA_nks : ∀ (ks : List NestedKey) (vs : List Value) (n : Nat) (s : Shared), NestedAll s.heap ks vs → NestedKey.depthAll ks ≤ n → ∀ u ∈ vs, ∀ Q : Bool → Shared → Prop, Q false s → wpAny (model P w) A (ofAClassStatement n u) Q E s
  | [], _, n, s, x, _, u, hu, _, _ => by cases x; cases hu
  | k :: ks, _, n, s, x, hn, u, hu, Q, h => by
    cases x with
    | cons x1 x2 =>
      simp only [NestedKey.depthAll] at hn
      rcases List.mem_cons.mp hu with e | hu
      · rw [e]; exact ofA_nk k _ n s Q x1 (by omega) h
      · exact ofA_nks ks _ n s x2 (by omega) u hu Q h
end
mutual
theorem hashBy_nk : ∀ (k : NestedKey) (v : Value) (n : Nat) (s : Shared) (Q : Bool → Shared → Prop), noTxt k = true → NestedIs s.heap k v → k.depth ≤ n → Q true s → wpAny (model P w) A (hashByValue n v) Q E s
  | .none, v, n, s, Q, _, x, _, h => by
    have e : hashByValue n v = pure true := by cases x; cases n <;> rfl
    rw [e]
    exact wpAny_pure h
  | .num i, v, n, s, Q, _, x, _, h => by
    have e : hashByValue n v = pure true := by cases x <;> cases n <;> rfl
    rw [e]
    exact wpAny_pure h
  | .text y, v, n, s, Q, nt, _, _, _ => by cases nt
  | .tup ks, v, n, s, Q, nt, x, hn, h => by
    cases x with
    | @tup a o items m _ ho hc hd hi =>
      simp only [NestedKey.depth] at hn
      cases n with
      | zero => omega
      | succ n =>
        unfold hashByValue
        refine wpAny_bind (wpAny_specialOf (T := "tuple") ⟨o, ho, hc⟩ F.slot_tuple_hash.lookup ?_)
        show wpAny _ _ (seqItems? (.ref a) >>= _) _ _ s
        refine wpAny_bind (wpAny_seqItems ho hd ?_)
        refine wpAny_bind ?_
        show wpAny _ _ (forIn items _ _) _ _ s
        rw [← Array.forIn_toList]
        refine wpAny_forIn_list _ (fun left r z => r.1 = none ∧ z = s ∧ ∀ u ∈ left, ∀ R : Bool → Shared → Prop, R true s → wpAny (model P w) A (hashByValue n u) R E s) _ ?_ ?_ _ _ ⟨rfl, rfl, fun u hu R hR => hashBy_nks ks _ n s (by simpa [noTxt] using nt) hi (by omega) u hu R hR⟩
        · rintro u left r z ⟨hr, rfl, all⟩
          refine wpAny_bind (all u List.mem_cons_self _ ?_)
          simp only [Bool.not_true, Bool.false_eq_true, if_false]
          exact wpAny_pure ⟨rfl, rfl, fun y hy => all y (List.mem_cons_of_mem _ hy)⟩
        · rintro ⟨r1, r2⟩ z ⟨hr, rfl, _⟩
          simp only at hr
          subst hr
          exact wpAny_pure h
theorem hashBy_nks : ∀ (ks : List NestedKey) (vs : List Value) (n : Nat) (s : Shared), noTxts ks = true → NestedAll s.heap ks vs → NestedKey.depthAll ks ≤ n → ∀ u ∈ vs, ∀ Q : Bool → Shared → Prop, Q true s → wpAny (model P w) A (hashByValue n u) Q E s
  | [], _, n, s, _, x, _, u, hu, _, _ => by cases x; cases hu
  | k :: ks, _, n, s, nt, x, hn, u, hu, Q, h => by
    cases x with
    | cons x1 x2 =>
      simp only [NestedKey.depthAll] at hn
      have nt' : noTxt k = true ∧ noTxts ks = true := by simpa [noTxts] using nt
      rcases List.mem_cons.mp hu with e | hu
      · rw [e]; exact hashBy_nk k _ n s Q nt'.1 x1 (by omega) h
      · exact hashBy_nks ks _ n s nt'.2 x2 (by omega) u hu Q h
end
/-- a member: a tuple without texts, not deep -/
structure MbOk (h : Heap) (k : NestedKey) (a : Addr) : Prop where
  is : NestedIs h k (.ref a)
  dp : k.depth ≤ 8
  nt : noTxt k = true
theorem MbOk.keep {h h' : Heap} {k : NestedKey} {a : Addr} (m : MbOk h k a) (hk : ∀ b o vs n, h.get? b = some o → o.data = .seq vs n → h'.get? b = some o) : MbOk h' k a := ⟨m.is.at hk, m.dp, m.nt⟩
theorem mb_seen {k : NestedKey} {b : Addr} {Q : Bool → Shared → Prop} (m : MbOk s.heap k b) {ys : List Value} (hy : ∀ y ∈ ys, ∃ j c, y = Value.ref c ∧ MbOk s.heap j c) (h : Q false s) : wpAny (model P w) A (searchCouldBeSeen (.ref b) ys) Q E s := by
  unfold searchCouldBeSeen
  refine wpAny_bind ?_
  refine wpAny_forIn_list _ (fun left r z => r.1 = none ∧ z = s ∧ ∀ y ∈ left, ∃ j c, y = Value.ref c ∧ MbOk s.heap j c) _ ?_ ?_ _ _ ⟨rfl, rfl, hy⟩
  · rintro u left r z ⟨hr, rfl, all⟩
    obtain ⟨j, c, rfl, mc⟩ := all u List.mem_cons_self
    have more : ∀ y ∈ left, ∃ j c, y = Value.ref c ∧ MbOk z.heap j c := fun y q => all y (List.mem_cons_of_mem _ q)
    dsimp only
    by_cases hv : (b == c || (carriedByValue (.ref b) && carriedByValue (.ref c))) = true
    · exact wp_if_pos hv (wpAny_pure ⟨rfl, rfl, more⟩)
    · refine wp_if_neg hv (wpAny_bind (quiet_key k _ 8 z m.is m.dp _ _ _ ?_))
      simp only [Bool.not_true, Bool.false_eq_true, if_false]
      refine wpAny_bind (quiet_key j _ 8 z mc.is mc.dp _ _ _ ?_)
      simp only [Bool.not_true, Bool.false_eq_true, if_false]
      refine wpAny_bind (ofA_nk k _ 8 z _ m.is m.dp ?_)
      simp only [Bool.false_eq_true, if_false]
      refine wpAny_bind (ofA_nk j _ 8 z _ mc.is mc.dp ?_)
      simp only [Bool.false_eq_true, if_false]
      exact wpAny_pure ⟨rfl, rfl, more⟩
  · rintro ⟨r1, r2⟩ z ⟨hr, rfl, _⟩
    simp only at hr
    subst hr
    exact wpAny_pure h
end
end RE
set_option maxHeartbeats 4000000
namespace RE
open PySem PySem.Spec PyProof.Rows L2
/-- how an item of ours names its tuple, its key -/
structure Vw (α : Type) where
  a : α → Addr
  k : α → NestedKey
section
variable {α : Type} {W : Vw α} {P : Program} {w : World} {A : Around} {E : Value → Shared → Prop} {s : Shared}
abbrev hsN (W : Vw α) (w : World) (x : α) : Int := (W.k x).hash w
def rowsN (W : Vw α) (w : World) (L : List α) : List (Int × Value) := L.map fun x => (hsN W w x, Value.ref (W.a x))
structure SetN (W : Vw α) (w : World) (h : Heap) (a : Addr) (L : List α) (es : Array (Int × Value)) (ep : Nat) (t : SetTable) : Prop where
  obj : ∃ o, h.get? a = some o ∧ o.ExactSet ∧ o.data = .set es ep t
  ent : es.toList = rowsN W w L
  tb : TabOk t (L.map (hsN W w))
  un : (L.map W.k).Nodup
  mb : ∀ x ∈ L, MbOk h (W.k x) (W.a x)
  pl : t.plain = true
  ld : w.params.followText "set-order" = true ∨ t.led = true
  lo : L.length * 5 < t.mask * 3
  lim : L.length < 64
variable {a : Addr} {L : List α} {es : Array (Int × Value)} {ep : Nat} {t : SetTable}
theorem rowsN_len {es : Array (Int × Value)} {L : List α} (e : es.toList = rowsN W w L) : es.size = L.length := by
  rw [← Array.length_toList, e]
  exact List.length_map _
theorem SetN.len (S : SetN W w s.heap a L es ep t) : es.size = L.length := rowsN_len S.ent
theorem SetN.psz (S : SetN W w s.heap a L es ep t) : t.place.size = L.length := by
  have := S.tb.sz
  rwa [List.length_map] at this
theorem SetN.fit (S : SetN W w s.heap a L es ep t) : t.fits es.size = true := by
  have e1 := S.psz
  have e2 := S.len
  have e3 := S.lo
  unfold SetTable.fits SetTable.fill
  rw [S.tb.dm, Bool.and_eq_true, beq_iff_eq, decide_eq_true_eq]
  show t.place.size = es.size ∧ t.place.size + 0 ≤ t.mask
  omega
theorem SetN.row (S : SetN W w s.heap a L es ep t) {i : Nat} {x : α} (h : L[i]? = some x) : es[i]? = some (hsN W w x, Value.ref (W.a x)) := by
  rw [← Array.getElem?_toList, S.ent]
  show (L.map _)[i]? = _
  rw [List.getElem?_map, h]
  rfl
theorem SetN.stays (S : SetN W w s.heap a L es ep t) : ¬ t.gaveWay = true := by
  unfold SetTable.gaveWay
  rw [mask_odd S.tb.mok]
  decide
abbrev beg (m : Nat) (h : Int) : SetTable.Probe := runAt m (SetTable.bits h % (m + 1)) (SetTable.bits h)
theorem nth_nodummy (m : Nat) : ∀ (n : Nat) (p : SetTable.Probe), p.dummy = none → (nth m p n).dummy = none
  | 0, _, h => h
  | n + 1, p, h => nth_nodummy m n (adv m p) (by unfold adv; split <;> exact h)
/-- the search for k, from the c-th step on -/
theorem look_from (S : SetN W w s.heap a L es ep t) {x : Addr} {k : NestedKey} (m : MbOk s.heap k x) (hu : A.units + 8 < cLine) {K : Nat} (hf : K < 10 * SetTable.turns t.mask) (hK : way t.mask (k.hash w) K ∉ t.place.toList)
    (hb : ∀ c, c < K → way t.mask (k.hash w) c ∈ t.place.toList) {Q : SetFound → Shared → Prop} (yes : k ∈ L.map W.k → Q (.there none) s) (no : k ∉ L.map W.k → Q (.free (way t.mask (k.hash w) K) false) s) :
    ∀ (f c : Nat) (at0 : Option SetTable.Probe), at0.getD (t.probeStart (k.hash w)) = nth t.mask (beg t.mask (k.hash w)) c → c ≤ K → K - c < f →
      (∀ (i : Nat) y, L[i]? = some y → W.k y = k → ∃ c', c ≤ c' ∧ c' < K ∧ t.place.toList[i]? = some (way t.mask (k.hash w) c')) → wpAny (model P w) A (setSearchFrom a (.ref x) (k.hash w) true f at0) Q E s
  | 0, c, _, _, _, z, _ => absurd z (Nat.not_lt_zero _)
  | f + 1, c, at0, e0, hc, hlt, rem => by
    obtain ⟨o, ho, hex, hd⟩ := S.obj
    generalize hh : k.hash w = h at *
    rw [setSearchFrom_succ]
    refine wpAny_bind (wpAny_setState_of ho hd S.fit ?_)
    dsimp only
    refine wp_if_neg S.stays ?_
    try refine wpAny_bind (wpAny_pure ?_)
    have step : ∀ q, nth t.mask (nth t.mask (beg t.mask h) c) q = nth t.mask (beg t.mask h) (c + q) := fun q => (nth_add t.mask c _ q).symm
    have slotq : ∀ q, (nth t.mask (nth t.mask (beg t.mask h) c) q).j = way t.mask h (c + q) := fun q => congrArg SetTable.Probe.j (step q)
    have met := go_spec t S.tb.ris S.tb.dm (fun i => (es[i]?.map (·.1)).getD 0) h (10 * SetTable.turns t.mask) (K - c) (nth t.mask (beg t.mask h) c) (nth_nodummy _ _ _ rfl) (by omega)
      (fun q hq => by rw [slotq]; exact hb _ (by omega)) (by rw [slotq, show c + (K - c) = K by omega]; exact hK)
    have hashOf : ∀ (i : Nat) y, L[i]? = some y → (fun i => (es[i]?.map (·.1)).getD 0) i = hsN W w y := fun i y hy => by
      show (es[i]?.map (·.1)).getD 0 = _
      rw [S.row hy]
      rfl
    rcases met with ⟨q, i, hq, hi, _, before, go⟩ | ⟨before, go⟩
    · rw [slotq q, step (q + 1), ← e0] at go
      rw [slotq] at hi
      rw [show t.probe (fun i => (es[i]?.map (·.1)).getD 0) h (at0.getD (t.probeStart h)) = some (.candidate (way t.mask h (c + q)) i (nth t.mask (beg t.mask h) (c + (q + 1)))) from go]
      dsimp only
      have hil : i < L.length := by
        have := (List.getElem?_eq_some_iff.mp hi).1
        have := S.psz
        rw [Array.length_toList] at *
        omega
      obtain ⟨y, hy⟩ : ∃ y, L[i]? = some y := ⟨_, List.getElem?_eq_getElem hil⟩
      have ym : y ∈ L := List.mem_of_getElem? hy
      have my := S.mb y ym
      have onward : wpAny (model P w) A (searchRest a (.ref x) h true f es t (way t.mask h (c + q)) i (nth t.mask (beg t.mask h) (c + (q + 1)))) Q E s := by
        unfold searchRest
        rw [S.row hy]
        dsimp only
        refine wpAny_bind (wpAny_holding (eqAt_key (W.k y) k A s _ _ my.is m.is (by have := my.dp; omega) _ _ _ _ ?_))
        refine wpAny_bind (wpAny_setState_of ho hd S.fit ?_)
        dsimp only
        rw [← NestedKey.decide_eq]
        by_cases same : W.k y = k
        · exact wp_if_pos (by simp [same]) (wpAny_pure (yes (List.mem_map.mpr ⟨y, ym, same⟩)))
        · refine wp_if_neg (by simp [same]) ?_
          try refine wpAny_bind (wpAny_pure ?_)
          rw [sameMem]
          dsimp only
          have lv : t.slot (way t.mask h (c + q)) = .live i := slot_live S.tb.ris hi
          simp only [if_true, lv, S.row hy]
          refine wpAny_bind (wpAny_isSame_ref_self (wpAny_bind (wpAny_pure ?_)))
          simp only [if_true]
          refine wp_if_neg (by simp [same]) ?_
          subst hh
          refine look_from S m hu hf hK hb yes no f (c + (q + 1)) _ rfl (by omega) (by omega) fun j z hz kz => ?_
          obtain ⟨c', b1, b2, b3⟩ := rem j z hz kz
          refine ⟨c', ?_, b2, b3⟩
          rcases Nat.lt_trichotomy c' (c + q) with l | l | l
          · exact absurd ((hashOf j z hz).trans (by show (W.k z).hash w = _; rw [kz])) (before (c' - c) j (by omega) (by rw [slotq, show c + (c' - c) = c' by omega]; exact b3))
          · rw [l] at b3
            have lz := slot_live S.tb.ris b3
            rw [lv] at lz
            injection lz with lz
            rw [← lz, hy] at hz
            exact absurd (by rw [Option.some.inj hz]; exact kz) same
          · omega
      by_cases led : t.led = true
      · refine wp_if_neg (by simp [led]) ?_
        try refine wpAny_bind (wpAny_pure ?_)
        exact onward
      · refine wp_if_pos (by simp [led]) (wpAny_bind (mb_seen m (fun u hu' => ?_) ?_))
        · obtain ⟨e, he, rfl⟩ := List.mem_map.mp hu'
          have he2 : e ∈ es.toList := by
            have : e ∈ es ∧ e.1 = h := by simpa using he
            simpa using this.1
          rw [S.ent] at he2
          obtain ⟨z, hz, rfl⟩ := List.mem_map.mp he2
          exact ⟨W.k z, W.a z, rfl, S.mb z hz⟩
        · refine wp_if_neg (by decide) ?_
          try refine wpAny_bind (wpAny_pure ?_)
          exact onward
    · rw [slotq, show c + (K - c) = K by omega, ← e0] at go
      rw [show t.probe (fun i => (es[i]?.map (·.1)).getD 0) h (at0.getD (t.probeStart h)) = some (.empty (way t.mask h K) none) from go]
      dsimp only
      refine wpAny_pure (no fun mem => ?_)
      obtain ⟨y, ym, ky⟩ := List.mem_map.mp mem
      obtain ⟨i, hi, ei⟩ := List.getElem_of_mem ym
      have hy : L[i]? = some y := by rw [List.getElem?_eq_getElem hi, ei]
      obtain ⟨c', b1, b2, b3⟩ := rem i y hy ky
      exact before (c' - c) i (by omega) (by rw [slotq, show c + (c' - c) = c' by omega]; exact b3) ((hashOf i y hy).trans (by show (W.k y).hash w = _; rw [ky, hh]))
theorem look_at (S : SetN W w s.heap a L es ep t) {x : Addr} {k : NestedKey} (m : MbOk s.heap k x) (hu : A.units + 8 < cLine) {Q : SetFound → Shared → Prop} (yes : k ∈ L.map W.k → Q (.there none) s)
    (no : ∀ K, k ∉ L.map W.k → way t.mask (k.hash w) K ∉ t.place.toList → (∀ c, c < K → way t.mask (k.hash w) c ∈ t.place.toList) → Q (.free (way t.mask (k.hash w) K) false) s) :
    wpAny (model P w) A (setSearch a (.ref x) (k.hash w) true) Q E s := by
  have lo := S.lo
  obtain ⟨K, hf, hK, hb⟩ := S.tb.first (by rw [List.length_map]; omega) (k.hash w)
  have far : K < 100000 := by
    have : 10 * SetTable.turns t.mask ≤ 1420 := by
      unfold SetTable.turns
      rcases S.tb.mok with e | e | e <;> omega
    omega
  unfold setSearch
  refine look_from S m hu hf hK hb yes (fun z => no K z hK hb) 100000 0 none rfl (Nat.zero_le _) (by omega) fun i y hy ky => ?_
  have e1 : (L.map (hsN W w))[i]? = some (k.hash w) := by
    rw [List.getElem?_map, hy]
    show some ((W.k y).hash w) = _
    rw [ky]
  have hil : i < t.place.toList.length := by
    have := (List.getElem?_eq_some_iff.mp hy).1
    have := S.psz
    rw [Array.length_toList]
    omega
  obtain ⟨c, hc, e⟩ := S.tb.before hK e1 (List.getElem?_eq_getElem hil)
  exact ⟨c, Nat.zero_le _, hc, by rw [List.getElem?_eq_getElem hil, e]⟩
end
end RE
set_option maxHeartbeats 4000000
namespace RE
open PySem PySem.Spec PyProof.Rows L2
section
variable {α : Type} {W : Vw α} {P : Program} {w : World} {A : Around} {E : Value → Shared → Prop} {s : Shared} {a : Addr} {L : List α} {es : Array (Int × Value)} {ep : Nat} {t : SetTable}
theorem MbOk.but {h h' : Heap} {k : NestedKey} {b : Addr} {o : Obj} (m : MbOk h k b) (ho : h.get? a = some o) (hd : o.data = .set es ep t) (hs : Heap.SameBut a h h') : MbOk h' k b := m.keep fun c u vs n hc hn => by
  refine (hs.2 c fun e => ?_).trans hc
  rw [e, ho] at hc
  cases hc
  rw [hd] at hn
  cases hn
theorem rowsN_ins (L : List α) (p : Nat) (x : α) : rowsN W w (L.take p ++ x :: L.drop p) = (rowsN W w L).take p ++ (hsN W w x, Value.ref (W.a x)) :: (rowsN W w L).drop p := by
  unfold rowsN
  rw [List.map_append, List.map_cons, List.map_take, List.map_drop]
theorem pick_range {β : Type} (l : List β) : ∀ n, n ≤ l.length → (List.range n).filterMap (fun i => l[i]?) = l.take n
  | 0, _ => by simp
  | n + 1, h => by
    have lt : n < l.length := h
    rw [List.range_succ, List.filterMap_append, pick_range l n (Nat.le_of_lt lt), List.filterMap_cons_some (List.getElem?_eq_getElem lt), List.take_succ, List.getElem?_eq_getElem lt]
    rfl
theorem rowsN_order (order : Array Nat) (e : es.toList = rowsN W w L) (hp : order.toList.Perm (List.range L.length)) :
    ∃ M : List α, (order.filterMap (es[·]?)).toList = rowsN W w M ∧ M.Perm L ∧ M.map (hsN W w) = order.toList.map fun i => (es.map (·.1)).getD i 0 := by
  have hget : ∀ i : Nat, es[i]? = (L[i]?).map fun x => (hsN W w x, Value.ref (W.a x)) := fun i => by
    rw [← Array.getElem?_toList, e]
    exact List.getElem?_map ..
  refine ⟨order.toList.filterMap fun i => L[i]?, ?_, ?_, ?_⟩
  · rw [show (order.filterMap (es[·]?)).toList = order.toList.filterMap (es[·]?) by simp]
    unfold rowsN
    rw [List.map_filterMap]
    exact congrArg (fun f => order.toList.filterMap f) (funext hget)
  · have := hp.filterMap (fun i => L[i]?)
    rwa [pick_range L _ (Nat.le_refl _), List.take_length] at this
  · have each : ∀ l : List Nat, (∀ i ∈ l, i < L.length) → (l.filterMap fun i => L[i]?).map (hsN W w) = l.map fun i => (es.map (·.1)).getD i 0 := by
      intro l
      induction l with
      | nil => intro _; rfl
      | cons i l ih =>
        intro hl
        have lt := hl i List.mem_cons_self
        have e1 : (es.map (·.1)).getD i 0 = hsN W w L[i] := by
          have : (es.map (·.1))[i]? = some (hsN W w L[i]) := by rw [Array.getElem?_map, hget, List.getElem?_eq_getElem lt]; rfl
          simp [Array.getD_eq_getD_getElem?, this]
        rw [List.filterMap_cons_some (List.getElem?_eq_getElem lt), List.map_cons, List.map_cons, ih fun j hj => hl j (List.mem_cons_of_mem _ hj), e1]
    exact each _ fun i hi => List.mem_range.mp (hp.mem_iff.mp hi)
/-- the table laid anew -/
theorem wider_n {o : Obj} (ho : s.heap.get? a = some o) (hex : o.ExactSet) (hd : o.data = .set es ep t) (ent : es.toList = rowsN W w L) (psz : t.place.size = es.size) (dm : t.dummies = #[]) (room : es.size ≤ t.mask) (un : (L.map W.k).Nodup)
    (mb : ∀ x ∈ L, MbOk s.heap (W.k x) (W.a x)) (pl : t.plain = true) (ld : w.params.followText "set-order" = true ∨ t.led = true) (lim : L.length < 64) {n M : Nat} (hn : SetTable.sizeAbove n - 1 = M) (hM : MaskOk M)
    (few : SetTable.sizeAbove n ≤ 128) (lo : L.length * 5 < M * 3) {Q : Unit → Shared → Prop}
    (hQ : ∀ h' L' es' ep' t', Heap.SameBut a s.heap h' → SetN W w h' a L' es' ep' t' → L'.Perm L → Q () { s with heap := h' }) : wpAny (model P w) A (setRelay a n) Q E s := by
  have sz := rowsN_len ent
  have fit : t.fits es.size = true := by
    unfold SetTable.fits SetTable.fill
    rw [dm, Bool.and_eq_true, beq_iff_eq, decide_eq_true_eq]
    exact ⟨psz, by show t.place.size + 0 ≤ t.mask; omega⟩
  obtain ⟨t', order, e, pm, T, em, el, epl, _⟩ := relaid_ok t (hs := es.map (·.1)) hn hM (by rw [Array.size_map]; omega)
  rw [Array.size_map, sz] at pm
  obtain ⟨L', r1, r2, r3⟩ := rowsN_order order ent pm
  rw [← r3] at T
  have sz' : (order.filterMap (es[·]?)).size = es.size := by rw [rowsN_len r1, sz, r2.length_eq]
  rw [setRelay_eq]
  refine wpAny_bind (wpAny_setState_of ho hd fit ?_)
  dsimp only
  refine wp_if_neg (by rw [sizeLine_eq]; omega) ?_
  try refine wpAny_bind (wpAny_pure ?_)
  rw [e]
  dsimp only
  refine wpAny_bind (wp_if_neg (by rw [sz']; simp) ?_)
  try refine wpAny_bind (wpAny_pure ?_)
  refine wpAny_pure ?_
  dsimp only
  refine wpAny_storeSet_of ho hd ?_ (by rw [sz', sz, sizeLine_eq]; omega)
  have but : Heap.SameBut a s.heap (s.heap.update a (Obj.putSet (order.filterMap (es[·]?)) t')) := Heap.SameBut.update ..
  refine hQ _ L' _ (ep + 1) t' but ⟨⟨_, store_at ho hd, ⟨hex.1, hex.2.1, hex.2.2⟩, rfl⟩, r1, T, (r2.map W.k).nodup_iff.mpr un, fun x hx => (mb x (r2.mem_iff.mp hx)).but ho hd but, by rw [epl]; exact pl, by rw [el]; exact ld, by rw [r2.length_eq, em]; exact lo, by rw [r2.length_eq]; exact lim⟩ r2
/-- adding -/
theorem put_n (S : SetN W w s.heap a L es ep t) {x : α} (m : MbOk s.heap (W.k x) (W.a x)) (hu : A.units + 8 < cLine) (hl : L.length + 1 < 64) {Q : Bool → Shared → Prop}
    (hQ : ∀ b h' L' es' ep' t', Heap.SameBut a s.heap h' → SetN W w h' a L' es' ep' t' → (W.k x ∈ L.map W.k → L' = L) → (W.k x ∉ L.map W.k → L'.Perm (x :: L)) → Q b { s with heap := h' }) :
    wpAny (model P w) A (setAddHashed a (.ref (W.a x)) ((W.k x).hash w)) Q E s := by
  obtain ⟨o, ho, hex, hd⟩ := S.obj
  have sz := S.len
  have lo := S.lo
  unfold setAddHashed
  refine wpAny_holding ?_
  rw [show (100000 : Nat) = 99999 + 1 from rfl, setAddHashedIn_succ]
  refine wpAny_bind (wpAny_setState_of ho hd S.fit ?_)
  dsimp only
  refine wp_if_neg (by simp [byScan, Value.scannable]) ?_
  try refine wpAny_bind (wpAny_pure ?_)
  refine wpAny_bind (look_at S m hu (fun mem => ?_) fun K new hK hb => ?_)
  · dsimp only
    exact wpAny_pure (hQ false s.heap L es ep t (Heap.SameBut.refl a s.heap) S (fun _ => rfl) fun z => absurd mem z)
  · dsimp only
    refine wpAny_bind (wpAny_setState_of ho hd S.fit ?_)
    dsimp only
    obtain ⟨g1, g2, g3, g4, g5, g6, _, _, g9⟩ := S.tb.put hK hb
    have pl1 : (t.put (way t.mask ((W.k x).hash w) K)).1.plain = true := by rw [g6]; exact S.pl
    generalize hpt : t.put (way t.mask ((W.k x).hash w) K) = pt at g1 g3 g4 g5 g6 g9 pl1 ⊢
    obtain ⟨t1, p⟩ := pt
    dsimp only at g1 g3 g4 g5 g6 g9 pl1 ⊢
    subst g1
    first
      | (refine wpAny_bind ?_; refine wp_if_pos pl1 ?_; refine hashBy_nk _ _ 8 s _ m.nt m.is m.dp ?_)
      | refine wp_if_pos pl1 (wpAny_bind (hashBy_nk _ _ 8 s _ m.nt m.is m.dp ?_))
    simp only [if_true]
    have ins : (SetTable.insertAt es (SetTable.below t.place (way t.mask ((W.k x).hash w) K)) ((W.k x).hash w, Value.ref (W.a x))).toList = rowsN W w (L.take (SetTable.below t.place (way t.mask ((W.k x).hash w) K)) ++ x :: L.drop (SetTable.below t.place (way t.mask ((W.k x).hash w) K))) := by
      rw [SetTable.toList_insertAt, rowsN_ins, S.ent]
    generalize SetTable.below t.place (way t.mask ((W.k x).hash w) K) = p at g2 g3 ins ⊢
    have pm := put_perm L p x
    have len1 : (L.take p ++ x :: L.drop p).length = L.length + 1 := pm.length_eq
    have hs1 : (L.take p ++ x :: L.drop p).map (hsN W w) = (L.map (hsN W w)).take p ++ (W.k x).hash w :: (L.map (hsN W w)).drop p := by
      rw [List.map_append, List.map_cons, List.map_take, List.map_drop]
    rw [← hs1] at g3
    have un1 : ((L.take p ++ x :: L.drop p).map W.k).Nodup := (pm.map W.k).nodup_iff.mpr (by rw [List.map_cons]; exact List.nodup_cons.mpr ⟨new, S.un⟩)
    generalize SetTable.insertAt es p ((W.k x).hash w, Value.ref (W.a x)) = es1 at ins ⊢
    generalize L.take p ++ x :: L.drop p = L1 at pm len1 g3 un1 ins
    have sz1 := rowsN_len ins
    refine wpAny_bind (wpAny_storeSet_of ho hd ?_ (by rw [sz1, len1, sizeLine_eq]; omega))
    have but : Heap.SameBut a s.heap (s.heap.update a (Obj.putSet es1 t1)) := Heap.SameBut.update ..
    have ho1 := store_at (es' := es1) (t' := t1) ho hd
    generalize s.heap.update a (Obj.putSet es1 t1) = h1 at but ho1 ⊢
    have mb1 : ∀ y ∈ L1, MbOk h1 (W.k y) (W.a y) := fun y hy => by
      rcases List.mem_cons.mp (pm.mem_iff.mp hy) with e | hy
      · rw [e]; exact m.but ho hd but
      · exact (S.mb y hy).but ho hd but
    have ld1 : w.params.followText "set-order" = true ∨ t1.led = true := by rw [g5]; exact S.ld
    by_cases full : t1.tooFull = true
    · first
        | (refine wpAny_bind ?_; refine wp_if_pos (by simp [full]) ?_)
        | (refine wp_if_pos (by simp [full]) ?_; refine wpAny_bind ?_)
      have much : (L.length + 1) * 5 ≥ t1.mask * 3 := by
        have q := full
        unfold SetTable.tooFull at q
        rwa [decide_eq_true_eq, g9, List.length_map] at q
      rw [sz]
      have psz1 : t1.place.size = es1.size := by
        have q := g3.sz
        rw [List.length_map, len1] at q
        rw [q, sz1, len1]
      have which : (t.mask = 7 ∧ L.length = 4) ∨ (t.mask = 31 ∧ L.length = 18) := by
        rw [g4] at much
        rcases S.tb.mok with e | e | e <;> rw [e] at much lo
        · exact .inl ⟨e, by omega⟩
        · exact .inr ⟨e, by omega⟩
        · omega
      have grow : ∀ M, SetTable.sizeAbove (SetTable.grown (L.length + 1)) - 1 = M → MaskOk M → SetTable.sizeAbove (SetTable.grown (L.length + 1)) ≤ 128 → (L.length + 1) * 5 < M * 3 →
          wpAny (model P w) A (setRelay a (SetTable.grown (L.length + 1))) (fun _ s' => wpAny (model P w) A (pure true) Q E s') E { s with heap := h1 } := fun M w1 w2 w3 w4 => by
        refine wider_n (s := { s with heap := h1 }) ho1 ⟨hex.1, hex.2.1, hex.2.2⟩ rfl ins psz1 g3.dm (by rw [sz1, len1, g4]; rcases which with ⟨e, e2⟩ | ⟨e, e2⟩ <;> omega) un1 mb1 pl1 ld1 (by rw [len1]; exact hl) w1 w2 w3 (by rw [len1]; exact w4) ?_
        intro h2 L2 es2 ep2 t2 but2 S2 pm2
        exact wpAny_pure (hQ true h2 L2 es2 ep2 t2 (but.trans but2) S2 (fun z => absurd z new) fun _ => pm2.trans pm)
      rcases which with ⟨_, e2⟩ | ⟨_, e2⟩
      · exact grow 31 (by rw [e2, size_20]) (.inr (.inl rfl)) (by rw [e2, size_20]; decide) (by omega)
      · exact grow 127 (by rw [e2, size_76]) (.inr (.inr rfl)) (by rw [e2, size_76]; decide) (by omega)
    · first
        | refine wp_if_neg (by simp [full]) ?_
        | (refine wpAny_bind ?_; refine wp_if_neg (by simp [full]) ?_; refine wpAny_pure ?_)
      refine wpAny_pure (hQ true h1 L1 es1 (ep + 1) t1 but ⟨⟨_, ho1, ⟨hex.1, hex.2.1, hex.2.2⟩, rfl⟩, ins, g3, un1, mb1, pl1, ld1, ?_, by rw [len1]; exact hl⟩ (fun z => absurd z new) fun _ => pm)
      have q := full
      unfold SetTable.tooFull at q
      rw [decide_eq_true_eq, g9, List.length_map] at q
      rw [len1]
      omega
end
end RE
set_option maxHeartbeats 4000000
namespace RE
open PySem PySem.Spec PyProof.Rows L2
section
variable {α : Type} (W : Vw α)
/-- the first of each key -/
def ddS (acc : List α) (x : α) : List α := if W.k x ∈ acc.map W.k then acc else acc ++ [x]
def dd (l : List α) : List α := l.foldl (ddS W) []
variable {W}
theorem dd_snoc (l : List α) (x : α) : dd W (l ++ [x]) = ddS W (dd W l) x := List.foldl_append ..
theorem ddS_len (acc : List α) (x : α) : acc.length ≤ (ddS W acc x).length := by
  unfold ddS
  split
  · exact Nat.le_refl _
  · rw [List.length_append]; omega
theorem dd_grow : ∀ (l acc : List α), acc.length ≤ (l.foldl (ddS W) acc).length
  | [], _ => Nat.le_refl _
  | x :: l, acc => Nat.le_trans (ddS_len acc x) (dd_grow l _)
theorem dd_take (l : List α) (i : Nat) : (dd W (l.take i)).length ≤ (dd W l).length := by
  conv => rhs; rw [← List.take_append_drop i l]
  unfold dd
  rw [List.foldl_append]
  exact dd_grow _ _
theorem ddS_mem {acc : List α} {x y : α} (h : y ∈ ddS W acc x) : y = x ∨ y ∈ acc := by
  unfold ddS at h
  split at h
  · exact .inr h
  · rcases List.mem_append.mp h with h | h
    · exact .inr h
    · exact .inl (List.mem_singleton.mp h)
theorem dd_mem' : ∀ (l acc : List α) (y : α), y ∈ l.foldl (ddS W) acc → y ∈ l ∨ y ∈ acc
  | [], _, _, h => .inr h
  | x :: l, acc, y, h => by
    rcases dd_mem' l _ y h with q | q
    · exact .inl (List.mem_cons_of_mem _ q)
    · rcases ddS_mem q with e | q
      · rw [e]; exact .inl List.mem_cons_self
      · exact .inr q
theorem dd_mem {l : List α} {y : α} (h : y ∈ dd W l) : y ∈ l := (dd_mem' l [] y h).elim id fun z => nomatch z
end
section
variable {α : Type} {W : Vw α} {P : Program} {w : World} {A : Around} {E : Value → Shared → Prop} {s : Shared}
theorem SetN.kept {h h' : Heap} {a : Addr} {L : List α} {es : Array (Int × Value)} {ep : Nat} {t : SetTable} (S : SetN W w h a L es ep t) (ha : ∀ o, h.get? a = some o → h'.get? a = some o) (hm : ∀ x ∈ L, MbOk h' (W.k x) (W.a x)) : SetN W w h' a L es ep t := by
  obtain ⟨o, ho, q⟩ := S.obj
  exact ⟨⟨o, ha o ho, q⟩, S.ent, S.tb, S.un, hm, S.pl, S.ld, S.lo, S.lim⟩
theorem setN_new {h : Heap} {a : Addr} (ho : h.get? a = some (ns0 w)) : SetN W w h a [] #[] 0 (.fresh 0 0 (!w.params.followText "set-order")) where
  obj := ⟨_, ho, ⟨rfl, rfl, rfl⟩, rfl⟩
  ent := rfl
  tb := ⟨List.Pairwise.nil, rfl, rfl, .inl rfl, fun x hx => (by cases hx), fun i h j hi => (by simp at hi)⟩
  un := List.nodup_nil
  mb := fun x hx => nomatch hx
  pl := rfl
  ld := by
    show _ ∨ (!w.params.followText "set-order") = true
    cases w.params.followText "set-order"
    · exact .inr rfl
    · exact .inl rfl
  lo := by show 0 * 5 < 7 * 3; decide
  lim := by show 0 < 64; decide
/-- the loop that takes a list's members in -/
theorem fill_n {I : Addr} {fp wr : List Addr} {G : Array GenState → Array GenState → Prop} {n : Nat} {Pv : Nat → Value → Prop} {St : Nat → Shared → Prop} {R : Result → Shared → Prop} (Wk : WalksS P w A.in1 I fp wr G n Pv St) (z : Addr) (hz : z ∉ fp) (ks : List α) (hn : n = ks.length)
    (few : (dd W ks).length < 63) (hv : ∀ i v, Pv i v → ∃ x, ks[i]? = some x ∧ v = .ref (W.a x)) (h0 : Heap) (hk : ∀ x ∈ ks, MbOk h0 (W.k x) (W.a x)) (hz0 : h0.get? z = none) (hw0 : ∀ b ∈ wr, h0.get? b = none) (hu : A.in1.units + 8 < cLine) :
    ∀ (r i : Nat) (s : Shared), n - i = r → i ≤ n → St i s → (∀ b o, h0.get? b = some o → s.heap.get? b = some o) → (∃ L es ep t, SetN W w s.heap z L es ep t ∧ L.Perm (dd W (ks.take i))) →
      (∀ s' L es ep t, Moved (z :: wr) G s s' → SetN W w s'.heap z L es ep t → L.Perm (dd W ks) → (∀ b o, h0.get? b = some o → s'.heap.get? b = some o) → R (.ok (.ret .none)) s') →
      codeAny (model P w) A (.builtin "set.update.loop" ⟨[.ref z, .ref I], []⟩) R s := by
  have zw : z ∉ wr := fun h => hz (Wk.sub _ h)
  have into : ∀ b ∈ wr, b ∈ z :: wr := fun b hb => List.mem_cons_of_mem _ hb
  have keepM : ∀ {s s' : Shared}, Moved wr G s s' → (∀ b o, h0.get? b = some o → s.heap.get? b = some o) → ∀ b o, h0.get? b = some o → s'.heap.get? b = some o := fun mv kp b o e =>
    mv.heap b o (fun hb => by rw [hw0 b hb] at e; cases e) (kp b o e)
  intro r
  induction r with
  | zero =>
    intro i s hr hi hst kp ⟨L, es, ep, t, S, pm⟩ hR
    obtain rfl : i = n := by omega
    refine codeAny_builtin F.entry_set_update_loop ?_
    rw [Around.under_plainId F.plain_set_update_loop _]
    show wpAny _ A.in1 (pyNext (.ref I) >>= _) _ _ s
    refine wpAny_bind (Wk.done s _ _ hst fun s' mv => ?_)
    show wpAny _ A.in1 (ret Value.none) _ _ s'
    have kp' := keepM mv kp
    rw [hn, List.take_length] at pm
    exact wpAny_pure (hR s' L es ep t (mv.mono into) (S.kept (fun o e => mv.heap z o zw e) fun x hx => (hk x (dd_mem (pm.mem_iff.mp hx))).keep fun b u _ _ e _ => kp' b u e) pm kp')
  | succ r ih =>
    intro i s hr hi hst kp ⟨L, es, ep, t, S, pm⟩ hR
    have lt : i < n := by omega
    refine codeAny_builtin F.entry_set_update_loop ?_
    rw [Around.under_plainId F.plain_set_update_loop _]
    show wpAny _ A.in1 (pyNext (.ref I) >>= _) _ _ s
    refine wpAny_bind (Wk.item i s _ _ lt hst fun v s' hP hst' mv => ?_)
    obtain ⟨x, hx, rfl⟩ := hv i v hP
    have kp' := keepM mv kp
    have xm : x ∈ ks := List.mem_of_getElem? hx
    have S' : SetN W w s'.heap z L es ep t := S.kept (fun o e => mv.heap z o zw e) fun y hy => (hk y (List.mem_of_mem_take (dd_mem (pm.mem_iff.mp hy)))).keep fun b u _ _ e _ => kp' b u e
    have m : MbOk s'.heap (W.k x) (W.a x) := (hk x xm).keep fun b u _ _ e _ => kp' b u e
    have nx : ks.take (i + 1) = ks.take i ++ [x] := take_next hx
    show wpAny _ A.in1 (holding [Value.ref (W.a x)] (setAdd z (.ref (W.a x))) >>= _) _ _ s'
    refine wpAny_bind (wpAny_holding ?_)
    unfold setAdd
    refine wpAny_holding (wpAny_bind (pyHash_key _ _ _ _ _ m.is (by have := m.dp; omega) ?_))
    refine put_n (s := { s' with toks := s'.toks + (W.k x).draws }) S' m hu (by have := dd_take (W := W) ks i; rw [pm.length_eq]; omega) fun b h' L' es' ep' t' but S2 c1 c2 => ?_
    have pm' : L'.Perm (dd W (ks.take (i + 1))) := by
      rw [nx, dd_snoc]
      unfold ddS
      have mem : W.k x ∈ (dd W (ks.take i)).map W.k ↔ W.k x ∈ L.map W.k := ((pm.map W.k).mem_iff).symm
      by_cases c : W.k x ∈ L.map W.k
      · rw [c1 c, if_pos (mem.mpr c)]; exact pm
      · rw [if_neg fun q => c (mem.mp q)]
        exact (c2 c).trans ((pm.cons x).trans (List.perm_append_singleton x _).symm)
    have kp2 : ∀ b o, h0.get? b = some o → h'.get? b = some o := fun b o e => (but.2 b fun q => by rw [q, hz0] at e; cases e).trans (kp' b o e)
    refine wpAny_pure ⟨plainId_quiet F.plain_set_update_loop _, ih (i + 1) _ (by omega) lt (Wk.frame _ s' _ _ hst' (Nat.le_add_right _ _) fun b hb o e => ?_) kp2 ⟨L', es', ep', t', S2, pm'⟩ fun s'' L2 es2 ep2 t2 mv2 S3 pm2 kp3 => ?_⟩
    · rw [but.2 b fun q : b = z => hz (by rw [← q]; exact hb)]
      exact e
    · refine hR s'' L2 es2 ep2 t2 (Moved.trans Wk.gtrans ((mv.mono into).then_heap (Nat.le_add_right _ _) fun b o hb e => ?_) mv2) S3 pm2 kp3
      rw [but.2 b fun q : b = z => hb (by rw [q]; exact List.mem_cons_self)]
      exact e
def FilledN (W : Vw α) (w : World) (s s2 : Shared) (ks : List α) : Prop := ∃ h' tk L es ep t, s2 = { s with heap := h', toks := tk } ∧ SetN W w h' s.heap.objs.size L es ep t ∧ L.Perm (dd W ks) ∧ ∀ b o, s.heap.get? b = some o → h'.get? b = some o
set_option maxHeartbeats 3200000 in
theorem init_n {l : Addr} {items : Array Value} {ks : List α} (hh : A.handled = none) (hl : s.heap.IsList l items) (hit : items.toList = ks.map fun x => Value.ref (W.a x)) (hk : ∀ x ∈ ks, MbOk s.heap (W.k x) (W.a x)) (few : (dd W ks).length < 63) (hu : A.units + 20 < cLine) :
    wpAny (model P w) A.in1 (Builtin.«set.__init__» ⟨[.ref s.heap.objs.size, .ref l], []⟩)
      (fun fin t => match fin with
        | .done f => wants (fun r s2 => r = Value.none ∧ FilledN W w s s2 ks) E (.ok f) t
        | .again c => c.quiet = true ∧ codeAny (model P w) A c (wants (fun r s2 => r = Value.none ∧ FilledN W w s s2 ks) E) t)
      (fun e t => wants (fun r s2 => r = Value.none ∧ FilledN W w s s2 ks) E (.error e) t) { s with heap := ns1 w s.heap } := by
  have len : items.size = ks.length := by
    rw [← Array.length_toList, hit, List.length_map]
  have hS : (ns1 w s.heap).get? s.heap.objs.size = some (ns0 w) := Heap.get?_push_size _ rfl
  have hT : Shared.TypeIs { s with heap := ns1 w s.heap } (.ref s.heap.objs.size) "set" := ⟨_, hS, rfl⟩
  obtain ⟨⟨oc, od, oda, osl⟩, hol, hcl, nl, hdl⟩ := hl
  simp only at hcl hdl
  subst hcl; subst hdl
  have below : l < s.heap.objs.size := Heap.lt_size hol
  have old : (ns1 w s.heap).get? l = some { cls := .type "list", dict := od, data := .seq items nl, slots := osl } := Heap.get?_push_of_some _ hol
  have q1 := F.sub_list_set
  have q2 := F.sub_list_frozenset
  have q3 : (Value.type "list" == Value.type "dict") = false := by decide
  have isl : (ns1 w s.heap).IsList l items := ⟨_, old, rfl, nl, rfl⟩
  have sz : (ns1 w s.heap).objs.size = s.heap.objs.size + 1 := Heap.size_push ..
  unfold Builtin.«set.__init__» Builtin.Frozenset.updateFrom noKeywords
  generalize hPI : pyIter = PI
  wp_walk
  subst hPI
  refine wpAny_pyIter_list isl ?_
  refine wpAny_bind (wpAny_runValue ?_)
  have off : s.heap.objs.size ∉ [(ns1 w s.heap).objs.size, l] := by
    rw [sz]
    intro z
    rcases List.mem_cons.mp z with z1 | z1
    · exact Nat.ne_of_lt (Nat.lt_succ_self _) z1
    · exact Nat.ne_of_gt below (List.mem_singleton.mp z1)
  have gone : ∀ b, s.heap.objs.size ≤ b → s.heap.get? b = none := fun b hb => by
    cases q : s.heap.get? b with
    | none => rfl
    | some o => exact absurd (Nat.lt_of_lt_of_le (Heap.lt_size q) hb) (Nat.lt_irrefl _)
  refine fill_n ((Walks.list (by simp [hh]) _ l (by rw [sz]; exact Nat.ne_of_lt (Nat.lt_succ_of_lt below)) items).toS) s.heap.objs.size off ks len few (fun i v hv => ?_) s.heap hk (gone _ (Nat.le_refl _)) (fun b hb => gone b (by rw [List.mem_singleton.mp hb, sz]; exact Nat.le_succ _))
    (by simp only [Around.in1_units]; omega) (items.size - 0) 0 _ (by omega) (Nat.zero_le _) ⟨⟨_, Heap.get?_push_size _ rfl, rfl, rfl⟩, (isl.push _)⟩ (fun b o e => Heap.get?_push_of_some _ (Heap.get?_push_of_some _ e))
    ⟨[], #[], 0, _, setN_new (Heap.get?_push_of_some _ hS), .refl _⟩ fun s' L es ep t mv S pm kp => ?_
  · have q : items.toList[i]? = some v := by rw [Array.getElem?_toList]; exact hv
    rw [hit, List.getElem?_map] at q
    obtain ⟨x, hx, e⟩ := Option.map_eq_some_iff.mp q
    exact ⟨x, hx, e.symm⟩
  · obtain ⟨h', g2, d', tk', os'⟩ := s'
    obtain rfl : g2 = s.gens := mv.gens
    obtain rfl : d' = s.drawn := mv.drawn
    obtain rfl : os' = s.os := mv.os
    show wpAny _ _ _ _ _ _
    refine wpAny_pure ?_
    show wpAny _ _ (ret .none) _ _ _
    exact wpAny_pure ⟨rfl, h', tk', L, es, ep, t, rfl, S, pm, kp⟩
set_option maxHeartbeats 3200000 in
theorem make_n {l : Addr} {items : Array Value} {ks : List α} {Q : Value → Shared → Prop} (hh : A.handled = none) (hl : s.heap.IsList l items) (hit : items.toList = ks.map fun x => Value.ref (W.a x)) (hk : ∀ x ∈ ks, MbOk s.heap (W.k x) (W.a x)) (few : (dd W ks).length < 63) (hu : A.units + 30 < cLine)
    (h : ∀ s2, FilledN W w s s2 ks → Q (.ref s.heap.objs.size) s2) : wpAny (model P w) A (call (.type "set") [.ref l]) Q E s := by
  obtain ⟨c, tl, g1⟩ := F.called_set.mro
  have g2 := F.called_set.made
  have g3 := F.called_set.sub
  refine wpAny_call (codeAny_of_tree (show wpAny _ _ (callAny (.type "set") _) _ _ _ from ?_))
  have g0 := Code.quiet_builtin (id := "type.__call__") ⟨[.type "set", .ref l], []⟩ (by decide +kernel)
  refine wpAny_pure ⟨g0, codeAny_builtin F.entry_type_call ?_⟩
  rw [Around.under_plain (weight_type_call_type _ _ _) rfl]
  have g4 := F.called_set.notType
  have g5 := F.called_set.canCreate
  have g6 := F.typeCall_set_1 (.ref l)
  repeat' first | assumption | wp_step
  refine codeAny_mono (code_set_led1 (.ref l) (E := E) (Q₁ := fun o t => o = .ref s.heap.objs.size ∧ t = { s with heap := ns1 w s.heap }) ⟨rfl, rfl⟩) fun r s1 hr => ?_
  cases r with
  | error e => exact hr
  | ok fl =>
    cases fl with
    | ret o =>
      obtain ⟨rfl, rfl⟩ := hr
      have hS : (ns1 w s.heap).get? s.heap.objs.size = some (ns0 w) := Heap.get?_push_size _ rfl
      have hT : Shared.TypeIs { s with heap := ns1 w s.heap } (.ref s.heap.objs.size) "set" := ⟨_, hS, rfl⟩
      have g7 := F.called_set.init.lookup
      have g8 := F.called_set.init.bind (.ref s.heap.objs.size)
      repeat' first | assumption | wp_step
      refine codeAny_mono (codeAny_call_builtin (R := wants (fun r s2 => r = Value.none ∧ FilledN W w s s2 ks) E) F.called_set.init.plain F.entry_set_init (check_set_init_1 hT (init_n (W := W) (by simp [hh]) hl hit hk few (by show A.units + 1 + 20 < cLine; omega)))) fun r2 s2 hr2 => ?_
      cases r2 with
      | error e => exact hr2
      | ok fl2 =>
        cases fl2 with
        | ret r =>
          obtain ⟨rfl, hf⟩ := hr2
          repeat' first | assumption | wp_step
          exact h _ hf
        | _ => exact hr2.elim
    | _ => exact hr.elim
end
end RE
set_option maxHeartbeats 4000000
namespace RE
open PySem PySem.Spec PyProof.Rows L2
section
variable {α : Type}
structure SetN0 (W : Vw α) (w : World) (h : Heap) (a : Addr) (L : List α) : Prop where
  ex : ∃ (es : Array (Int × Value)) (ep : Nat) (t : SetTable), (∃ o, h.get? a = some o ∧ o.ExactSet ∧ o.data = .set es ep t) ∧ es.toList = rowsN W w L ∧ TabOk t (L.map (hsN W w)) ∧ (L.map W.k).Nodup ∧ t.plain = true ∧ (w.params.followText "set-order" = true ∨ t.led = true) ∧ L.length * 5 < t.mask * 3 ∧ L.length < 64
def SetNO (W : Vw α) (w : World) (a : Addr) (L : List α) : HO := .ext fun h => SetN0 W w h a L
theorem SetN.n0 {W : Vw α} {w : World} {h : Heap} {a : Addr} {L : List α} {es : Array (Int × Value)} {ep : Nat} {t : SetTable} (S : SetN W w h a L es ep t) : SetN0 W w h a L := ⟨es, ep, t, S.obj, S.ent, S.tb, S.un, S.pl, S.ld, S.lo, S.lim⟩
theorem SetN0.whole {W : Vw α} {w : World} {h : Heap} {a : Addr} {L : List α} (S : SetN0 W w h a L) (m : ∀ x ∈ L, MbOk h (W.k x) (W.a x)) : ∃ es ep t, SetN W w h a L es ep t := by
  obtain ⟨es, ep, t, q1, q2, q3, q4, q5, q6, q7, q8⟩ := S.ex
  exact ⟨es, ep, t, q1, q2, q3, q4, m, q5, q6, q7, q8⟩
theorem setNO_at {W : Vw α} {P : Program} {w : World} {H : Hp} {h : Heap} {a : Addr} {L : List α} (S : SetN0 W w h a L) : ObjOk P w H h a (SetNO W w a L) := by
  have ⟨es, ep, t, ⟨o, ho, r⟩, q⟩ := S.ex
  refine ⟨S, ⟨o, ho⟩, fun h1 h2 p k => ?_⟩
  have ⟨es', ep', t', ⟨o', ho', r'⟩, q'⟩ := SetN0.ex p
  exact ⟨es', ep', t', ⟨o', k o' ho', r'⟩, q'⟩
theorem unmap_perm {β : Type} (f : α → β) : ∀ {l m : List β}, l.Perm m → ∀ L : List α, m = L.map f → ∃ M : List α, M.Perm L ∧ l = M.map f := by
  intro l m h
  induction h with
  | nil => exact fun L e => ⟨L, .refl _, e⟩
  | @cons x l m _ ih =>
    intro L e
    cases L with
    | nil => cases e
    | cons y L =>
      obtain ⟨e1, e2⟩ := List.cons.inj e
      obtain ⟨M, p, q⟩ := ih L e2
      exact ⟨y :: M, p.cons y, by rw [List.map_cons, ← q, e1]⟩
  | swap x y l =>
    intro L e
    match L, e with
    | u :: v :: L, e =>
      obtain ⟨e1, e2⟩ := List.cons.inj e
      obtain ⟨e3, e4⟩ := List.cons.inj e2
      exact ⟨v :: u :: L, .swap u v L, by rw [List.map_cons, List.map_cons, e1, e3, e4]⟩
  | trans _ _ ih1 ih2 =>
    intro L e
    obtain ⟨M, p, q⟩ := ih2 L e
    obtain ⟨M', p', q'⟩ := ih1 M q
    exact ⟨M', p'.trans p, q'⟩
end
section
variable {P : Program} {w : World} {A : Around} {E : Value → Shared → Prop} {s : Shared}
/-- sorted(v), whatever the walk of v leaves -/
theorem sorted_colC {v : Value} {C : List Value → Shared → Prop} {β : Type} {enc : β → PyData} {R : Value → β → Prop} {Q : Value → Shared → Prop} (hcol : ∀ Q' : List Value → Shared → Prop, (∀ vs s1, C vs s1 → Q' vs s1) → wpAny (model P w) A.in1 (collect v) Q' E s)
    (hC : ∀ vs s1, C vs s1 → ∃ bs : List β, vs.length ≤ sizeLine ∧ PySem.W.EachIs R vs bs ∧ PySem.W.EachIs (fun v b => ∃ as, Reads s1.heap v (enc b) as) vs bs ∧ PySem.W.AllAlike (bs.map enc) ∧ PySem.W.Sortable (bs.map enc) ∧ (∀ b, b ∈ bs → A.units + 2 + (enc b).depth < cLine) ∧
      ∀ out, out.length = bs.length → PySem.W.EachIs R out (bs.mergeSort (PySem.W.dataLe false enc)) → Q (.ref s1.heap.objs.size) { s1 with heap := sortedHeap (s1.heap.push (seqObj "list" vs.toArray 0)) s1.heap.objs.size vs (List.toArray out) }) :
    wpAny (model P w) A (call (.builtin "sorted") [v]) Q E s := by
  refine call_function_entry_kw kind_sorted plain_sorted entry_sorted (args_sorted1 _) ?_
  unfold Builtin.«sorted»
  refine wpAny_bind (m := checkCount "sorted" 1 1 _) (wpAny_pure ?_)
  refine wpAny_bind (hcol _ fun vs s1 hc => ?_)
  obtain ⟨bs, hL, e, er, hal, hk, hu, h⟩ := hC vs s1 hc
  refine wpAny_bind (wpAny_newList ?_ hL)
  have ho : (s1.heap.push (seqObj "list" vs.toArray 0)).get? s1.heap.objs.size = some (seqObj "list" vs.toArray 0) := Heap.get?_push_size _ rfl
  have old : ∀ b o, s1.heap.get? b = some o → (PySem.W.sortingHeap (s1.heap.push (seqObj "list" vs.toArray 0)) s1.heap.objs.size vs).get? b = some o := fun b o q =>
    PySem.W.sortingHeap_old (Nat.ne_of_lt (Heap.lt_size q)) (Heap.get?_push_of_some _ q)
  have er' : PySem.W.EachIs (fun v b => ∃ as, Reads (PySem.W.sortingHeap (s1.heap.push (seqObj "list" vs.toArray 0)) s1.heap.objs.size vs) v (enc b) as) vs bs := er.mono fun _ _ ⟨as, r⟩ => ⟨as, PyProof.Rows.Reads.keeps old r⟩
  refine wpAny_bind (wpAny_holding (wpAny_call_entry_kw slot_list_sort ⟨_, ho, rfl⟩ entry_list_sort ?body (args_list_sort _)))
  case body =>
    show wpAny (model P w) A.in1.in1 (Builtin.«list.sort» ⟨[.ref s1.heap.objs.size], []⟩) _ _ { s1 with heap := s1.heap.push (seqObj "list" vs.toArray 0) }
    refine PySem.W.list_sort_vals ho (PySem.W.SortsAt.data (s := { s1 with heap := PySem.W.sortingHeap (s1.heap.push (seqObj "list" vs.toArray 0)) s1.heap.objs.size vs }) (PySem.W.each_map (R := fun v d => ∃ as, Reads (PySem.W.sortingHeap (s1.heap.push (seqObj "list" vs.toArray 0)) s1.heap.objs.size vs) v d as) enc er') hal hk (PySem.W.bound_map hu)) hL ?_
    refine ⟨_, rfl, wpAny_pure ⟨_, rfl, h _ (by rw [PySem.W.sortVals_length false rfl]; exact e.length) (PySem.W.sortVals_data false e er' hal)⟩⟩
end
/-- an item: where it stands, its key, its datum, how it reads -/
abbrev Tn := Addr × NestedKey × D × PyData
abbrev WN : Vw Tn := ⟨fun t => t.1, fun t => t.2.1⟩
structure TnOk (g : G) (B : Addr → Prop) (H : Hp) (t : Tn) : Prop where
  rp : Rp g B H (.ref t.1) t.2.2.1
  nk : nkD t.2.2.1 = some t.2.1
  dp : t.2.1.depth ≤ 8
  pd : toP 20 t.2.2.1 = some t.2.2.2
def refsN (L : List Tn) : List V := L.map fun t => V.ref t.1
def rSetN (K : PySem.W.Frag) (w : World) : List V → Hp → VK → Prop := fun vs H Q => ∃ (g : G) (B : Addr → Prop) (l : Addr) (ts : List Tn), g.K = K ∧ vs = [V.ref l] ∧ SqL K H l (refsN ts) ∧ (∀ t ∈ ts, TnOk g B H t) ∧ (dd WN ts).length < 63 ∧
  ∀ p L, L.Perm (dd WN ts) → H p = none → Q (.ref p) (upd H p (SetNO WN w p L))
def rSortedN (K : PySem.W.Frag) (w : World) : List V → Hp → VK → Prop := fun vs H Q => ∃ (g : G) (B : Addr → Prop) (a : Addr) (L : List Tn), g.K = K ∧ vs = [V.ref a] ∧ H a = some (SetNO WN w a L) ∧ (∀ t ∈ L, TnOk g B H t) ∧ PySem.W.AllAlike (L.map (·.2.2.2)) ∧ PySem.W.Sortable (L.map (·.2.2.2)) ∧
  ∀ p M, M.Perm L → M.Pairwise (fun t u => PySem.W.dataLe false (fun t : Tn => t.2.2.2) t u = true) → H p = none → Q (.ref p) (upd H p (.lst (refsN M)))
section
variable {X : Cx}
theorem refs_vals : ∀ (L : List Tn), Vals (refsN L) (L.map fun t => Value.ref t.1)
  | [] => .nil
  | t :: L => .cons rfl (refs_vals L)
theorem vals_refs : ∀ {L : List Tn} {us : List Value}, Vals (refsN L) us → us = L.map fun t => Value.ref t.1
  | [], _, .nil => rfl
  | t :: L, _, .cons r q => by
    cases r
    rw [vals_refs q]
    rfl
theorem TnOk.mb {g : G} {B : Addr → Prop} {pins : List (Addr × Obj)} {σ : L2.St} {H : Hp} {s : Shared} {t : Tn} (h : TnOk g B H t) (I : Inv X pins σ H s) (hK : g.K = X.K) : MbOk s.heap (WN.k t) (WN.a t) :=
  ⟨nest_ok I hK.symm h.rp _ _ h.nk rfl, h.dp, nkD_free _ _ h.nk⟩
theorem cr_setN (hc : X.calm = true) (hu : X.A.units + 64 < cLine) : CallR X (.type "set") (rSetN X.K X.w) := by
  intro pq s σ H vs us Q I rs h
  obtain ⟨g, B, l, ts, hK, rfl, hs, ok, few, q⟩ := h
  obtain ⟨out, rv, il, _⟩ := I.list hs
  rw [Vals.ref1 rs]
  refine make_n (W := WN) (ks := ts) (I.ok.hd hc) il.isList (by rw [show out.toArray.toList = out by simp]; exact vals_refs rv) (fun t ht => (ok t ht).mb I hK) few (by omega) fun s2 hf => ?_
  obtain ⟨h', tk, L, es, ep, t, rfl, S, pm, old⟩ := hf
  exact ⟨.ref _, upd H s.heap.objs.size (SetNO WN X.w s.heap.objs.size L), I.laid (t' := tk) old (Nat.le_refl _) (setNO_at S.n0), rfl, q _ L pm (I.hok.fresh (Nat.le_refl _))⟩
theorem cr_sortedN (hc : X.calm = true) (hu : X.A.units + 64 < cLine) : CallR X (.builtin "sorted") (rSortedN X.K X.w) := by
  intro pq s σ H vs us Q I rs h
  obtain ⟨g, B, a, L, hK, rfl, ha, ok, hal, hk, q⟩ := h
  obtain ⟨es, ep, t, S⟩ := (show SetN0 WN X.w s.heap a L from (I.hok a _ ha).1).whole fun u hu' => (ok u hu').mb I hK
  obtain ⟨o, ho, hex, hd⟩ := S.obj
  have lim := S.lim
  rw [Vals.ref1 rs]
  refine sorted_colC (C := fun vs s1 => (∀ b o, s.heap.get? b = some o → s1.heap.get? b = some o) ∧ s.heap.objs.size ≤ s1.heap.objs.size ∧ s1.gens = s.gens ∧ s1.os = s.os ∧ vs.Perm (es.toList.map (·.2))) (enc := fun t : Tn => t.2.2.2) (R := fun v (t : Tn) => v = Value.ref t.1)
    (fun Q' q' => collect_set (A := X.A.in1) (I.ok.hd hc) ⟨o, ho, hex.1, hd⟩ S.fit (by rw [S.len]; unfold scanBound; omega) S.tb.ris S.ld fun s1 out k1 k2 k3 k4 k5 => q' out s1 ⟨k1, k2, k3, k4, k5⟩) fun vs s1 hC => ?_
  obtain ⟨k1, k2, k3, k4, k5⟩ := hC
  rw [S.ent, show (rowsN WN X.w L).map (·.2) = L.map fun t => Value.ref t.1 by unfold rowsN; rw [List.map_map]; rfl] at k5
  obtain ⟨bs, pm, rfl⟩ := unmap_perm _ k5 L rfl
  have inL : ∀ t ∈ bs, t ∈ L := fun t ht => pm.mem_iff.mp ht
  have each : ∀ {R : Value → Tn → Prop} (l : List Tn), (∀ t ∈ l, R (.ref t.1) t) → PySem.W.EachIs R (l.map fun t => Value.ref t.1) l := by
    intro R l
    induction l with
    | nil => exact fun _ => .nil
    | cons t l ih => exact fun z => .cons (z t List.mem_cons_self) (ih fun u hu' => z u (List.mem_cons_of_mem _ hu'))
  have pL : (bs.map fun t : Tn => t.2.2.2).Perm (L.map fun t => t.2.2.2) := pm.map _
  refine ⟨bs, by rw [List.length_map, pm.length_eq, sizeLine_eq]; omega, each bs fun t _ => rfl, each bs fun t ht => ?_, fun d hd d' hd' => hal d (pL.mem_iff.mp hd) d' (pL.mem_iff.mp hd'), hk.imp (fun z d hd => z d (pL.mem_iff.mp hd)) (fun z d hd => z d (pL.mem_iff.mp hd)), fun t ht => ?_, fun out hlen hout => ?_⟩
  · have z := ok t (inL t ht)
    obtain ⟨z1, _, _⟩ := toP_ok (g := g) 20 _ _ _ z.pd z.rp
    obtain ⟨as, r⟩ := Dp.reads I _ _ _ (by rw [← hK]; exact z1) (show RelV (.ref t.1) (.ref t.1) from rfl)
    exact ⟨as, PyProof.Rows.Reads.keeps k1 r⟩
  · have z := ok t (inL t ht)
    have := (toP_ok (g := g) 20 _ _ _ z.pd z.rp).2.2
    omega
  · have hs : out = (bs.mergeSort (PySem.W.dataLe false fun t : Tn => t.2.2.2)).map fun t => Value.ref t.1 := by
      have go : ∀ {us : List Value} {l : List Tn}, PySem.W.EachIs (fun v (t : Tn) => v = Value.ref t.1) us l → us = l.map fun t => Value.ref t.1 := by
        intro us l z
        induction z with
        | nil => rfl
        | cons e _ ih => rw [e, ih]; rfl
      exact go hout
    generalize hM : bs.mergeSort (PySem.W.dataLe false fun t : Tn => t.2.2.2) = M at hs
    have pM : M.Perm L := by rw [← hM]; exact (List.mergeSort_perm _ _).trans pm
    have sM : M.Pairwise (fun t u => PySem.W.dataLe false (fun t : Tn => t.2.2.2) t u = true) := by
      have T : PySem.W.TotalLe (PySem.W.dataLe false fun t : Tn => t.2.2.2) := PySem.W.sortLe_total _ false _
      rw [← hM]
      exact List.pairwise_mergeSort T.trans (fun a b => by rcases T.total a b with z | z <;> simp [z]) _
    have hoL : (s1.heap.push (seqObj "list" (bs.map fun t => Value.ref t.1).toArray 0)).get? s1.heap.objs.size = some (seqObj "list" (bs.map fun t => Value.ref t.1).toArray 0) := Heap.get?_push_size _ rfl
    obtain ⟨c, hg⟩ := sortedHeap_at (vs := bs.map fun t => Value.ref t.1) (out := out.toArray) hoL
    have old : ∀ b u, s.heap.get? b = some u → (sortedHeap (s1.heap.push (seqObj "list" (bs.map fun t => Value.ref t.1).toArray 0)) s1.heap.objs.size (bs.map fun t => Value.ref t.1) out.toArray).get? b = some u := fun b u e => by
      have e1 := k1 b u e
      have lt := Heap.lt_size e1
      rw [sortedHeap_old (Nat.ne_of_lt lt) (by rw [size_push']; exact Nat.lt_succ_of_lt lt)]
      exact Heap.get?_push_of_some _ e1
    have hn : H s1.heap.objs.size = none := I.hok.fresh k2
    have hv : Vals (refsN M) out := by rw [hs]; exact refs_vals M
    have hz : (refsN M).length ≤ sizeLine := by rw [refsN, List.length_map, pM.length_eq, sizeLine_eq]; omega
    have J : Inv X pq σ (upd H s1.heap.objs.size (.lst (refsN M))) { s with heap := sortedHeap (s1.heap.push (seqObj "list" (bs.map fun t => Value.ref t.1).toArray 0)) s1.heap.objs.size (bs.map fun t => Value.ref t.1) out.toArray, gens := s1.gens, drawn := s1.drawn, toks := s1.toks } :=
      I.call (ch := []) (Un.laid old k2 hn) (I.hok.laid old k2 ⟨hz, out, c, hv, hg⟩) (by rw [k3]; exact I.bare) (fun _ z => nomatch z)
    refine ⟨.ref s1.heap.objs.size, _, ?_, rfl, q _ M pM sM hn⟩
    obtain ⟨hp1, gn1, dr1, tk1, os1⟩ := s1
    obtain rfl : os1 = s.os := k4
    exact J
end
end RE
namespace RE
open PySem PySem.Spec PyProof.Rows L2
theorem dd_map {α β : Type} {U : Vw α} {V : Vw β} (f : α → β) (hk : ∀ x, V.k (f x) = U.k x) (l : List α) : (dd U l).map f = dd V (l.map f) := by
  have go : ∀ (l acc : List α), (l.foldl (ddS U) acc).map f = (l.map f).foldl (ddS V) (acc.map f) := by
    intro l
    induction l with
    | nil => intro acc; rfl
    | cons x l ih =>
      intro acc
      show (l.foldl (ddS U) (ddS U acc x)).map f = (l.map f).foldl (ddS V) (ddS V (acc.map f) (f x))
      rw [ih]
      congr 1
      unfold ddS
      have e : (acc.map f).map V.k = acc.map U.k := by rw [List.map_map]; exact List.map_congr_left fun y _ => hk y
      rw [e, hk]
      split
      · rfl
      · rw [List.map_append]; rfl
  exact go l []
/-- without the places -/
abbrev Td := NestedKey × D × PyData
abbrev WD : Vw Td := ⟨fun _ => 0, fun t => t.1⟩
def leT (a b : Td) : Bool := !PySem.W.dataLt b.2.2 a.2.2
def strictT : List Td → Bool
  | [] => true
  | x :: xs => xs.all (fun y => !leT y x) && strictT xs
def tdOf (d : D) : Option Td := match nkD d, toP 20 d with
  | some (.tup ks), some p => if (NestedKey.tup ks).depth ≤ 8 then some (.tup ks, d, p) else none
  | _, _ => none
def sortSetND : List D → Option D
  | [.lst ds] => match mapO tdOf ds with
    | some ts =>
      let us := dd WD ts
      let ps := us.map (·.2.2)
      let ss := sortL leT us
      if us.length < 63 ∧ (ps.all fun p => ps.all fun q => PySem.W.alike p q) = true ∧ (ps.all shapeB = true ∨ ps.all plainB = true) ∧ strictT ss = true then some (.lst (ss.map (·.2.1))) else none
    | none => none
  | _ => none
theorem strict_pw : ∀ {l : List Td}, strictT l = true → l.Pairwise (fun x y => leT y x = false)
  | [], _ => .nil
  | x :: xs, h => by
    have h : (xs.all (fun y => !leT y x) && strictT xs) = true := h
    obtain ⟨h1, h2⟩ := Bool.and_eq_true_iff.mp h
    refine List.pairwise_cons.mpr ⟨fun y hy => ?_, strict_pw h2⟩
    have := List.all_eq_true.mp h1 y hy
    simpa using this
theorem pw_cases {β : Type} {R : β → β → Prop} : ∀ {l : List β}, l.Pairwise R → ∀ {a b : β}, a ∈ l → b ∈ l → a = b ∨ R a b ∨ R b a
  | _ :: _, h, a, b, ha, hb => by
    obtain ⟨h1, h2⟩ := List.pairwise_cons.mp h
    rcases List.mem_cons.mp ha with e | ha <;> rcases List.mem_cons.mp hb with e' | hb
    · exact .inl (e.trans e'.symm)
    · rw [e]; exact .inr (.inl (h1 _ hb))
    · rw [e']; exact .inr (.inr (h1 _ ha))
    · exact pw_cases h2 ha hb
theorem tdOf_ok {d : D} {t : Td} (h : tdOf d = some t) : t.2.1 = d ∧ nkD d = some t.1 ∧ toP 20 d = some t.2.2 ∧ t.1.depth ≤ 8 ∧ ((∃ ds, d = .tup ds) ∨ ∃ ds, d = .kt ds) := by
  unfold tdOf at h
  split at h
  · rename_i ks p e1 e2
    split at h
    · rename_i hd
      cases Option.some.inj h
      refine ⟨rfl, e1, e2, hd, ?_⟩
      cases d with
      | tup ds => exact .inl ⟨ds, rfl⟩
      | kt ds => exact .inr ⟨ds, rfl⟩
      | int i => cases e1
      | bl b => cases e1
      | _ => cases e1
    · cases h
  · cases h
/-- the items, with their places -/
theorem tn_all {g : G} {B : Addr → Prop} {H : Hp} : ∀ {ds : List D} {ts : List Td} {ys : List V}, mapO tdOf ds = some ts → RpA g B H ys ds → ∃ us : List Tn, ys = refsN us ∧ us.map (fun t => t.2) = ts ∧ ∀ t ∈ us, TnOk g B H t
  | [], ts, ys, h, r => by
    cases Option.some.inj h
    exact ⟨[], r.cases_nil, rfl, fun _ z => nomatch z⟩
  | d :: ds, ts, ys, h, r => by
    obtain ⟨y, zs, rfl, ry, rz⟩ := r.cases_cons
    unfold mapO at h
    cases e1 : tdOf d with
    | none => simp only [e1] at h; cases h
    | some t =>
      simp only [e1] at h
      cases e2 : mapO tdOf ds with
      | none => simp only [e2] at h; cases h
      | some ts' =>
        simp only [e2] at h
        cases Option.some.inj h
        obtain ⟨us, rfl, q2, q3⟩ := tn_all e2 rz
        obtain ⟨k1, k2, k3, k4, k5⟩ := tdOf_ok e1
        obtain ⟨a, rfl⟩ : ∃ a, y = V.ref a := by
          rcases k5 with ⟨es, rfl⟩ | ⟨es, rfl⟩
          · obtain ⟨a, _, rfl, _⟩ := ry.inv_tup; exact ⟨a, rfl⟩
          · obtain ⟨a, _, rfl, _⟩ := ry.inv_kt; exact ⟨a, rfl⟩
        refine ⟨(a, t) :: us, rfl, by rw [List.map_cons, q2], fun u hu => ?_⟩
        rcases List.mem_cons.mp hu with e | hu
        · rw [e]
          exact ⟨by show Rp g B H (.ref a) t.2.1; rw [k1]; exact ry, by show nkD t.2.1 = _; rw [k1]; exact k2, k4, by show toP 20 t.2.1 = _; rw [k1]; exact k3⟩
        · exact q3 u hu
def rSortSetN (K : PySem.W.Frag) (w : World) : List V → Hp → VK → Prop := fun vs H Q => rSetN K w vs H fun v H1 => rSortedN K w [v] H1 Q
theorem rop_sortSetN {g : G} {w : World} : ROpN g (rSortSetN g.K w) sortSetND := by
  intro ρ σ st H xs ds d Q e s rs k
  unfold sortSetND at e
  split at e
  case h_2 => cases e
  rename_i es
  obtain ⟨v, rfl, r⟩ := rs.one
  obtain ⟨a, ys, rfl, ha, _, ra⟩ := r.inv_lst
  cases em : mapO tdOf es with
  | none => simp only [em] at e; cases e
  | some ts =>
    simp only [em] at e
    split at e
    case isFalse => cases e
    rename_i hc
    obtain ⟨c1, c2, c3, c4⟩ := hc
    cases Option.some.inj e
    obtain ⟨us, rfl, hu, ok⟩ := tn_all em ra
    have hdd : (dd WN us).map (fun t => t.2) = dd WD ts := by rw [dd_map (U := WN) (V := WD) (fun t => t.2) (fun _ => rfl), hu]
    have hlen : (dd WN us).length < 63 := by
      have := congrArg List.length hdd
      rw [List.length_map] at this
      omega
    refine ⟨g, Vol ρ st, a, us, rfl, rfl, SqL.of ha, ok, hlen, fun p L pm hp => ?_⟩
    have xe := Ext.new (o := SetNO WN w p L) s hp
    have s1 := s.new (o := SetNO WN w p L) hp
    have inU : ∀ t ∈ L, t ∈ us := fun t ht => dd_mem (pm.mem_iff.mp ht)
    have pP : (L.map (·.2.2.2)).Perm ((dd WD ts).map (·.2.2)) := by
      rw [← hdd, List.map_map]
      exact pm.map _
    refine ⟨g, Vol ρ st, p, L, rfl, rfl, upd_same, fun t ht => ?_, fun x hx y hy => List.all_eq_true.mp (List.all_eq_true.mp c2 x (pP.mem_iff.mp hx)) y (pP.mem_iff.mp hy), ?_, fun q M pM sM hq => ?_⟩
    · obtain ⟨z1, z2, z3, z4⟩ := ok t (inU t ht)
      exact ⟨z1.go xe, z2, z3, z4⟩
    · rcases c3 with c3 | c3
      · refine .inl fun x hx => ?_
        have h := List.all_eq_true.mp c3 x (pP.mem_iff.mp hx)
        unfold shapeB at h
        split at h
        · exact ⟨_, _, rfl⟩
        · cases h
      · refine .inr fun x hx => ?_
        have h := List.all_eq_true.mp c3 x (pP.mem_iff.mp hx)
        exact ⟨fun z => (by rw [z] at h; cases h), fun xs z => by rw [z] at h; cases h⟩
    · have T : PySem.W.TotalLe leT := by
        have h : PySem.W.TotalLe (PySem.W.dataLe false fun b : Td => b.2.2) := PySem.W.sortLe_total _ false _
        exact h
      have e1 : M.map (fun t => t.2) = sortL leT (dd WD ts) := by
        have st' := strict_pw c4
        have pm1 : (M.map (fun t => t.2)).Perm (sortL leT (dd WD ts)) := by
          rw [sortL_is T, ← hdd]
          exact ((pM.trans pm).map _).trans (List.mergeSort_perm _ _).symm
        refine List.Perm.eq_of_pairwise (le := fun x y => leT x y = true) (fun x y hx hy h1 h2 => ?_) ?_ ?_ pm1
        · rcases pw_cases st' (pm1.mem_iff.mp hx) hy with z | z | z
          · exact z
          · rw [h2] at z; cases z
          · rw [h1] at z; cases z
        · exact List.pairwise_map.mpr sM
        · rw [sortL_is T]
          exact List.pairwise_mergeSort T.trans (fun a b => by rcases T.total a b with z | z <;> simp [z]) _
      have rr : RpA g (Vol ρ st) (upd H p (SetNO WN w p L)) (refsN M) ((sortL leT (dd WD ts)).map (·.2.1)) := by
        rw [← e1, List.map_map]
        refine rpA_map _ _ fun t ht => ?_
        exact (ok t (inU t (pM.mem_iff.mp ht))).rp.go xe
      exact fresh_lst s1 rr (fun ρ' H' v e' s' r' => k ρ' H' v (xe.trans e') s' r') q hq
section
variable {X : Cx} {g : G} {ER : EK} {pos pos1 p p1 : Pos} {e : Expr} {m : M}
/-- sorted(set(e)) of tuples -/
theorem pe_mSortSetN (hK : g.K = X.K) (hc : X.calm = true) (hu : X.A.units + 64 < cLine) (hg : Gl X "sorted") (hm : X.mg "sorted" = none) (hg1 : Gl X "set") (hm1 : X.mg "set" = none) (ha : PE X e (tM g ER m))
    (h1 : starEach [.Call (.Name "set" p1) [e] [] pos1] X.env = (false, eval (.Call (.Name "set" p1) [e] [] pos1) X.env) :: starEach [] X.env := by rfl)
    (h2 : starEach [e] X.env = (false, eval e X.env) :: starEach [] X.env := by rfl) :
    PE X (.Call (.Name "sorted" p) [.Call (.Name "set" p1) [e] [] pos1] [] pos) (tM g ER (mFun sortSetND (mCons m mNil))) :=
  PEi (pe_callB (cr_sortedN hc hu) hg hm (by decide +kernel) (pa_cons (pe_callTy (cr_setN hc hu) hg1 hm1 (by decide +kernel) (pa_mCons ha pa_mNil h2) (by decide) (by decide) h2 (by rfl)) pa_nil h1) (by decide) (by decide) h1 (by rfl))
    fun _ _ _ h => hK ▸ tM_fun (rop_sortSetN (w := X.w)) h
end
end RE
set_option maxHeartbeats 4000000
namespace RE
open PySem PySem.Spec PyProof.Rows L2
def putNx (xs : List (NestedKey × Addr × V)) (k : NestedKey) (b : Addr) (v : V) : List (NestedKey × Addr × V) := if (xs.any fun x => decide (x.1 = k)) = true then xs.map (fun x => if x.1 = k then (x.1, x.2.1, v) else x) else xs ++ [(k, b, v)]
def putND (ds : List (D × D)) (kd : D) (k : NestedKey) (d : D) : List (D × D) := if (valNd ds k).isSome = true then ds.map (fun e => if nkD e.1 = some k then (e.1, d) else e) else ds ++ [(kd, d)]
theorem any_val {k : NestedKey} : ∀ {xs : List (NestedKey × Addr × V)} {ds : List (D × D)}, xs.map (fun x => some x.1) = ds.map (fun d => nkD d.1) → (xs.any fun x => decide (x.1 = k)) = (valNd ds k).isSome
  | [], [], _ => rfl
  | [], _ :: _, e => by simp at e
  | _ :: _, [], e => by simp at e
  | (kx, b, x) :: xs, (kd, d) :: ds, e => by
    simp only [List.map_cons, List.cons.injEq] at e
    obtain ⟨e1, e2⟩ := e
    by_cases h : kx = k
    · have : nkD kd = some k := by rw [← e1, h]
      simp [valNd, h, this]
    · have : ¬ nkD kd = some k := fun z => h (Option.some.inj (e1.trans z))
      simpa [valNd, h, this] using any_val (k := k) e2
section
variable {g : G} {A : Addr → Prop} {H : Hp}
theorem putNd_ok {xs : List (NestedKey × Addr × V)} {ds : List (D × D)} {kd d : D} {k : NestedKey} {b : Addr} {v : V} (e : xs.map (fun x => some x.1) = ds.map (fun d => nkD d.1)) (rk : RpA g A H (xs.map fun x => V.ref x.2.1) (ds.map (·.1))) (rd : RpA g A H (xs.map (·.2.2)) (ds.map (·.2)))
    (ek : nkD kd = some k) (ru : Rp g A H (.ref b) kd) (rv : Rp g A H v d) : (putNx xs k b v).map (fun x => some x.1) = (putND ds kd k d).map (fun d => nkD d.1) ∧ RpA g A H ((putNx xs k b v).map fun x => V.ref x.2.1) ((putND ds kd k d).map (·.1)) ∧ RpA g A H ((putNx xs k b v).map (·.2.2)) ((putND ds kd k d).map (·.2)) := by
  unfold putNx putND
  rw [any_val e]
  split
  · have go : ∀ {xs : List (NestedKey × Addr × V)} {ds : List (D × D)}, xs.map (fun x => some x.1) = ds.map (fun d => nkD d.1) → RpA g A H (xs.map fun x => V.ref x.2.1) (ds.map (·.1)) → RpA g A H (xs.map (·.2.2)) (ds.map (·.2)) →
        (xs.map fun x => if x.1 = k then (x.1, x.2.1, v) else x).map (fun x => some x.1) = (ds.map fun e => if nkD e.1 = some k then (e.1, d) else e).map (fun d => nkD d.1) ∧ RpA g A H ((xs.map fun x => if x.1 = k then (x.1, x.2.1, v) else x).map fun x => V.ref x.2.1) ((ds.map fun e => if nkD e.1 = some k then (e.1, d) else e).map (·.1)) ∧
          RpA g A H ((xs.map fun x => if x.1 = k then (x.1, x.2.1, v) else x).map (·.2.2)) ((ds.map fun e => if nkD e.1 = some k then (e.1, d) else e).map (·.2)) := by
      intro xs
      induction xs with
      | nil =>
        intro ds e _ _
        cases ds with
        | nil => exact ⟨rfl, RpA.nil, RpA.nil⟩
        | cons _ _ => simp at e
      | cons x xs ih =>
        intro ds e rk rd
        cases ds with
        | nil => simp at e
        | cons y ds =>
          simp only [List.map_cons, List.cons.injEq] at e
          obtain ⟨e1, e2⟩ := e
          obtain ⟨q1, q2, q3⟩ := ih e2 rk.uncons.2 rd.uncons.2
          simp only [List.map_cons]
          by_cases c : x.1 = k
          · have c' : nkD y.1 = some k := by rw [← e1, c]
            rw [if_pos c, if_pos c']
            exact ⟨by rw [q1, e1], RpA.cons rk.uncons.1 q2, RpA.cons rv q3⟩
          · have c' : ¬ nkD y.1 = some k := fun z => c (Option.some.inj (e1.trans z))
            rw [if_neg c, if_neg c']
            exact ⟨by rw [q1, e1], RpA.cons rk.uncons.1 q2, RpA.cons rd.uncons.1 q3⟩
    exact go e rk rd
  · simp only [List.map_append]
    refine ⟨?_, rk.append (RpA.cons ru RpA.nil), rd.append (RpA.cons rv RpA.nil)⟩
    rw [e]
    show _ ++ [some k] = _ ++ [nkD kd]
    rw [ek]
end
end RE
set_option maxHeartbeats 4000000
namespace RE
open PySem PySem.Spec PyProof.Rows L2
structure GrowN (g : G) (ρ0 : Rh) (st0 : S) (H0 : Hp) (σ : L2.St) (p : Addr) (ρ : Rh) (ce : List Ce) (H : Hp) (acc : List (NestedKey × Addr × V)) (ds : List (D × D)) : Prop where
  ext : Ext ρ0 st0 H0 (ρ.lev ρ0.U) (st0.with ce) H
  u : ρ.U = (ρ0.ent p).U
  sim : Sim g ρ σ H (st0.with ce)
  at' : H p = some (NdO p acc)
  ks : acc.map (fun x => some x.1) = ds.map (fun d => nkD d.1)
  rk : RpA g (Vol ρ (st0.with ce)) H (acc.map fun x => V.ref x.2.1) (ds.map (·.1))
  rp : RpA g (Vol ρ (st0.with ce)) H (acc.map (·.2.2)) (ds.map (·.2))
section
variable {g : G} {ER : EK} {ρ0 ρ ρ' : Rh} {st0 st' : S} {H0 H H' : Hp} {σ σ' : L2.St} {p : Addr} {ce : List Ce} {acc : List (NestedKey × Addr × V)} {ds : List (D × D)}
theorem ndo_nt (p : Addr) (xs : List (NestedKey × Addr × V)) : NT (NdO p xs) := fun _ z => by cases z
theorem GrowN.zero (s : Sim g ρ0 σ H0 st0) (hp : H0 p = none) : GrowN g ρ0 st0 H0 σ p (ρ0.ent p) st0.ce (upd H0 p (NdO p [])) [] [] where
  ext := Ext.zero hp s.uo
  u := rfl
  sim := s.ent hp (ndo_nt _ _)
  at' := upd_same
  ks := rfl
  rk := RpA.nil
  rp := RpA.nil
theorem GrowN.go (G : GrowN g ρ0 st0 H0 σ p ρ ce H acc ds) (h0 : H0 p = none) {stw : S} (hw : stw.ce = ce) (e : Ext ρ stw H ρ' st' H') (c : Cells g ρ' H' st') : GrowN g ρ0 st0 H0 σ p ρ' st'.ce H' acc ds where
  ext := Ext.step_lev G.ext G.u h0 (e.with hw)
  u := e.same.trans G.u
  sim := G.sim.back (e.with hw) c
  at' := by rw [e.un p (by rw [G.u]; exact .inr rfl)]; exact G.at'
  ks := G.ks
  rk := G.rk.go (e.with hw)
  rp := G.rp.go (e.with hw)
theorem GrowN.push (G : GrowN g ρ0 st0 H0 σ p ρ ce H acc ds) (h0 : H0 p = none) (su : ∀ a, ρ0.U a → ∃ u, H0 a = some u) {k : NestedKey} {kd : D} {b : Addr} {v : V} {d : D} (ek : nkD kd = some k) (ru : Rp g (Vol ρ (st0.with ce)) H (.ref b) kd) (r : Rp g (Vol ρ (st0.with ce)) H v d) :
    GrowN g ρ0 st0 H0 σ p ρ ce (upd H p (NdO p (putNx acc k b v))) (putNx acc k b v) (putND ds kd k d) := by
  obtain ⟨p1, p2, p3⟩ := putNd_ok (b := b) (v := v) G.ks G.rk G.rp ek ru r
  have up : ρ.U p := by rw [G.u]; exact .inr rfl
  exact ⟨Ext.touch G.ext h0 su, G.u, G.sim.touch up (ndo_nt _ _), upd_same, p1, p2.ext (keep_touch up), p3.ext (keep_touch up)⟩
theorem GrowN.kp (Gr : GrowN g ρ0 st0 H0 σ p ρ ce H acc ds) (hp : H0 p = none) : ∀ a o, H0 a = some o → ¬ Vol ρ0 st0 a → H a = some o ∧ ¬ Vol ρ (st0.with ce) a := fun a o h n => by
  obtain ⟨h1, n1⟩ := Gr.ext.keep a o h n
  refine ⟨h1, fun v => ?_⟩
  rcases v with v | v
  · rw [Gr.u] at v
    rcases v with v | v
    · exact n1 (.inl v)
    · rw [v, hp] at h; cases h
  · exact n1 (.inr v)
theorem GrowN.cell {i : Nat} {c : Ce} (Gr : GrowN g ρ0 st0 H0 σ p ρ ce H acc ds) (h0 : H0 p = none) (su : ∀ a, ρ0.U a → ∃ u, H0 a = some u)
    (hc : ∀ (A : Addr → Prop) (ad : List Addr), (∀ a o, H a = some o → ¬ Vol ρ (st0.with ce) a → H a = some o ∧ ¬ A a) → CeOk g A ad H p c) :
    Ext ρ0 st0 H0 ((ρ.lev ρ0.U).addC p) ((st0.with ce).addC i c) H ∧ Sim g ((ρ.lev ρ0.U).addC p) (σ.set i (some (.ref p))) H ((st0.with ce).addC i c) := by
  have hU : ∀ a, ρ0.U a → ρ.U a := fun a h => by rw [Gr.u]; exact .inl h
  have up : ρ.U p := by rw [Gr.u]; exact .inr rfl
  have s := Gr.sim
  have cl : (ρ.lev ρ0.U).ad.length = (st0.with ce).ce.length := s.clen
  have sub : ∀ b, Vol ((ρ.lev ρ0.U).addC p) ((st0.with ce).addC i c) b → Vol ρ (st0.with ce) b := fun b v => by
    rcases vol_addC cl v with v | v
    · exact vol_lev hU v
    · rw [v]; exact .inl up
  have kp : ∀ a o, H a = some o → ¬ Vol ρ (st0.with ce) a → H a = some o ∧ ¬ Vol ((ρ.lev ρ0.U).addC p) ((st0.with ce).addC i c) a := fun a o h n => ⟨h, fun v => n (sub a v)⟩
  have pre : ∀ (k : Nat) b, ρ.ad[k]? = some b → (ρ.ad ++ [p])[k]? = some b := fun k b h => by
    obtain ⟨hk, _⟩ := List.getElem?_eq_some_iff.mp h
    rw [List.getElem?_append_left hk]; exact h
  have part : ∀ (m : Nat) (c3 : Ce) (b : Addr), ((st0.with ce).ce ++ [c])[m]? = some c3 → (ρ.ad ++ [p])[m]? = some b → ((st0.with ce).ce[m]? = some c3 ∧ ρ.ad[m]? = some b) ∨ (m = (st0.with ce).ce.length ∧ b = p ∧ c3 = c) := fun m c3 b q1 q2 => by
    by_cases hj : m < (st0.with ce).ce.length
    · rw [List.getElem?_append_left hj] at q1
      rw [List.getElem?_append_left (by rw [s.clen]; exact hj)] at q2
      exact .inl ⟨q1, q2⟩
    · rw [List.getElem?_append_right (by omega)] at q1
      rw [List.getElem?_append_right (by rw [s.clen]; omega), s.clen] at q2
      cases e : m - (st0.with ce).ce.length with
      | zero => rw [e] at q1 q2; exact .inr ⟨by omega, (Option.some.inj q2).symm, (Option.some.inj q1).symm⟩
      | succ n => rw [e] at q1; simp at q1
  refine ⟨⟨fun a o h n => ?_, fun k b h => ?_, rfl, Gr.ext.un, fun a v => ?_, Gr.ext.mono⟩, ⟨⟨fun a h => s.uok a (hU a h), ?_, fun j c' b h1 h2 => ?_, fun j l c1 c2 b h1 h2 a1 a2 e1 e2 => ?_, fun j c' b h1 ha h2 v => ?_⟩, ?_, fun j sl v h1 h2 => ?_⟩⟩
  · obtain ⟨q1, q2⟩ := Gr.ext.keep a o h n
    refine ⟨q1, fun v => ?_⟩
    rcases vol_addC cl v with v | v
    · exact q2 v
    · rw [v, h0] at h; cases h
  · exact pre k b (Gr.ext.pre k b h)
  · rcases vol_addC cl v with v | v
    · exact Gr.ext.more a v
    · right; rw [v]; exact h0
  · show (ρ.ad ++ [p]).length = ((st0.with ce).ce ++ [c]).length
    rw [List.length_append, List.length_append, s.clen]; rfl
  · rcases part j c' b h1 h2 with ⟨q1, q2⟩ | ⟨_, q2, q3⟩
    · exact (s.cell j c' b q1 q2).ext rfl kp pre
    · rw [q2, q3]; exact hc _ _ kp
  · rcases part j c1 b h1 e1 with ⟨q1, q2⟩ | ⟨q1, q2, _⟩
    · rcases part l c2 b h2 e2 with ⟨r1, r2⟩ | ⟨_, r2, _⟩
      · exact s.inj j l c1 c2 b q1 r1 a1 a2 q2 r2
      · rw [r2] at q2; exact absurd up (s.out j c1 p q1 a1 q2)
    · rcases part l c2 b h2 e2 with ⟨r1, r2⟩ | ⟨r1, _, _⟩
      · rw [q2] at r2; exact absurd up (s.out l c2 p r1 a2 r2)
      · rw [q1, r1]
  · rcases part j c' b h1 h2 with ⟨q1, q2⟩ | ⟨_, q2, _⟩
    · exact s.out j c' b q1 ha q2 (hU b v)
    · obtain ⟨u, hu⟩ := su b v
      rw [q2, h0] at hu; cases hu
  · show (σ.set i _).length = ((st0.with ce).sl.set i _).length
    rw [List.length_set, List.length_set]; exact s.len
  · have h1 : ((st0.with ce).sl.set i (.rf (st0.with ce).ce.length))[j]? = some sl := h1
    rw [List.getElem?_set] at h1 h2
    by_cases e : i = j
    · rw [if_pos e] at h1 h2
      split at h1
      · split at h2
        · cases Option.some.inj h1
          cases Option.some.inj h2
          refine ⟨p, rfl, ?_⟩
          show (ρ.ad ++ [p])[(st0.with ce).ce.length]? = _
          rw [List.getElem?_append_right (by rw [s.clen]; exact Nat.le_refl _), s.clen, Nat.sub_self]; rfl
        · cases h2
      · cases h1
    · rw [if_neg e] at h1 h2
      exact (s.slot j sl v h1 h2).ext kp pre
end
end RE
set_option maxHeartbeats 4000000
namespace RE
open PySem PySem.Spec PyProof.Rows L2
end RE
set_option maxHeartbeats 4000000
namespace RE
open PySem PySem.Spec PyProof.Rows L2
section
variable {prog : Program} {w : World} {A : Around} {E : Value → Shared → Prop} {s : Shared} {z TI TO i1 i2 l1 l2 d : Addr} {xs ys : Array Value}
/-- pairs that were made: at Ts, of the first items -/
def Made (b : Nat) (h : Heap) (xs ys : Array Value) (Ts : List Addr) : Prop := Ts.Nodup ∧ ∀ (j : Nat) T, Ts[j]? = some T → b ≤ T ∧ ∃ x y, xs[j]? = some x ∧ ys[j]? = some y ∧ IsPair h T x y
theorem Made.go {b : Nat} {h h' : Heap} {Ts : List Addr} (m : Made b h xs ys Ts) (k : ∀ c o, b ≤ c → h.get? c = some o → h'.get? c = some o) : Made b h' xs ys Ts :=
  ⟨m.1, fun j T e => by obtain ⟨q, x, y, e1, e2, p⟩ := m.2 j T e; exact ⟨q, x, y, e1, e2, k _ _ q p⟩⟩
end
end RE
set_option maxHeartbeats 4000000
namespace RE
open PySem PySem.Spec PyProof.Rows L2
end RE
namespace RE
open PySem PySem.Spec PyProof.Rows L2
end RE
set_option maxHeartbeats 4000000
namespace RE
open PySem PySem.Spec PyProof.Rows L2
end RE
set_option maxHeartbeats 4000000
namespace RE
open PySem PySem.Spec PyProof.Rows L2
end RE
set_option maxHeartbeats 4000000
namespace RE
open PySem PySem.Spec PyProof.Rows L2
end RE
set_option maxHeartbeats 4000000
namespace RE
open PySem PySem.Spec PyProof.Rows L2
end RE
set_option maxHeartbeats 4000000
namespace RE
open PySem PySem.Spec PyProof.Rows L2
end RE
set_option maxHeartbeats 4000000
namespace RE
open PySem PySem.Spec PyProof.Rows L2
end RE
set_option maxHeartbeats 4000000
namespace RE
open PySem PySem.Spec PyProof.Rows L2
end RE
set_option maxHeartbeats 4000000
namespace RE
open PySem PySem.Spec PyProof.Rows L2
end RE
set_option maxHeartbeats 4000000
namespace RE
open PySem PySem.Spec PyProof.Rows L2
end RE
set_option maxHeartbeats 4000000
namespace RE
open PySem PySem.Spec PyProof.Rows L2
def minD2 : List D → Option D
  | [.int i, .int j] => some (.int (if j < i then j else i))
  | _ => none
def rMin2i : List V → Hp → VK → Prop := fun xs H Q => ∃ i j, xs = [.int i, .int j] ∧ Q (.int (if j < i then j else i)) H
theorem cr_min2 {X : Cx} (hc : X.calm = true) : CallR X (.builtin "min") rMin2i := call_min2 hc
theorem rop_min2 {g : G} : ROpN g rMin2i minD2 := by
  intro ρ σ st H xs ds d Q e s rs k
  unfold minD2 at e
  split at e
  · rename_i i j
    obtain ⟨u, v, rfl, r1, r2⟩ := rs.two
    cases Option.some.inj e
    cases r1.inv_int
    cases r2.inv_int
    exact ⟨i, j, rfl, k ρ H _ Ext.refl s (.int _)⟩
  · cases e
end RE
set_option maxHeartbeats 4000000
namespace RE
open PySem PySem.Spec PyProof.Rows L2
/-- items: data, new cells -/
abbrev MX := S → O (List Sl)
def tMX (g : G) (ER : EK) (m : MX) : TA := fun σ H Q => ∃ ρ st, Sim g ρ σ H st ∧ OutC ER ρ st H (m st) fun ss st' ρ' H' => Sim g ρ' σ H' st' → ∀ vs, SlA g (Vol ρ' st') ρ'.ad H' vs ss → Q vs H'
def xNil : MX := fun st => .ok [] st
def xNew (c : Ce) (r : MX) : MX := fun st => bindO (r (st.addC st.sl.length c)) fun ss st2 => .ok (.rf st.ce.length :: ss) st2
def putsX : List Nat → List Sl → S → Option S
  | [], [], st => some st
  | i :: is, s :: ss, st => putsX is ss (st.put i s)
  | _, _, _ => none
section
variable {X : Cx} {g : G} {ER : EK} {pos : Pos}
theorem px_nil : PA X [] (tMX g ER xNil) := PAi pa_nil fun σ H Q ⟨ρ, st, s, h⟩ => h ρ H Ext.refl s [] SlA.nil
theorem px_new {e : Expr} {es : List Expr} {o0 : HO} {c0 : Ce} {r : MX} (nc : NewC o0 c0) (ha : PE X e (tNew o0)) (hr : PA X es (tMX g ER r)) (hs : starEach (e :: es) X.env = (false, eval e X.env) :: starEach es X.env := by rfl) : PA X (e :: es) (tMX g ER (xNew c0 r)) := by
  refine PAi (pa_cons ha hr hs) fun σ H Q ⟨ρ, st, s, h⟩ p hp => ?_
  have s1 := s.addC (i := st.sl.length) (c := c0) (o := o0) hp (nc.ok _ _ _ _ _ upd_same)
  have e0 : σ.set st.sl.length (some (.ref p)) = σ := List.set_eq_of_length_le (by rw [s.len]; exact Nat.le_refl _)
  rw [e0] at s1
  refine ⟨ρ.addC p, st.addC st.sl.length c0, s1, (OutC.bind (OutC.later h (Ext.addC s hp))).mono fun ss st2 ρ2 H2 e2 h2 s2 vs rs => ?_⟩
  refine h2 ρ2 H2 Ext.refl s2 (.ref p :: vs) (SlA.cons (s := .rf st.ce.length) ⟨p, rfl, e2.pre _ _ ?_⟩ rs)
  show (ρ.ad ++ [p])[st.ce.length]? = some p
  rw [← s.clen, List.getElem?_append_right (Nat.le_refl _), Nat.sub_self]
  rfl
theorem slok_of {A : Addr → Prop} {ρ : Rh} {H : Hp} {v : V} {s : Sl} (h : SlV g A ρ.ad H v s) : SlOk g A ρ H (some v) s := by
  cases s with
  | no => exact h.elim
  | d x => exact ⟨v, rfl, h⟩
  | rf k => obtain ⟨b, rfl, q⟩ := h; exact ⟨b, rfl, q⟩
def mParX (is : List Nat) (ma : MX) : MS := fun st => bindS (ma st) fun ss st1 => match putsX is ss st1 with
  | some st2 => .nx st2
  | none => .no
/-- a, b = x, y -/
theorem ps_mParX {i j : Nat} {x y : Str} {a b : Expr} {ma : MX} {px py pt : Pos} {kt k2 pt2} (hc : X.calm = true) (hN : X.N.Nodup) (hi : X.N[i]? = some x) (hj : X.N[j]? = some y) (hij : i ≠ j)
    (hx : X.env.scope.names.lookup x = some .local) (hy : X.env.scope.names.lookup y = some .local) (ha : PA X [a, b] (tMX g ER ma)) (hw : swappedStores [.Tuple [.Name x px, .Name y py] kt pt] (.Tuple [a, b] k2 pt2) X.env = pure (some [x, y])) (hs : swapsWithSole [.Tuple [.Name x px, .Name y py] kt pt] (.Tuple [a, b] k2 pt2) pos.line X.env = pure false := by rfl) :
    PS X (.Assign [.Tuple [.Name x px, .Name y py] kt pt] (.Tuple [a, b] k2 pt2) pos) (tMS g ER (mParX [i, j] ma)) := by
  refine PSi (ps_par hc hN hi hj hij hx hy ha hw hs) fun E σ H ⟨ρ, st, s, h⟩ => ⟨ρ, st, s, (OutS.bind h).mono fun ss st1 ρ1 H1 _ h1 s1 vs rs => ?_⟩
  match ss, vs, rs, h1 with
  | [], _, _, h1 => exact h1.elim
  | [_], _, _, h1 => exact h1.elim
  | [d, e], [], rs, h1 => have := rs.1; simp at this
  | [d, e], [_], rs, h1 => have := rs.1; simp at this
  | [d, e], _ :: _ :: _ :: _, rs, h1 => have := rs.1; simp at this
  | [d, e], [v, u], rs, h1 =>
    obtain ⟨r1, r2⟩ := SlA.uncons rs
    obtain ⟨r2, _⟩ := SlA.uncons r2
    have s2 := s1.put i (slok_of r1)
    have s3 := s2.put j (v := u) (sl := e) (slok_of (SlA.uncons (SlA.go (SlA.cons r2 SlA.nil) (A' := Vol ρ1 (st1.put i d)) (H' := H1) (fun a o h n => ⟨h, n⟩) fun _ _ h => h)).1)
    exact ⟨v, u, rfl, h1 ρ1 _ H1 (Ext.refl.ce rfl) s3⟩
  | _ :: _ :: _ :: _, _, _, h1 => exact h1.elim
end
end RE
set_option maxHeartbeats 4000000
namespace RE
open PySem PySem.Spec PyProof.Rows L2
end RE
set_option maxHeartbeats 4000000
namespace RE
open PySem PySem.Spec PyProof.Rows L2
end RE
set_option maxHeartbeats 4000000
namespace RE
open PySem PySem.Spec PyProof.Rows L2
end RE
set_option maxHeartbeats 4000000
namespace RE
open PySem PySem.Spec PyProof.Rows L2
/-- an own error's class -/
def ecB (K : PySem.W.Frag) (C : Addr) (bm : List Value) (newId : String) : Bool := match K.lookup C with
  | some ⟨.type t, _, .cls cd, sl⟩ => (decide (t = "type") && (cd.hasDict && !cd.hasDel)) && (decide (cd.mro = .ref C :: bm) && match sl.toList with
    | [_, _, _, _, some (.builtin n), _] => decide (n = newId)
    | _ => false)
  | _ => false
/-- facts beside the house's -/
inductive Fx where
  | a (f : He.Fa) | err (x : Str) (bm : List Value) (newId : String) (fs : List Str) | con (x : Str) (d : D) | vb (B i : String) | kit (x : Str) (T : String)
def Fx.ok (K : PySem.W.Frag) : Fx → Bool
  | .a f => f.ok K
  | .err x bm n fs => ecB K (He.ga K x) bm n && (He.eqO (PySem.W.findIn K (.ref (He.ga K x)) "__init__") (some (some (.ref (He.ma K (He.ga K x) "__init__")))) && errB K (He.ga K x) (He.ma K (He.ga K x) "__init__") fs)
  | .con x d => He.eqO (PySem.W.nsIn K mainGlobals x) (some (some (.ref (He.ga K x)))) && ktV K 3 (.ref (He.ga K x)) d
  | .vb B i => match PySem.W.findCls K (.type B) (.type "type") "__init__" with
    | some (.val (.builtin n)) => decide (n = i)
    | _ => false
  | .kit x T => decide (PySem.W.kitOne K (.ref (He.ga K x)) (.type T) = some true)
abbrev AlX : Type := Bool × List He.FnW
def obsX (fx : List Fx) (fn : List He.DefD) (K : PySem.W.Frag) : AlX := ((fx.all fun f => f.ok K) && fn.all fun d => d.ok K, fn.map fun d => He.fnW K d.at_)
def valX (fn : List He.DefD) : AlX := (true, fn.map He.DefD.val)
def SaysX (fx : List Fx) (fn : List He.DefD) (K : PySem.W.Frag) : Prop := obsX fx fn K = valX fn
def obsXG (n : Nat) (fx : List Fx) (fn : List He.DefD) (g : Addr → Option Obj) : AlX := obsX fx fn (He.frG g (He.asD g n))
def hookX (n : Nat) (fx : List Fx) (fn : List He.DefD) : PySem.W.Hook where
  α := AlX
  obs := fun s => obsXG n fx fn s.heap.get?
  val := fun _ => valX fn
  says := fun _ h => ∃ K : PySem.W.Frag, K.In h ∧ SaysX fx fn K
  of := fun _ _ e => ⟨_, He.frG_in, e⟩
  keeps := fun _ _ _ ⟨K, hK, c⟩ k => ⟨K, PySem.W.Frag.In.keeps hK k, c⟩
theorem obsXG_eq {n : Nat} {fx : List Fx} {fn : List He.DefD} {g : Addr → Option Obj} {s : Shared} (h : ∀ a, g a = s.heap.get? a) : obsXG n fx fn g = (hookX n fx fn).obs s := by
  rw [show g = s.heap.get? from funext h] <;> rfl
section
variable {fx : List Fx} {fn : List He.DefD} {K : PySem.W.Frag} {h : Heap} {mg : Str → Option Value}
theorem SaysX.fact (c : SaysX fx fn K) (i : Nat) {f : Fx} (h : fx[i]? = some f := by rfl) : f.ok K = true :=
  List.all_eq_true.mp (He.ba (congrArg (fun z : AlX => z.1) c : ((fx.all fun f => f.ok K) && fn.all fun d => d.ok K) = true)).1 f (List.mem_of_getElem? h)
theorem SaysX.defs (c : SaysX fx fn K) : ∃ gd : Nat → FuncData, ∀ (j : Nat) (d : He.DefD), fn[j]? = some d → FunD K d.name d.qual d.params d.body d.scope (d.dvs K) (d.kws K) (He.fAd K d.at_) (gd j) := by
  have one : ∀ j : Nat, ∃ fd : FuncData, ∀ d : He.DefD, fn[j]? = some d → FunD K d.name d.qual d.params d.body d.scope (d.dvs K) (d.kws K) (He.fAd K d.at_) fd := fun j => by
    cases e : fn[j]? with
    | none => exact ⟨PySem.W.fnOf "" "" ⟨[], [], none, [], [], none, []⟩ [] ⟨.function, [], false, false, []⟩ .none .none .none .none none .none .none, fun d q => by cases q⟩
    | some d0 =>
      have c2 := (He.ba (congrArg (fun z : AlX => z.1) c : ((fx.all fun f => f.ok K) && fn.all fun d => d.ok K) = true)).2
      have e1 : fn.map (fun d => He.fnW K d.at_) = fn.map He.DefD.val := congrArg (fun z : AlX => z.2) c
      have e2 := congrArg (fun l : List He.FnW => l[j]?) e1
      have e2 : (fn.map fun d => He.fnW K d.at_)[j]? = (fn.map He.DefD.val)[j]? := e2
      rw [List.getElem?_map, List.getElem?_map, e] at e2
      obtain ⟨fd, F⟩ := He.DefD.funD (Option.some.inj e2) (List.all_eq_true.mp c2 d0 (List.mem_of_getElem? e))
      exact ⟨fd, fun d q => by cases Option.some.inj q; exact F⟩
  exact ⟨fun j => (one j).choose, fun j => (one j).choose_spec⟩
theorem fun_of {x q : Str} {st : Stmt} {f : Addr} {fd : FuncData} (F : FunD K x q (defArgs st) (defBody st) (defScope st) [] [] f fd) : Fun K x q st f fd := by
  obtain ⟨⟨oc, od, dV, kV, doc, pm, an, cdv, ct, osl, e, lk, hcd, hD, hK⟩, kp⟩ := F
  rcases hD with ⟨_, rfl⟩ | ⟨n, _⟩
  · subst e
    exact ⟨⟨oc, od, kV, doc, pm, an, cdv, ct, osl, rfl, lk, hcd⟩, kp⟩
  · exact absurd rfl n
theorem glo_x (X : K.In h) (G : h.Ns mainGlobals mg) {x : Str} (c : (Fx.a (.glo x)).ok K = true) : mg x = some (.ref (He.ga K x)) := He.glo_ok X G c
theorem free_x (X : K.In h) (G : h.Ns mainGlobals mg) {x : Str} (c : (Fx.a (.free x)).ok K = true) : mg x = none := He.free_ok X G c
theorem con_x {g : G} (hg : g.K = K) (X : K.In h) (G : h.Ns mainGlobals mg) {x : Str} {d : D} (c : (Fx.con x d).ok K = true) : ∃ a, mg x = some (.ref a) ∧ ∀ A H, Rp g A H (.ref a) d := by
  obtain ⟨c1, c2⟩ := He.ba c
  exact const_t hg (PySem.W.mg_of X G (He.eqO_ok c1)) c2
end
theorem bind_of {K : PySem.W.Frag} {x q y : Str} {st : Stmt} {f : Addr} {fd : FuncData} (F : Fun K x q st f fd) (s : Shared) (u : Value)
    (h : ∀ (kV doc pm : Value) (an : Option Addr) (cdv ct : Value), bindArgs (PySem.W.fnOf x q (defArgs st) (defBody st) (defScope st) .none kV doc pm an cdv ct) ⟨[u], []⟩ = pure [(y, u)]) : BindsTo s fd ⟨[u], []⟩ [(y, u)] := by
  obtain ⟨_, _, kV, doc, pm, an, cdv, ct, _, rfl, _, _⟩ := F.ex
  exact .of_eq (h kV doc pm an cdv ct)
/-- the law over such a head -/
theorem law_head {l : PySem.W.OpenLaw} {k : Nat} {q : Program} {loose : List Str} {XP : (Str → Option Value) → Heap → Prop} {d : DefRec} {fx : List Fx} {fn : List He.DefD} {N : Nat} (hn : l.most = some 63) (hdf : d.params.defaults = []) (hd : d.name = "law") (hr : Room k callerA)
    (F : ∀ (w : World) (mg : Str → Option Value) (h : Heap) (K : PySem.W.Frag), SaysX fx fn K → K.In h → h.Ns mainGlobals mg → ∃ (fa : Addr) (fd : FuncData), mg "law" = some (.ref fa) ∧ (∀ (s : Shared) (u : Value), BindsTo s fd ⟨[u], []⟩ [("script", u)]) ∧
        ∀ base : Heap, K.In base → base.Ns mainGlobals mg → FnOk l.prog w K mg base (L2.CX l.prog w) k fa fd ["script"] (spLaw K)) :
    PySem.W.WalkO q loose XP (hookX N fx fn).says l.row.toRowW d [] (fun f vs => PySem.call f vs) :=
  Att.attach_call hn hdf fun w _ s1 mg _ fa _ _ _ _ a _ ns Gd Y _ _ _ hmg ho hi hl hg => by
    obtain ⟨K, KX, c⟩ := Y
    obtain ⟨fa', fd, e1, hb, hF⟩ := F w mg _ K c KX Gd.T.g
    rw [hd] at hmg
    obtain rfl : fa = fa' := by rw [e1] at hmg; cases hmg; rfl
    exact law_call KX Gd.T.g Gd.T.b Gd.T.builtins Gd.T.nolimit hg ho hi (Nat.le_trans hl (by decide)) hr hF hb (fun H hO hS => ⟨a, ns, rfl, hO, hS, hl, fun _ => rfl⟩) fun H e s' => cx_no
end RE
set_option maxHeartbeats 4000000
namespace RE
open PySem PySem.Spec PyProof.Rows L2
end RE
set_option maxHeartbeats 4000000
namespace RE
open PySem PySem.Spec PyProof.Rows L2
section
variable {g : G} {A : Addr → Prop} {H : Hp}
theorem RpA.erase {xs : List V} {ds : List D} (h : RpA g A H xs ds) (k : Nat) : RpA g A H (xs.eraseIdx k) (ds.eraseIdx k) :=
  ⟨by rw [List.length_eraseIdx, List.length_eraseIdx, h.1], fun i x d hx hd => by
    rw [List.getElem?_eraseIdx] at hx hd
    split at hx
    · rename_i lt; rw [if_pos lt] at hd; exact h.2 i x d hx hd
    · rename_i lt; rw [if_neg lt] at hd; exact h.2 _ x d hx hd⟩
end
def mPopI (i : Nat) (m : M) : M := fun st => match st.cellOf i with
  | some k => if st.isL k = true then bindO (m st) fun d st1 => match d, st1.ce[k]? with
    | .int j, some (.l ds) => if 0 ≤ j ∧ j < 1000000 then match ds[j.toNat]? with
        | some y => .ok y (st1.setC k (.l (ds.eraseIdx j.toNat)))
        | none => .no
      else .no
    | _, _ => .no
    else .no
  | none => .no
def mRem (i : Nat) (m : M) : M := fun st => match st.cellOf i with
  | some k => if st.isL k = true then bindO (m st) fun d st1 => match st1.ce[k]? with
    | some (.l ds) => match toP 20 d, mapO (toP 20) ds with
      | some p, some ps => match SeqAt.dataPlace ps p with
        | some j => if ds.length ≤ lim then .ok .non (st1.setC k (.l (ds.eraseIdx j))) else .no
        | none => .no
      | _, _ => .no
    | _ => .no
    else .no
  | none => .no
def rRemD (K : PySem.W.Frag) : V → List V → Hp → VK → Prop := fun x vs H Q => ∃ (l : Addr) (xs : List V) (y : V) (ps : List PyData) (p : PyData) (j : Nat), x = .ref l ∧ vs = [y] ∧ H l = some (.lst xs) ∧ DpAll K H xs ps ∧ Dp K H y p ∧ PyData.plainAll ps = true ∧ p.plain = true ∧ PyData.depthAll ps ≤ 30 ∧
  SeqAt.dataPlace ps p = some j ∧ Q .non (upd H l (.lst (xs.eraseIdx j)))
section
variable {X : Cx}
theorem mt_removeD (hu : X.A.units + 64 < cLine) : MtM X "list.remove" (rRemD X.K) := fun pq s σ H x vs v us Q I rx rv ⟨l, xs, y, ps, p, j, ex, ev, hl, d1, d2, z1, z2, z3, hj, q⟩ => by
  subst ex; subst ev
  cases rx
  obtain ⟨u, rfl, ru⟩ := rv.one
  obtain ⟨z, its, n, r, big, e⟩ := I.lstM hl
  obtain ⟨as, r1⟩ := Dp.readsAll I ps xs its d1 r
  obtain ⟨bs, r2⟩ := Dp.reads I p y u d2 ru
  have small : its.toArray.size ≤ sizeLine := by rw [List.size_toArray]; omega
  refine SeqAt.remove_list_data (vs := its.toArray) ⟨_, e, rfl, n, rfl⟩ (by simpa using r1) r2 z1 z2 (by have := Nat.min_le_left (PyData.depthAll ps) p.depth; omega) hj small ⟨.non, _, I.lset (its' := its.eraseIdx j) hl e ?_ (r.eraseIdx j) ?_, rfl, q⟩
  · show its.toArray.eraseIdxIfInBounds j = (its.eraseIdx j).toArray
    exact List.eraseIdxIfInBounds_toArray ..
  · have := len_erase xs j
    omega
end
section
variable {X : Cx} {g : G} {ER : EK} {o e : Expr} {i : Nat} {m : M} {apos cpos : Pos}
theorem pe_mPopI (hk : X.K = g.K) (ho : PE X o (tVar i)) (he : PE X e (tM g ER m))
    (hbase : attributeBase o "pop" X.env (eval o X.env) = eval o X.env := by rfl) (hfew : ((backTo cpos (starEach [e] X.env)).all (fun x => !x.1) && (backToKw cpos (keywordEach [] X.env)).all (fun x => x.1.isSome)
      && decide ([e].length + ([] : List Keyword).length + (if ([] : List Keyword).isEmpty then 0 else 1) < 30)) = true := by rfl)
    (hline : (apos.endLine == cpos.line) = true := by rfl) (hs : starEach [e] X.env = [(false, eval e X.env)] := by rfl) (hplain : (backTo cpos (starEach ([] : List Expr) X.env)).any (·.1) = false := by rfl) :
    PE X (.Call (.Attribute o "pop" apos) [e] [] cpos) (tM g ER (mPopI i m)) := by
  refine PEi (pe_bm PySem.F.plainAttrs_list PySem.F.slot_list_pop PySem.F.type_list_pop mt_popAt ho (pa_cons he pa_nil hs) hbase hfew hline hs hplain) fun σ H Q ⟨ρ, st, s, h⟩ => ?_
  unfold mPopI at h
  cases e1 : st.cellOf i with
  | none => simp only [e1] at h; exact h.elim
  | some k =>
    simp only [e1] at h
    split at h
    case isFalse => exact h.elim
    rename_i e2
    obtain ⟨a, hu, ha⟩ := s.rf (cellOf_ok e1)
    obtain ⟨_, ys, _, q1, _⟩ := cell_l s e2 ha
    refine ⟨_, hu, .inl ⟨rfl, ys, SqL.of q1⟩, ρ, st, s, (OutC.bind h).mono fun d st1 ρ1 H1 x1 h1 s1 v rv => ?_⟩
    have ha1 := x1.pre k a ha
    split at h1
    case h_2 => exact h1.elim
    rename_i j ds e3
    split at h1
    case isFalse => exact h1.elim
    rename_i hz
    split at h1
    case h_2 => exact h1.elim
    rename_i y ey
    obtain ⟨xs, q2, q3⟩ := s1.cell k _ a e3 ha1
    obtain ⟨x, hx, rx⟩ := q3.get ey
    have lt : j.toNat < xs.length := (List.getElem?_eq_some_iff.mp hx).1
    refine ⟨a, xs, j, j.toNat, x, rfl, by rw [rv.inv_int], q2, by omega, by omega, ?_, hx, ?_⟩
    · unfold seqIndex?
      rw [if_neg (by omega : ¬ j < 0)]
      dsimp only
      rw [if_pos (by rw [Bool.and_eq_true, decide_eq_true_eq, decide_eq_true_eq]; omega)]
    · have xe := Ext.setC (c := .l (ds.eraseIdx j.toNat)) (o := .lst (xs.eraseIdx j.toNat)) s1 e3 rfl ha1
      exact h1 ρ1 _ xe (s1.setC e3 rfl ha1 rfl ⟨_, upd_same, (q3.erase _).ext xe.keep⟩) _ (rx.go xe)
theorem pe_mRem (hk : X.K = g.K) (hu : X.A.units + 64 < cLine) (ho : PE X o (tVar i)) (he : PE X e (tM g ER m))
    (hbase : attributeBase o "remove" X.env (eval o X.env) = eval o X.env := by rfl) (hfew : ((backTo cpos (starEach [e] X.env)).all (fun x => !x.1) && (backToKw cpos (keywordEach [] X.env)).all (fun x => x.1.isSome)
      && decide ([e].length + ([] : List Keyword).length + (if ([] : List Keyword).isEmpty then 0 else 1) < 30)) = true := by rfl)
    (hline : (apos.endLine == cpos.line) = true := by rfl) (hs : starEach [e] X.env = [(false, eval e X.env)] := by rfl) (hplain : (backTo cpos (starEach ([] : List Expr) X.env)).any (·.1) = false := by rfl) :
    PE X (.Call (.Attribute o "remove" apos) [e] [] cpos) (tM g ER (mRem i m)) := by
  refine PEi (pe_bm PySem.F.plainAttrs_list PySem.F.slot_list_remove PySem.F.type_list_remove (mt_removeD hu) ho (pa_cons he pa_nil hs) hbase hfew hline hs hplain) fun σ H Q ⟨ρ, st, s, h⟩ => ?_
  unfold mRem at h
  cases e1 : st.cellOf i with
  | none => simp only [e1] at h; exact h.elim
  | some k =>
    simp only [e1] at h
    split at h
    case isFalse => exact h.elim
    rename_i e2
    obtain ⟨a, hv, ha⟩ := s.rf (cellOf_ok e1)
    obtain ⟨_, ys, _, q1, _⟩ := cell_l s e2 ha
    refine ⟨_, hv, .inl ⟨rfl, ys, SqL.of q1⟩, ρ, st, s, (OutC.bind h).mono fun d st1 ρ1 H1 x1 h1 s1 v rv => ?_⟩
    have ha1 := x1.pre k a ha
    split at h1
    case h_2 => exact h1.elim
    rename_i ds e3
    split at h1
    case h_2 => exact h1.elim
    rename_i p ps e4 e5
    split at h1
    case h_2 => exact h1.elim
    rename_i j ej
    split at h1
    case isFalse => exact h1.elim
    obtain ⟨xs, q2, q3⟩ := s1.cell k _ a e3 ha1
    obtain ⟨a1, a2, a3⟩ := toP_ok 20 d p v e4 rv
    obtain ⟨b1, b2, b3⟩ := toP_all e5 q3
    have xe := Ext.setC (c := .l (ds.eraseIdx j)) (o := .lst (xs.eraseIdx j)) s1 e3 rfl ha1
    exact ⟨a, xs, v, ps, p, j, rfl, rfl, q2, hk ▸ b1, hk ▸ a1, b2, a2, by omega, ej, h1 ρ1 _ xe (s1.setC e3 rfl ha1 rfl ⟨_, upd_same, (q3.erase _).ext xe.keep⟩) _ .non⟩
/-- a slice of a list, as a new one -/
def fSl (m : M) (lo hi : MO) : MA := fun st => bindO (m st) fun d st1 => bindO (lo st1) fun l st2 => bindO (hi st2) fun u st3 => match d with
  | .lst ds => .ok (cutD ds l u) st3
  | _ => .no
theorem pe_fSl {pos p2 : Pos} {lo hi : Option Expr} {ml mh : MO} (hk : X.K = g.K) (he : PE X e (tM g ER m)) (hl : PO X lo (tMO g ER ml)) (hh : PO X hi (tMO g ER mh)) : PE X (.Subscript e (.Slice lo hi none p2) pos) (tF g ER (fSl m ml mh)) := by
  refine PEi (pe_slice (SlR.or sl_list sl_tupA) he hl hh) fun σ H Q ⟨ρ, st, s, h⟩ => ⟨ρ, st, s, (OutC.bind h).mono fun d st1 ρ1 H1 _ h1 s1 x rx => ⟨ρ1, st1, s1, (OutC.bind h1).mono fun l st2 ρ2 H2 x2 h2 s2 => ⟨ρ2, st2, s2, (OutC.bind h2).mono fun u st3 ρ3 H3 x3 h3 s3 => ?_⟩⟩⟩
  have rx := (rx.go x2).go x3
  rw [hk]
  cases d with
  | lst ds =>
    obtain ⟨a, xs, rfl, ha, na, ra⟩ := rx.inv_lst
    exact .inl ⟨a, xs, rfl, SqL.of ha, fun p hp => h3 ρ3 H3 Ext.refl s3 _ (cut_ok ra l u) p hp⟩
  | _ => exact h3.elim
/-- a new list among names set at once -/
def xF (m : MA) (r : MX) : MX := fun st => bindO (m st) fun ds st1 => bindO (r (st1.addC st1.sl.length (.l ds))) fun ss st2 => .ok (.rf st1.ce.length :: ss) st2
theorem px_f {es : List Expr} {ma : MA} {r : MX} (ha : PE X e (tF g ER ma)) (hr : PA X es (tMX g ER r)) (hs : starEach (e :: es) X.env = (false, eval e X.env) :: starEach es X.env := by rfl) : PA X (e :: es) (tMX g ER (xF ma r)) := by
  refine PAi (pa_cons ha hr hs) fun σ H Q ⟨ρ, st, s, h⟩ => ⟨ρ, st, s, (OutC.bind h).mono fun ds st1 ρ1 H1 _ h1 s1 xs rs p hp => ?_⟩
  have xe := Ext.addC (c := .l ds) (i := st1.sl.length) (o := .lst xs) s1 hp
  have sa := s1.addC (c := .l ds) (i := st1.sl.length) (o := .lst xs) hp ⟨xs, upd_same, rs.ext xe.keep⟩
  rw [show σ.set st1.sl.length (some (.ref p)) = σ from List.set_eq_of_length_le (by rw [s1.len]; exact Nat.le_refl _)] at sa
  exact ⟨ρ1.addC p, _, sa, ((OutC.bind h1).later xe).mono fun ss st2 ρ2 H2 x2 h2 s2 vs rv => h2 ρ2 H2 Ext.refl s2 (.ref p :: vs) (SlA.cons (s := .rf st1.ce.length) ⟨p, rfl, x2.pre _ _ (adC s1.clen)⟩ rv)⟩
end
def loopB (k : Nat) (tg : Tg) (body : MS) : Nat → Nat → S → SO
  | 0, _, _ => .no
  | n + 1, i, st => match st.ce[k]? with
    | some (.l ds) => match ds[i]? with
      | some d => match tg d st with
        | some st1 => match body st1 with
          | .nx st2 => loopB k tg body n (i + 1) st2
          | .ct st2 => loopB k tg body n (i + 1) st2
          | .bk st2 => .nx st2
          | o => o
        | none => .no
      | none => .nx st
    | _ => .no
def mForB (i n : Nat) (tg : Tg) (body : MS) : MS := fun st => match st.cellOf i with
  | some k => if st.isL k = true then loopB k tg body n 0 st else .no
  | none => .no
section
variable {X : Cx} {g : G} {ER : EK} {pos : Pos}
theorem for_live {t : TG} {tgd : Tg} {is : List Nat} {mb : MS} {k n : Nat} {a : Addr} {ρ0 : Rh} {st0 : S} {σ0 : L2.St} {H0 : Hp} {E : Ends} (ok : GOk g tgd t is) (s0 : Sim g ρ0 σ0 H0 st0) (ha : ρ0.ad[k]? = some a) (h0 : OutS g ER ρ0 st0 H0 (loopB k tgd mb n 0 st0) E) :
    ∃ W : Nat → Nat → L2.St → Hp → Prop, (∃ m, W 0 m σ0 H0) ∧ ∀ i m σ H, W i m σ H → ((Itl g.K a).stop i H ∧ E.nx σ H) ∨ ((Itl g.K a).go i H ∧ ∃ N : L2.St → Hp → Prop, (∀ σ' H', N σ' H' → ∃ m', m' < m ∧ W (i + 1) m' σ' H') ∧ ∀ x H', (Itl g.K a).yld i H x H' → t x σ H' fun σ2 H2 => tMS g ER mb { E with nx := N, ct := N, bk := E.nx } σ2 H2) := by
  refine ⟨fun i m σ' H' => ∃ ρ' st', Ext ρ0 st0 H0 ρ' st' H' ∧ Sim g ρ' σ' H' st' ∧ OutS g ER ρ' st' H' (loopB k tgd mb m i st') E, ⟨n, ρ0, st0, Ext.refl, s0, h0⟩, ?_⟩
  rintro i m σ1 H1 ⟨ρ1, st1, x1, s1, h1⟩
  have ha1 := x1.pre k a ha
  cases m with
  | zero => exact h1.elim
  | succ m =>
    unfold loopB at h1
    split at h1
    case h_2 => exact h1.elim
    rename_i ds ec
    obtain ⟨xs, q1, q2⟩ := s1.cell k _ a ec ha1
    split at h1
    case h_2 =>
      rename_i ed
      refine .inl ⟨⟨xs, SqL.of q1, ?_⟩, h1 ρ1 σ1 H1 Ext.refl s1⟩
      rw [q2.1]
      exact List.getElem?_eq_none_iff.mp ed
    rename_i d ed
    obtain ⟨v, hv, rv⟩ := q2.get ed
    split at h1
    case h_2 => exact h1.elim
    rename_i st3 e3
    refine .inr ⟨⟨xs, v, SqL.of q1, hv⟩, fun σ' H' => ∃ ρ' st', Ext ρ0 st0 H0 ρ' st' H' ∧ Sim g ρ' σ' H' st' ∧ OutS g ER ρ' st' H' (loopB k tgd mb m (i + 1) st') E, fun σ' H' w => ⟨m, Nat.lt_succ_self m, w⟩, fun x H2 hy => ?_⟩
    obtain ⟨rfl, hx⟩ := hy
    have ex := hx xs (SqL.of q1)
    rw [hv] at ex
    cases Option.some.inj ex
    refine ok ρ1 σ1 H2 st1 v d st3 _ e3 s1 rv fun σ3 s3 ce _ => ⟨ρ1, st3, s3, ?_⟩
    have x3 : Ext ρ1 st1 H2 ρ1 st3 H2 := Ext.refl.ce ce
    cases e2 : mb st3 with
    | nx st4 => rw [e2] at h1; exact fun ρ4 σ4 H4 x4 s4 => ⟨ρ4, st4, (x1.trans x3).trans x4, s4, OutS.later h1 (x3.trans x4)⟩
    | ct st4 => rw [e2] at h1; exact fun ρ4 σ4 H4 x4 s4 => ⟨ρ4, st4, (x1.trans x3).trans x4, s4, OutS.later h1 (x3.trans x4)⟩
    | bk st4 => rw [e2] at h1; exact fun ρ4 σ4 H4 x4 s4 => h1 ρ4 σ4 H4 (x3.trans x4) s4
    | rt y st4 => rw [e2] at h1; exact fun ρ4 σ4 H4 u x4 s4 r => h1 ρ4 σ4 H4 u (x3.trans x4) s4 r
    | er c vs st4 => rw [e2] at h1; exact fun ρ4 H4 x4 => h1 ρ4 H4 (x3.trans x4)
    | no => rw [e2] at h1; exact h1.elim
theorem ps_mForB {iter tg : Expr} {body : List Stmt} {t : TG} {tgd : Tg} {is : List Nat} {mb : MS} {i n : Nat} (hk : X.K = g.K) (hp : PassesOwn (model X.prog X.w) X.A X.env X.xe) (hc : X.calm = true) (hi : PE X iter (tVar i)) (hg : PG X tg t) (ok : GOk g tgd t is) (hb : PSs X body (tMS g ER mb)) (hs : ∀ x, foldedSetIterable iter X.env x = pure x := by intro _; rfl) :
    PS X (.For tg iter body [] pos) (tMS g ER (mForB i n tgd mb)) := by
  refine PSi (ps_for hp hc (pi_list hi) hg hb hs) fun E σ H ⟨ρ, st, s, h⟩ => ?_
  unfold mForB at h
  cases e1 : st.cellOf i with
  | none => simp only [e1] at h; exact h.elim
  | some k =>
    simp only [e1] at h
    split at h
    case isFalse => exact h.elim
    rename_i e2
    obtain ⟨a, hu, ha⟩ := s.rf (cellOf_ok e1)
    obtain ⟨_, ys, _, q1, _⟩ := cell_l s e2 ha
    rw [hk]
    exact ⟨.ref a, hu, a, rfl, ⟨ys, SqL.of q1⟩, for_live ok s ha h⟩
end
end RE
set_option maxHeartbeats 4000000
namespace RE
open PySem PySem.Spec PyProof.Rows L2
def mSortC (mc : MC) : M := fun st => bindO (mc st) fun k st1 => match st1.ce[k]? with
  | some (.l ds) => match sortSD ds with
    | some rs => .ok (.lst rs) st1
    | none => .no
  | _ => .no
section
variable {X : Cx} {g : G} {ER : EK} {mc : MC} {o : Expr} {p pos : Pos}
theorem pe_mSortC (hk : X.K = g.K) (hc : X.calm = true) (hu : X.A.units + 64 < cLine) (hg : Gl X "sorted") (hm : X.mg "sorted" = none) (ho : PE X o (tC g ER mc)) (hs : starEach [o] X.env = (false, eval o X.env) :: starEach [] X.env := by rfl) (hpl : (backTo pos (starEach ([] : List Expr) X.env)).any (·.1) = false := by rfl) :
    PE X (.Call (.Name "sorted" p) [o] [] pos) (tM g ER (mSortC mc)) := by
  refine PEi (pe_callB (cr_sortDt hc hu) hg hm (by decide +kernel) (pa_cons ho pa_nil hs) (by decide) (by decide) hs hpl) fun σ H Q h => ?_
  obtain ⟨ρ, st, s, h⟩ := h
  refine ⟨ρ, st, s, (OutC.bind h).mono fun k st1 ρ1 H1 _ h1 s1 a ha => ?_⟩
  cases e1 : st1.ce[k]? with
  | none => simp only [e1] at h1; exact h1.elim
  | some c =>
    cases c with
    | l ds =>
      simp only [e1] at h1
      cases e2 : sortSD ds with
      | none => simp only [e2] at h1; exact h1.elim
      | some rs =>
        simp only [e2] at h1
        obtain ⟨xs, q1, q2⟩ := s1.cell k _ a e1 ha
        obtain ⟨ps, b1, b2, b3, b4, rr⟩ := sortSD_ok q2 e2
        exact ⟨a, xs, ps, rfl, SqL.of q1, hk ▸ b1, b2, b3, b4, fresh_lst s1 rr fun ρ' H' v x' s' r' => h1 ρ' H' x' s' v r'⟩
    | _ => simp only [e1] at h1; exact h1.elim
def mSortB (i : Nat) (m : M) : M := fun st => match st.cellOf i with
  | some _ => mSortC (cName i) st
  | none => m st
theorem pe_mSortB {x : Str} {p p0 : Pos} {i : Nat} {m : M} (hk : X.K = g.K) (hc : X.calm = true) (hu : X.A.units + 64 < cLine) (hg : Gl X "sorted") (hm : X.mg "sorted" = none) (hx : PE X (.Name x p) (tVar i))
    (hb : PE X (.Call (.Name "sorted" p0) [.Name x p] [] pos) (tM g ER m))
    (hs : starEach [.Name x p] X.env = (false, eval (.Name x p) X.env) :: starEach [] X.env := by rfl) (hpl : (backTo pos (starEach ([] : List Expr) X.env)).any (·.1) = false := by rfl) :
    PE X (.Call (.Name "sorted" p0) [.Name x p] [] pos) (tM g ER (mSortB i m)) := by
  refine PEi (PE.or (pe_mSortC (ER := ER) hk hc hu hg hm (pe_cName hx) hs hpl) hb) fun σ H Q h => ?_
  refine tM_either (c := fun st => (st.cellOf i).isSome) ?_
  obtain ⟨ρ, st, s, h⟩ := h
  refine ⟨ρ, st, s, ?_⟩
  unfold mSortB at h
  cases e : st.cellOf i with
  | none => simp only [e] at h; simp only [e]; exact h
  | some k => simp only [e] at h; simp only [e]; exact h
end
end RE
set_option maxHeartbeats 4000000
namespace RE
open PySem PySem.Spec PyProof.Rows L2
theorem mapO_map {α β γ : Type} {f : β → Option γ} {i : α → β} {h : α → γ} (xs : List α) (e : ∀ x ∈ xs, f (i x) = some (h x)) : mapO f (xs.map i) = some (xs.map h) := by
  induction xs with
  | nil => rfl
  | cons x xs ih =>
    rw [List.map_cons]
    unfold mapO
    rw [e x (List.mem_cons_self ..), ih fun y m => e y (List.mem_cons_of_mem _ m)]
    rfl
abbrev P2 := Int × Int
def sq (p : P2) : D := .tup [.int p.1, .int p.2]
def sl2 (p : P2) : D := .lst [.int p.1, .int p.2]
def pq (p : P2) : PyData := .tuple [.int p.1, .int p.2]
def ltP (p q : P2) : Bool := decide (p.1 < q.1) || (decide (p.1 = q.1) && decide (p.2 < q.2))
theorem toP_sq (p : P2) : toP 20 (sq p) = some (pq p) := rfl
theorem eqv_pq (p q : P2) : PyData.eqv (pq p) (pq q) = decide (p = q) := by
  obtain ⟨a, b⟩ := p
  obtain ⟨c, d⟩ := q
  rw [Bool.eq_iff_iff]
  simp [pq, PyData.eqv, PyData.eqvAll]
theorem lt_pq (p q : P2) : PySem.W.dataLt (pq p) (pq q) = ltP p q := by
  obtain ⟨a, b⟩ := p
  obtain ⟨c, d⟩ := q
  unfold PySem.W.dataLt
  rw [Bool.eq_iff_iff]
  simp [pq, PySem.W.keyToks, PySem.W.keyToksAll, PyProof.Rows.lexLt, itemLt, ltP]
  omega
theorem ltP_iff {p q : P2} : ltP p q = true ↔ p.1 < q.1 ∨ (p.1 = q.1 ∧ p.2 < q.2) := by simp [ltP]
theorem ltP_irr (p : P2) : ltP p p = false := by rw [Bool.eq_false_iff]; intro h; rw [ltP_iff] at h; omega
theorem ltP_tot {p q : P2} (h : p ≠ q) : ltP p q = true ∨ ltP q p = true := by
  rw [ltP_iff, ltP_iff]
  have : ¬ (p.1 = q.1 ∧ p.2 = q.2) := fun e => h (Prod.ext e.1 e.2)
  omega
theorem ltP_asym {p q : P2} (h : ltP p q = true) : ltP q p = false := by rw [Bool.eq_false_iff]; intro k; rw [ltP_iff] at *; omega
theorem mem_sq (p : P2) (R : List P2) : memD (sq p) (R.map sq) = some (decide (p ∈ R)) := by
  unfold memD
  rw [toP_sq, mapO_map R fun x _ => toP_sq x]
  show some ((R.map pq).any fun z => PyData.eqv z (pq p)) = _
  congr 1
  rw [Bool.eq_iff_iff, List.any_eq_true, decide_eq_true_iff]
  constructor
  · rintro ⟨z, hz, e⟩
    obtain ⟨x, hx, rfl⟩ := List.mem_map.mp hz
    rw [eqv_pq, decide_eq_true_iff] at e
    exact e ▸ hx
  · intro h
    exact ⟨pq p, List.mem_map.mpr ⟨p, h, rfl⟩, by rw [eqv_pq]; simp⟩
/-- seen as the items of a list or tuple -/
theorem in_sq (neg : Bool) (p : P2) (R : List P2) {d : D} (h : seqD d = some (R.map sq)) : inD neg (sq p) d = some (.bl (Bool.xor neg (decide (p ∈ R)))) := by
  unfold inD
  rw [h]
  show (match memD (sq p) (R.map sq) with
    | some k => some (D.bl (Bool.xor neg k))
    | none => none) = _
  rw [mem_sq]
def Asc (R : List P2) : Prop := R.Pairwise fun p q => ltP p q = true
theorem Asc.filter {R : List P2} (h : Asc R) (b : P2 → Bool) : Asc (R.filter b) := List.Pairwise.filter b h
theorem Asc.nodup {R : List P2} (h : Asc R) : R.Nodup := h.imp fun k e => by rw [e, ltP_irr] at k; cases k
theorem leP_sq (p q : P2) : leP (sq p, pq p) (sq q, pq q) = !ltP q p := by unfold leP; rw [lt_pq]
theorem sorted_sq (R T : List P2) (h : Asc T) (k : R.Perm T) : sortD [.lst (R.map sq)] = some (.lst (T.map sq)) := by
  unfold sortD
  have e : mapO (toP 20) (R.map sq) = some (R.map pq) := mapO_map R fun x _ => toP_sq x
  simp only [e]
  rw [if_pos]
  · congr 2
    have z : (R.map sq).zip (R.map pq) = R.map fun x => (sq x, pq x) := by rw [List.zip_map']
    rw [z, sortL_is leP_total]
    have s : (T.map fun x => (sq x, pq x)).Pairwise fun a b => leP a b = true := by
      rw [List.pairwise_map]
      exact h.imp fun q => by rw [leP_sq, ltP_asym q]; rfl
    have m : (R.map fun x => (sq x, pq x)).mergeSort leP = T.map fun x => (sq x, pq x) := by
      refine List.Perm.eq_of_pairwise (le := fun a b => leP a b = true) (fun a b ha hb h1 h2 => ?_) (List.pairwise_mergeSort (fun a b c => leP_total.trans a b c) (fun a b => by
        have := leP_total.total a b
        simpa using this) _) s ((List.mergeSort_perm _ _).trans (k.map _))
      obtain ⟨x, _, rfl⟩ := List.mem_map.mp ((List.mergeSort_perm _ _).mem_iff.mp ha)
      obtain ⟨y, _, rfl⟩ := List.mem_map.mp hb
      rw [leP_sq] at h1 h2
      by_cases exy : x = y
      · rw [exy]
      · rcases ltP_tot exy with q | q
        · rw [q] at h2; cases h2
        · rw [q] at h1; cases h1
    rw [m, List.map_map]
    rfl
  · refine ⟨?_, .inl ?_⟩
    · rw [List.all_eq_true]
      intro p hp
      rw [List.all_eq_true]
      intro q hq
      obtain ⟨x, _, rfl⟩ := List.mem_map.mp hp
      obtain ⟨y, _, rfl⟩ := List.mem_map.mp hq
      rfl
    · rw [List.all_eq_true]
      intro p hp
      obtain ⟨x, _, rfl⟩ := List.mem_map.mp hp
      rfl
theorem lcS_at {α : Type} {tg : Tg} {tt : MT} {me : M} {w : List Sl} {ce : List Ce} {i f : α → D} {b : α → Bool} (xs : List α)
    (h : ∀ x ∈ xs, ∃ w', tg (i x) ⟨w, ce⟩ = some ⟨w', ce⟩ ∧ tt ⟨w', ce⟩ = .ok (b x) ⟨w', ce⟩ ∧ (b x = true → me ⟨w', ce⟩ = .ok (f x) ⟨w', ce⟩)) :
    lcS tg tt me w (xs.map i) ce = some ((xs.filter b).map f, ce) := by
  induction xs with
  | nil => rfl
  | cons x xs ih =>
    obtain ⟨w', h1, h2, h3⟩ := h x (List.mem_cons_self ..)
    have q := ih fun y m => h y (List.mem_cons_of_mem _ m)
    rw [List.map_cons]
    unfold lcS
    simp only [h1, h2]
    cases e : b x with
    | true =>
      simp only [h3 e, q]
      rw [List.filter_cons_of_pos e]
      rfl
    | false =>
      simp only [q]
      rw [List.filter_cons_of_neg (by rw [e]; decide)]
theorem lc_at {α : Type} {mi : MI} {tg : Tg} {tt : MT} {me : M} {vs : List Nat} {st : S} {i f : α → D} {b : α → Bool} (xs : List α) (hi : mi st = .ok (xs.map i) st) (hl : xs.length ≤ 1000000)
    (h : ∀ x ∈ xs, ∃ w', tg (i x) ⟨wipeS st.sl vs, st.ce⟩ = some ⟨w', st.ce⟩ ∧ tt ⟨w', st.ce⟩ = .ok (b x) ⟨w', st.ce⟩ ∧ (b x = true → me ⟨w', st.ce⟩ = .ok (f x) ⟨w', st.ce⟩)) :
    mLc mi tg tt me vs st = .ok (.lst ((xs.filter b).map f)) st := by
  unfold mLc
  rw [hi]
  show (match lcS tg tt me (wipeS st.sl vs) (xs.map i) st.ce with
    | some (xs, ce) => if xs.length ≤ 1000000 then O.ok (D.lst xs) (st.with ce) else .no
    | none => .no) = _
  rw [lcS_at xs h]
  show (if ((xs.filter b).map f).length ≤ 1000000 then _ else _) = _
  rw [if_pos (by rw [List.length_map]; exact Nat.le_trans (List.length_filter_le ..) hl)]
  rfl
theorem lc_all {α : Type} {mi : MI} {tg : Tg} {me : M} {vs : List Nat} {st : S} {i f : α → D} (xs : List α) (hi : mi st = .ok (xs.map i) st) (hl : xs.length ≤ 1000000)
    (h : ∀ x ∈ xs, ∃ w', tg (i x) ⟨wipeS st.sl vs, st.ce⟩ = some ⟨w', st.ce⟩ ∧ me ⟨w', st.ce⟩ = .ok (f x) ⟨w', st.ce⟩) :
    mLc mi tg mYes me vs st = .ok (.lst (xs.map f)) st := by
  have q := lc_at (tt := mYes) (b := fun _ => true) xs hi hl fun x m => (h x m).imp fun w' q => ⟨q.1, rfl, fun _ => q.2⟩
  rwa [List.filter_eq_self.mpr fun _ _ => rfl] at q
/-- a dict's comprehension over distinct keys, all with the same value -/
theorem putE_new {κ : Type} [DecidableEq κ] {l : List (κ × D)} {k : κ} {d : D} (h : k ∉ l.map (·.1)) : putE l k d = l ++ [(k, d)] := by
  unfold putE
  rw [if_neg]
  intro e
  obtain ⟨x, hx, q⟩ := List.any_eq_true.mp e
  exact h (List.mem_map.mpr ⟨x, hx, of_decide_eq_true q⟩)
def kq (p : P2) : List Key := [.inl p.1, .inl p.2]
theorem kq_inj {p q : P2} (h : kq p = kq q) : p = q := by
  obtain ⟨a, b⟩ := p
  obtain ⟨c, d⟩ := q
  simpa [kq] using h
theorem dc_sq {w : List Sl} {ce : List Ce} {tg : Tg} {mk mv : M} {d : D} (xs : List P2) (h : ∀ x ∈ xs, ∃ w', tg (sq x) ⟨w, ce⟩ = some ⟨w', ce⟩ ∧ mk ⟨w', ce⟩ = .ok (sq x) ⟨w', ce⟩ ∧ mv ⟨w', ce⟩ = .ok d ⟨w', ce⟩) :
    ∀ acc : List P2, (acc ++ xs).Nodup → dcS dkT tg mYes mk mv w (xs.map sq) ce (acc.map fun x => (kq x, d)) = some ((acc ++ xs).map fun x => (kq x, d), ce) := by
  induction xs with
  | nil => intro acc _; rw [List.append_nil]; rfl
  | cons x xs ih =>
    intro acc nd
    obtain ⟨w', h1, h2, h3⟩ := h x (List.mem_cons_self ..)
    rw [List.map_cons]
    unfold dcS
    simp only [h1, mYes, h2]
    have e : dkT.key (sq x) = some (kq x) := rfl
    simp only [e, h3]
    have nx : kq x ∉ (acc.map fun x => (kq x, d)).map (·.1) := by
      rw [List.map_map]
      intro m
      obtain ⟨y, hy, q⟩ := List.mem_map.mp m
      have := kq_inj q
      subst this
      exact (List.nodup_append.mp nd).2.2 y hy y (List.mem_cons_self ..) rfl
    rw [putE_new nx]
    have q := ih (fun y m => h y (List.mem_cons_of_mem _ m)) (acc ++ [x]) (by rw [List.append_assoc]; exact nd)
    rw [List.map_append, List.append_assoc] at q
    exact q
theorem valD_sq {d : D} (xs : List P2) (p : P2) : valD (xs.map fun x => (kq x, d)) (kq p) = if p ∈ xs then some d else none := by
  induction xs with
  | nil => rfl
  | cons x xs ih =>
    show (if kq x = kq p then some d else valD (xs.map fun x => (kq x, d)) (kq p)) = _
    by_cases e : x = p
    · subst e; rw [if_pos rfl, if_pos (List.mem_cons_self ..)]
    · rw [if_neg fun q => e (kq_inj q), ih]
      by_cases m : p ∈ xs
      · rw [if_pos m, if_pos (List.mem_cons_of_mem _ m)]
      · rw [if_neg m, if_neg]
        intro q
        rcases List.mem_cons.mp q with q | q
        · exact e q.symm
        · exact m q
def tabD (xs : List P2) (d : D) : D := .dT (xs.map fun x => (kq x, d))
theorem in_tab (neg : Bool) (p : P2) (xs : List P2) (d : D) : inD neg (sq p) (tabD xs d) = some (.bl (Bool.xor neg (decide (p ∈ xs)))) := by
  unfold inD
  show (match getD (tabD xs d) (sq p) with
    | some o => some (D.bl (Bool.xor neg o.isSome))
    | none => none) = _
  have e : getD (tabD xs d) (sq p) = some (valD (xs.map fun x => (kq x, d)) (kq p)) := rfl
  rw [e, valD_sq]
  by_cases m : p ∈ xs
  · rw [if_pos m]; simp [m]
  · rw [if_neg m]; simp [m]
end RE
set_option maxHeartbeats 4000000
namespace RE
open PySem PySem.Spec PyProof.Rows L2
def rtD : SO → Option D
  | .rt d _ => some d
  | _ => none
def Rn (ms : MS) (n : Nat) (as : List D) (d : D) : Prop := ∀ st, runD ms n as st = .ok d st
theorem rn {ms : MS} {n : Nat} {as : List D} {d : D} {st' : S} (h : ms (S.start (as.map .d) n []) = .rt d st') : Rn ms n as d := fun st => by
  unfold runD
  rw [h]
theorem rn' {ms : MS} {n : Nat} {as : List D} {d : D} (h : rtD (ms (S.start (as.map .d) n [])) = some d) : Rn ms n as d := by
  cases e : ms (S.start (as.map .d) n []) with
  | rt x st' =>
    rw [e] at h
    cases Option.some.inj h
    exact rn e
  | _ => rw [e] at h; cases h
theorem call_at {ms : MS} {n : Nat} {as : List D} {d : D} {ma : MA} {st st1 : S} (h : ma st = .ok as st1) (r : Rn ms n as d) : mCall ms n [] ma st = .ok d st1 := by
  unfold mCall
  rw [h]
  show runD ms n (as ++ []) st1 = _
  rw [List.append_nil]
  exact r st1
theorem callV_at {tab : Nat → Option (MS × Nat)} {i j : Nat} {ms : MS} {n : Nat} {as : List D} {d : D} {ma : MA} {st : S} (hs : st.sl[i]? = some (.d (.fn j))) (ht : tab j = some (ms, n)) (h : ma st = .ok as st) (r : Rn ms n as d) : mCallV tab i ma st = .ok d st := by
  unfold mCallV
  rw [hs]
  simp only [ht, h]
  exact r st
theorem inb_at {neg b : Bool} {ma : M} {i : Nat} {st : S} {a d : D} (h : ma st = .ok a st) (hl : st.look i = some d) (e : inD neg a d = some (.bl b)) : mInB neg ma i st = .ok (.bl b) st := by
  unfold mInB
  rw [h]
  show (match st.look i with
    | some d => match inD neg a d with
      | some (.bl b) => O.ok (D.bl b) st
      | _ => .no
    | none => .no) = _
  simp only [hl, e]
theorem seq_to {a b : MS} {st st1 : S} {r : SO} (h : a st = .nx st1) (k : b st1 = r) : mSeq a b st = r := by
  rw [seq_at h]
  exact k
theorem in_y (p : P2) (R : List P2) {d : D} (h : seqD d = some (R.map sq)) : inD false (sq p) d = some (.bl (decide (p ∈ R))) := by rw [in_sq false p R h, Bool.false_xor]
theorem in_n (p : P2) (R : List P2) {d : D} (h : seqD d = some (R.map sq)) : inD true (sq p) d = some (.bl (!decide (p ∈ R))) := by rw [in_sq true p R h, Bool.true_xor]
theorem tab_y (p : P2) (R : List P2) (d : D) : inD false (sq p) (tabD R d) = some (.bl (decide (p ∈ R))) := by rw [in_tab, Bool.false_xor]
theorem tab_n (p : P2) (R : List P2) (d : D) : inD true (sq p) (tabD R d) = some (.bl (!decide (p ∈ R))) := by rw [in_tab, Bool.true_xor]
theorem dc_at {mi : MI} {tg : Tg} {mk mv : M} {vs : List Nat} {st : S} {d : D} (xs : List P2) (hi : mi st = .ok (xs.map sq) st) (nd : xs.Nodup) (hl : xs.length ≤ 1000000)
    (h : ∀ x ∈ xs, ∃ w', tg (sq x) ⟨wipeS st.sl vs, st.ce⟩ = some ⟨w', st.ce⟩ ∧ mk ⟨w', st.ce⟩ = .ok (sq x) ⟨w', st.ce⟩ ∧ mv ⟨w', st.ce⟩ = .ok d ⟨w', st.ce⟩) : mDc dkT mi tg mYes mk mv vs st = .ok (tabD xs d) st := by
  unfold mDc
  rw [hi]
  have e := dc_sq (w := wipeS st.sl vs) (ce := st.ce) (tg := tg) (mk := mk) (mv := mv) (d := d) xs h [] nd
  have e : dcS dkT tg mYes mk mv (wipeS st.sl vs) (xs.map sq) st.ce [] = some (xs.map fun x => (kq x, d), st.ce) := e
  simp only [bindO, e]
  rw [if_pos (by rw [List.length_map]; exact hl)]
  rfl
theorem mlst_at {ms : MA} {st st1 : S} {ds : List D} (h : ms st = .ok ds st1) (hl : ds.length ≤ 1000) : mLst ms st = .ok (.lst ds) st1 := by
  unfold mLst
  rw [h]
  show (if ds.length ≤ 1000 then _ else _) = _
  rw [if_pos hl]
theorem mtup_at {ms : MA} {st st1 : S} {ds : List D} (h : ms st = .ok ds st1) (hl : ds.length ≤ 1000) : mTup ms st = .ok (.tup ds) st1 := by
  unfold mTup
  rw [h]
  show (if ds.length ≤ 1000 then _ else _) = _
  rw [if_pos hl]
theorem if_c {t : MT} {a b : MS} {st st1 : S} {k : Bool} (h : t st = .ok k st1) : mIf t a b st = if k = true then a st1 else b st1 := by
  unfold mIf
  rw [h]
  rfl
theorem ife_f {t : MT} {m n : M} {st st1 : S} {o : O D} (h : t st = .ok false st1) (k : n st1 = o) : mIfE t m n st = o := by
  unfold mIfE
  rw [h]
  exact k
theorem ife_t {t : MT} {m n : M} {st st1 : S} {o : O D} (h : t st = .ok true st1) (k : m st1 = o) : mIfE t m n st = o := by
  unfold mIfE
  rw [h]
  exact k
theorem rn_nx {ms : MS} {n : Nat} {as : List D} {st' : S} (h : ms (S.start (as.map .d) n []) = .nx st') : Rn ms n as .non := fun st => by
  unfold runD
  rw [h]
theorem ix_at {α : Type} {d : D} {i : α → D} {R : List α} (h : seqD d = some (R.map i)) {k : Int} {n : Nat} (hk : k = n) {p : α} (hp : R[n]? = some p) : ixD d (.int k) = some (i p) := by
  rw [ixD_seq h]
  show atD (R.map i) k = _
  have lt : n < R.length := (List.getElem?_eq_some_iff.mp hp).1
  unfold atD ixN
  rw [if_pos (by omega), if_pos (by rw [List.length_map]; omega)]
  show (R.map i)[k.toNat]? = _
  rw [show k.toNat = n by omega, List.getElem?_map, hp]
  rfl
theorem ge_sq (p q : P2) : geD (sq p) (sq q) = some (.bl (!ltP p q)) := by
  show cmpD ltOk (fun p q => !PySem.W.dataLt p q) (sq p) (sq q) = _
  unfold cmpD
  rw [toP_sq, toP_sq]
  show (if ltOk (pq p) (pq q) = true then some (D.bl (!PySem.W.dataLt (pq p) (pq q))) else none) = _
  have e : ltOk (pq p) (pq q) = true := rfl
  rw [if_pos e, lt_pq]
theorem any_false {n : Nat} : anyD [.lst (List.replicate n (.bl false))] = some (.bl false) := by
  unfold anyD
  have e : mapO blD (List.replicate n (.bl false)) = some (List.replicate n false) := by
    induction n with
    | zero => rfl
    | succ n ih =>
      rw [List.replicate_succ]
      unfold mapO
      rw [ih]
      rfl
  simp only [e]
  congr 2
  rw [List.any_eq_false]
  intro x h
  rw [(List.mem_replicate.mp h).2]
  decide
theorem eqv_nil (L : List P2) : PyData.eqv (.list (L.map pq)) (.list []) = L.isEmpty := by
  cases L with
  | nil => rfl
  | cons x L => simp [PyData.eqv, PyData.eqvAll]
theorem toP_lR (L : List P2) : toP 20 (.lst (L.map sq)) = some (.list (L.map pq)) := by
  show (mapO (toP 19) (L.map sq)).map PyData.list = _
  rw [mapO_map (f := toP 19) (i := sq) (h := pq) L fun x _ => rfl]
  rfl
theorem ne_nil (L : List P2) : neD (.lst (L.map sq)) (.lst []) = some (.bl (!L.isEmpty)) := by
  unfold neD cmpD
  rw [toP_lR]
  show some (D.bl (!PyData.eqv (.list (L.map pq)) (.list []))) = _
  rw [eqv_nil]
theorem eq_nil (L : List P2) : eqD (.lst (L.map sq)) (.lst []) = some (.bl L.isEmpty) := by
  unfold eqD cmpD
  rw [toP_lR]
  show some (D.bl (PyData.eqv (.list (L.map pq)) (.list []))) = _
  rw [eqv_nil]
theorem and_at {m n : MT} {st : S} {a b : Bool} (h : m st = .ok a st) (k : n st = .ok b st) : mAndT m n st = .ok (a && b) st := by
  unfold mAndT
  rw [h]
  cases a
  · rfl
  · exact k
theorem or_at {m n : MT} {st : S} {a b : Bool} (h : m st = .ok a st) (k : a = false → n st = .ok b st) : mOrT m n st = .ok (a || b) st := by
  unfold mOrT
  rw [h]
  cases a
  · exact k rfl
  · rfl
theorem to_at {tg : Tg} {m : M} {st st1 st2 : S} {d : D} (h : m st = .ok d st1) (k : tg d st1 = some st2) : mTo tg m st = .nx st2 := by
  unfold mTo
  rw [h]
  show (match tg d st1 with
    | some st2 => SO.nx st2
    | none => .no) = _
  rw [k]
theorem par_at {is : List Nat} {ma : MA} {st st1 st2 : S} {ds : List D} (h : ma st = .ok ds st1) (k : putsD is ds st1 = some st2) : mPar is ma st = .nx st2 := by
  unfold mPar
  rw [h]
  show (match putsD is ds st1 with
    | some st2 => SO.nx st2
    | none => .no) = _
  rw [k]
theorem drop_at {m : M} {st st1 : S} {d : D} (h : m st = .ok d st1) : mDrop m st = .nx st1 := by
  unfold mDrop
  rw [h]
  rfl
inductive Gd : Nat → D → Prop where
  | int {n : Nat} (i : Int) : Gd (n + 1) (.int i)
  | tup {n : Nat} {ds : List D} (h : ∀ d ∈ ds, Gd n d) (hl : ds.length ≤ 1000000) : Gd (n + 1) (.tup ds)
  | lst {n : Nat} {ds : List D} (h : ∀ d ∈ ds, Gd n d) (hl : ds.length ≤ 1000000) : Gd (n + 1) (.lst ds)
theorem Gd.sq {n : Nat} (p : P2) : Gd (n + 2) (sq p) := .tup (fun d h => by
  rcases List.mem_cons.mp h with rfl | h
  · exact .int _
  · rcases List.mem_cons.mp h with rfl | h
    · exact .int _
    · cases h) (show 2 ≤ 1000000 by decide)
theorem Gd.sqs {n : Nat} {R : List P2} (h : R.length ≤ 1000000) : Gd (n + 3) (.tup (R.map RE.sq)) := .tup (fun d m => by
  obtain ⟨p, _, rfl⟩ := List.mem_map.mp m
  exact Gd.sq p) (by rw [List.length_map]; exact h)
theorem zipD_self (ds : List D) : zipD ds ds = ds.map fun d => .tup [d, d] := by
  induction ds with
  | nil => rfl
  | cons d ds ih => show D.tup [d, d] :: zipD ds ds = _; rw [ih]; rfl
theorem all_true {n : Nat} : allD [.lst (List.replicate n (.bl true))] = some (.bl true) := by
  unfold allD
  have e : mapO blD (List.replicate n (.bl true)) = some (List.replicate n true) := by
    induction n with
    | zero => rfl
    | succ n ih =>
      rw [List.replicate_succ]
      unfold mapO
      rw [ih]
      rfl
  simp only [e]
  congr 2
  rw [List.all_eq_true]
  intro x h
  rw [(List.mem_replicate.mp h).2]
  rfl
theorem map_true {α : Type} (xs : List α) : (xs.map fun _ => D.bl true) = List.replicate xs.length (.bl true) := by rw [List.map_const']
abbrev tinC (a b t : Int) : Ce := .l [.int a, .int b, .int t]
/-- at most K draws, and then a datum of P -/
def RnR (ms : MS) (n : Nat) (as : List D) (K : Int) (P : D → Prop) : Prop := ∀ a b t : Int, 0 ≤ t → t + K < 1000000 →
  ∃ d a' t' st', P d ∧ 0 ≤ t' ∧ t' ≤ t + K ∧ ms (S.start (.rf 0 :: as.map .d) n [tinC a b t]) = .rt d st' ∧ st'.ce[0]? = some (tinC a' b t')
theorem refOf_d (as : List D) : okRef k (as.map .d) = true := by
  induction as with
  | nil => rfl
  | cons d as ih => exact ih
theorem toZero_d (as : List D) : toZero (as.map .d) = as.map .d := by
  induction as with
  | nil => rfl
  | cons d as ih => show Sl.d d :: toZero (as.map .d) = _; rw [ih]; rfl
theorem callR_at {ms : MS} {n : Nat} {as : List D} {K : Int} {P : D → Prop} {mr : MR} {st st1 : S} {k : Nat} {a b t : Int} (r : RnR ms n as K P) (h : mr st = .ok (.rf k :: as.map .d) st1) (hc : st1.ce[k]? = some (tinC a b t)) (t0 : 0 ≤ t) (t1 : t + K < 1000000) :
    ∃ d a' t', P d ∧ 0 ≤ t' ∧ t' ≤ t + K ∧ mCallR ms n [] mr st = .ok d (st1.setC k (tinC a' b t')) := by
  obtain ⟨d, a', t', st', p, q1, q2, e, ec⟩ := r a b t t0 t1
  refine ⟨d, a', t', p, q1, q2, ?_⟩
  unfold mCallR
  rw [h]
  show runR ms n ((Sl.rf k :: as.map .d) ++ []) st1 = _
  rw [List.append_nil]
  unfold runR
  show (match st1.ce[k]? with
    | none => O.no
    | some c => if ((c.alive && c.flat) && okRef k (Sl.rf k :: as.map .d)) = true then (match ms (S.start (toZero (Sl.rf k :: as.map .d)) n [c]) with
      | .rt d st' => (match st1.gets k st'.ce with
        | some st2 => O.ok d st2
        | none => .no)
      | .nx st' => (match st1.gets k st'.ce with
        | some st2 => .ok .non st2
        | none => .no)
      | .er e vs st' => (match st1.gets k st'.ce with
        | some st2 => .er e vs st2
        | none => .no)
      | _ => .no) else .no) = _
  rw [hc]
  have hk : okRef k (Sl.rf k :: as.map .d) = true := by
    show (decide (k = k) && okRef k (as.map .d)) = true
    rw [refOf_d]
    simp
  show (if ((true && true) && okRef k (Sl.rf k :: as.map .d)) = true then _ else _) = _
  rw [hk, if_pos (by rfl)]
  show (match ms (S.start (.rf 0 :: toZero (as.map .d)) n [tinC a b t]) with
      | .rt d st' => (match st1.gets k st'.ce with
        | some st2 => O.ok d st2
        | none => .no)
      | .nx st' => (match st1.gets k st'.ce with
        | some st2 => .ok .non st2
        | none => .no)
      | .er e vs st' => (match st1.gets k st'.ce with
        | some st2 => .er e vs st2
        | none => .no)
      | _ => .no) = _
  rw [toZero_d, e]
  show (match st1.gets k st'.ce with
    | some st2 => O.ok d st2
    | none => .no) = _
  unfold S.gets
  rw [ec]
  rfl
/-- one draw -/
theorem take_rnR (n : Int) (n0 : 0 < n) (n1 : n < 1073741824) : RnR takeM 6 [.int n] 1 fun d => ∃ v, d = .int v ∧ 0 ≤ v ∧ v < n := fun a b t t0 t1 => by
  obtain ⟨v, a', t', st', h1, h2, h3, h4, e3, e4⟩ := take_at n a b t n0 n1 t0 (by omega)
  exact ⟨_, a', t', st', ⟨v, rfl, h1, h2⟩, h3, h4, e3, by rw [e4]; rfl⟩
/-- what is handed on: the source and data -/
theorem ref_at {i k : Nat} {st : S} {r : MR} {as : List D} {st1 : S} (hi : st.sl[i]? = some (.rf k)) (h : r st = .ok (as.map .d) st1) : rRef i r st = .ok (.rf k :: as.map .d) st1 := by
  unfold rRef
  rw [hi]
  show bindO (r st) _ = _
  rw [h]
  rfl
theorem rdat_at {m : M} {r : MR} {st st1 st2 : S} {d : D} {as : List D} (h : m st = .ok d st1) (k : r st1 = .ok (as.map .d) st2) : rDat m r st = .ok ((d :: as).map .d) st2 := by
  unfold rDat
  rw [h]
  show bindO (r st1) _ = _
  rw [k]
  rfl
end RE
set_option maxHeartbeats 4000000
namespace RE
open PySem PySem.Spec PyProof.Rows L2
theorem obs_cut {fx : List Fx} {fn : List He.DefD} {K : PySem.W.Frag} (k j : Nat) (h1 : obsX (fx.take k) (fn.take j) K = valX (fn.take j)) (h2 : obsX (fx.drop k) (fn.drop j) K = valX (fn.drop j)) : obsX fx fn K = valX fn := by
  obtain ⟨a1, b1⟩ := Prod.mk.inj h1
  obtain ⟨a2, b2⟩ := Prod.mk.inj h2
  obtain ⟨a3, a4⟩ := He.ba a1
  obtain ⟨a5, a6⟩ := He.ba a2
  refine Prod.ext ?_ ?_
  · show ((fx.all fun f => f.ok K) && fn.all fun d => d.ok K) = true
    rw [← List.take_append_drop k fx, ← List.take_append_drop j fn, List.all_append, List.all_append, a3, a4, a5, a6]
    rfl
  · show (fn.map fun d => He.fnW K d.at_) = fn.map He.DefD.val
    rw [← List.take_append_drop j fn, List.map_append, List.map_append, b1, b2]
abbrev obT (n : Nat) (fx : List Fx) (fn : List He.DefD) (s : PySem.W.SharedT) : AlX := obsXG n fx fn (HandSHeadRun.getT s)
theorem ob_cut {o : Option (Shared × PySem.W.SharedT)} {n : Nat} {fx : List Fx} {fn : List He.DefD} (k j : Nat) (h1 : o.map (fun x => obT n (fx.take k) (fn.take j) x.2) = some (valX (fn.take j)))
    (h2 : o.map (fun x => obT n (fx.drop k) (fn.drop j) x.2) = some (valX (fn.drop j))) : o.map (fun x => obT n fx fn x.2) = some (valX fn) := by
  cases o with
  | none => cases h1
  | some x => exact congrArg some (obs_cut k j (Option.some.inj h1) (Option.some.inj h2))
noncomputable abbrev runO (r : PySem.W.OpenRow) (M : Nat) (w : World) : Option (Shared × PySem.W.SharedT) := HandSHeadRun.wholeF (fun (p : Program) => HandSHeadRun.stepQ (HandSHeadRun.denQ HandSHeadRun.tabQ) p w) HandSHeadRun.fenceQ M r.prog
theorem runEq_of {r : PySem.W.OpenRow} {q : Program} {n : Nat} {fx : List Fx} {fn : List He.DefD} {M : Nat} {loose : List Str} {w : World}
    (h1 : (runO r M w).map (fun x => HandSHeadRun.looksF r.prog x.1.heap x.2.abs) = some true)
    (h2 : (runO r M w).map (fun x => HandSHeadRun.seenQ q loose (importedModules r.prog.main.body) (fun (s : Shared) => PySem.W.xlAt q [] s && PySem.W.recOk r.records s) x.2.abs) = some (PySem.W.openGood q loose))
    (h3 : (runO r M w).map (fun x => obT n fx fn x.2) = some (valX fn)) : HandSHeadRun.RunEqI r q (hookX n fx fn) (obT n fx fn) M loose w := by
  unfold HandSHeadRun.RunEqI
  show (runO r M w).map _ = _
  cases e : runO r M w with
  | none => rw [e] at h1; cases h1
  | some x =>
    rw [e] at h1 h2 h3
    exact congrArg some (Prod.ext (Option.some.inj h1) (Prod.ext (Option.some.inj h2) (Option.some.inj h3)))
end RE
set_option maxHeartbeats 4000000
namespace RE
open PySem PySem.Spec PyProof.Rows L2
abbrev srcM (seed : Int) : MA := fCall boxM (boxF seed) 3 (mCons (mCall cellsM 6 [] (mCons (mVarF 0) (mCons (mC (.int 1)) mNil))) (mCons (mC (.int 0)) mNil))
theorem src_at (seed : Int) (ns : List Int) (hl : ns.length ≤ 63) (n : Nat) : ∃ a b, srcM seed (S.start [.d (.ks (ns.map .int))] n []) = .ok [.int a, .int b, .int 0] (S.start [.d (.ks (ns.map .int))] n []) := by
  obtain ⟨c, e1⟩ := cells_call ns hl (S.start [.d (.ks (ns.map .int))] n [])
  obtain ⟨a, b, e2⟩ := box_call seed c (S.start [.d (.ks (ns.map .int))] n [])
  refine ⟨a, b, ?_⟩
  have q1 : (mCall cellsM 6 [] (mCons (mVarF 0) (mCons (mC (.int 1)) mNil))) (S.start [.d (.ks (ns.map .int))] n []) = .ok (.lst [.int c]) (S.start [.d (.ks (ns.map .int))] n []) := e1
  unfold srcM fCall
  rw [cons_at q1 (show (mCons (mC (.int 0)) mNil) (S.start [.d (.ks (ns.map .int))] n []) = .ok [.int 0] _ from rfl)]
  exact e2
/-- the last part, with its own source -/
theorem rnR_at {B : MS} {n m : Nat} {seed K : Int} (hB : RnR B n [] K fun d => d = .bl true) (hK : K < 1000000) (ns : List Int) (hl : ns.length ≤ 63) : ∃ st', mCallR B n [] (rFr (srcM seed) rNil) (S.start [.d (.ks (ns.map .int))] m []) = .ok (.bl true) st' := by
  obtain ⟨a, b, e⟩ := src_at seed ns hl m
  have q : rFr (srcM seed) rNil (S.start [.d (.ks (ns.map .int))] m []) = .ok (.rf 0 :: ([] : List D).map .d) ((S.start [.d (.ks (ns.map .int))] m []).addC (S.start [.d (.ks (ns.map .int))] m []).sl.length (tinC a b 0)) := by
    unfold rFr
    rw [e]
    rfl
  obtain ⟨d, a', t', rfl, _, _, e2⟩ := callR_at hB q rfl (Int.le_refl 0) (by omega)
  exact ⟨_, e2⟩
theorem law_rnR {A B : MS} {a n : Nat} {seed K : Int} (hA : trueS (A (S.start [] a [])) = true) (hB : RnR B n [] K fun d => d = .bl true) (hK : K < 1000000) (ns : List Int) (hl : ns.length ≤ 63) :
    trueS (mRet (mAnd (mCall A a [] mNil) (mCallR B n [] (rFr (srcM seed) rNil))) (S.start [.d (.ks (ns.map .int))] 1 [])) = true := by
  obtain ⟨st', e⟩ := rnR_at (seed := seed) (m := 1) hB hK ns hl
  refine ret_true (st1 := st') ?_
  unfold mAnd
  rw [call0_at hA]
  exact e
end RE
set_option maxHeartbeats 2000000
namespace RE.K04
open PySem PySem.Spec PyProof.Rows L2 RE
def topS (i : Nat) : Stmt := PySem.Challenge.pw_tatamirooms_k04_whole_rims_and_points.main.body.getD i (.Pass ⟨0, 0, 0, 0⟩)
abbrev s_pushed : Stmt := topS 7
abbrev N_pushed : List Str := ["square", "ways", "x", "y", "i", "j"]
abbrev P_pushed : List Str := ["square", "ways"]
theorem sc_pushed : FnScope N_pushed P_pushed (defScope s_pushed) := ⟨rfl, rfl, rfl, by decide +kernel, rfl, by decide +kernel, by decide +kernel⟩
abbrev s_within : Stmt := topS 8
abbrev N_within : List Str := ["room", "pairs", "pair"]
abbrev P_within : List Str := ["room", "pairs"]
theorem sc_within : FnScope N_within P_within (defScope s_within) := ⟨rfl, rfl, rfl, by decide +kernel, rfl, by decide +kernel, by decide +kernel⟩
abbrev s_table_of : Stmt := topS 9
abbrev N_table_of : List Str := ["room", "square"]
abbrev P_table_of : List Str := ["room"]
theorem sc_table_of : FnScope N_table_of P_table_of (defScope s_table_of) := ⟨rfl, rfl, rfl, by decide +kernel, rfl, by decide +kernel, by decide +kernel⟩
abbrev s_points_of : Stmt := topS 13
abbrev N_points_of : List Str := ["room", "own", "x", "y"]
abbrev P_points_of : List Str := ["room"]
theorem sc_points_of : FnScope N_points_of P_points_of (defScope s_points_of) := ⟨rfl, rfl, rfl, by decide +kernel, rfl, by decide +kernel, by decide +kernel⟩
abbrev s_inner_of : Stmt := topS 10
abbrev N_inner_of : List Str := ["room", "points", "x", "y"]
abbrev P_inner_of : List Str := ["room"]
theorem sc_inner_of : FnScope N_inner_of P_inner_of (defScope s_inner_of) := ⟨rfl, rfl, rfl, by decide +kernel, rfl, by decide +kernel, by decide +kernel⟩
abbrev s_rim_of : Stmt := topS 11
abbrev N_rim_of : List Str := ["room", "held", "square"]
abbrev P_rim_of : List Str := ["room"]
theorem sc_rim_of : FnScope N_rim_of P_rim_of (defScope s_rim_of) := ⟨rfl, rfl, rfl, by decide +kernel, rfl, by decide +kernel, by decide +kernel⟩
abbrev s_four_about : Stmt := topS 12
abbrev N_four_about : List Str := ["point", "x", "y"]
abbrev P_four_about : List Str := ["point"]
theorem sc_four_about : FnScope N_four_about P_four_about (defScope s_four_about) := ⟨rfl, rfl, rfl, by decide +kernel, rfl, by decide +kernel, by decide +kernel⟩
abbrev s_is_number : Stmt := topS 15
abbrev N_is_number : List Str := ["value"]
abbrev P_is_number : List Str := ["value"]
theorem sc_is_number : FnScope N_is_number P_is_number (defScope s_is_number) := ⟨rfl, rfl, rfl, by decide +kernel, rfl, by decide +kernel, by decide +kernel⟩
abbrev s_needed : Stmt := topS 16
abbrev N_needed : List Str := ["plain"]
abbrev P_needed : List Str := ["plain"]
theorem sc_needed : FnScope N_needed P_needed (defScope s_needed) := ⟨rfl, rfl, rfl, by decide +kernel, rfl, by decide +kernel, by decide +kernel⟩
abbrev s_plain_pair : Stmt := topS 17
abbrev N_plain_pair : List Str := ["value", "x", "y"]
abbrev P_plain_pair : List Str := ["value"]
theorem sc_plain_pair : FnScope N_plain_pair P_plain_pair (defScope s_plain_pair) := ⟨rfl, rfl, rfl, by decide +kernel, rfl, by decide +kernel, by decide +kernel⟩
abbrev s_plain_square : Stmt := topS 18
abbrev N_plain_square : List Str := ["value", "pair"]
abbrev P_plain_square : List Str := ["value"]
theorem sc_plain_square : FnScope N_plain_square P_plain_square (defScope s_plain_square) := ⟨rfl, rfl, rfl, by decide +kernel, rfl, by decide +kernel, by decide +kernel⟩
abbrev s_plain_items : Stmt := topS 19
abbrev N_plain_items : List Str := ["value", "read", "found", "item"]
abbrev P_plain_items : List Str := ["value", "read"]
theorem sc_plain_items : FnScope N_plain_items P_plain_items (defScope s_plain_items) := ⟨rfl, rfl, rfl, by decide +kernel, rfl, by decide +kernel, by decide +kernel⟩
abbrev s_plain_set : Stmt := topS 20
abbrev N_plain_set : List Str := ["value", "read", "items", "at"]
abbrev P_plain_set : List Str := ["value", "read"]
theorem sc_plain_set : FnScope N_plain_set P_plain_set (defScope s_plain_set) := ⟨rfl, rfl, rfl, by decide +kernel, rfl, by decide +kernel, by decide +kernel⟩
abbrev s_plain_room : Stmt := topS 21
abbrev N_plain_room : List Str := ["value"]
abbrev P_plain_room : List Str := ["value"]
theorem sc_plain_room : FnScope N_plain_room P_plain_room (defScope s_plain_room) := ⟨rfl, rfl, rfl, by decide +kernel, rfl, by decide +kernel, by decide +kernel⟩
abbrev s_need_room : Stmt := topS 22
abbrev N_need_room : List Str := ["value"]
abbrev P_need_room : List Str := ["value"]
theorem sc_need_room : FnScope N_need_room P_need_room (defScope s_need_room) := ⟨rfl, rfl, rfl, by decide +kernel, rfl, by decide +kernel, by decide +kernel⟩
abbrev s_need_pair : Stmt := topS 23
abbrev N_need_pair : List Str := ["value"]
abbrev P_need_pair : List Str := ["value"]
theorem sc_need_pair : FnScope N_need_pair P_need_pair (defScope s_need_pair) := ⟨rfl, rfl, rfl, by decide +kernel, rfl, by decide +kernel, by decide +kernel⟩
abbrev s_check_square : Stmt := topS 24
abbrev N_check_square : List Str := ["room", "square"]
abbrev P_check_square : List Str := ["room", "square"]
theorem sc_check_square : FnScope N_check_square P_check_square (defScope s_check_square) := ⟨rfl, rfl, rfl, by decide +kernel, rfl, by decide +kernel, by decide +kernel⟩
abbrev s_beside : Stmt := topS 26
abbrev N_beside : List Str := ["room", "square"]
abbrev P_beside : List Str := ["room", "square"]
theorem sc_beside : FnScope N_beside P_beside (defScope s_beside) := ⟨rfl, rfl, rfl, by decide +kernel, rfl, by decide +kernel, by decide +kernel⟩
abbrev s_around : Stmt := topS 27
abbrev N_around : List Str := ["room", "square"]
abbrev P_around : List Str := ["room", "square"]
theorem sc_around : FnScope N_around P_around (defScope s_around) := ⟨rfl, rfl, rfl, by decide +kernel, rfl, by decide +kernel, by decide +kernel⟩
abbrev s_rim : Stmt := topS 28
abbrev N_rim : List Str := ["room"]
abbrev P_rim : List Str := ["room"]
theorem sc_rim : FnScope N_rim P_rim (defScope s_rim) := ⟨rfl, rfl, rfl, by decide +kernel, rfl, by decide +kernel, by decide +kernel⟩
abbrev s_inner : Stmt := topS 29
abbrev N_inner : List Str := ["room"]
abbrev P_inner : List Str := ["room"]
theorem sc_inner : FnScope N_inner P_inner (defScope s_inner) := ⟨rfl, rfl, rfl, by decide +kernel, rfl, by decide +kernel, by decide +kernel⟩
abbrev s_points : Stmt := topS 30
abbrev N_points : List Str := ["room"]
abbrev P_points : List Str := ["room"]
theorem sc_points : FnScope N_points P_points (defScope s_points) := ⟨rfl, rfl, rfl, by decide +kernel, rfl, by decide +kernel, by decide +kernel⟩
abbrev s_about : Stmt := topS 31
abbrev N_about : List Str := ["room", "point", "four"]
abbrev P_about : List Str := ["room", "point"]
theorem sc_about : FnScope N_about P_about (defScope s_about) := ⟨rfl, rfl, rfl, by decide +kernel, rfl, by decide +kernel, by decide +kernel⟩
abbrev s__law_box : Stmt := topS 33
abbrev N__law_box : List Str := ["script", "k", "bit_so"]
abbrev P__law_box : List Str := ["script", "k"]
theorem sc__law_box : FnScope N__law_box P__law_box (defScope s__law_box) := ⟨rfl, rfl, rfl, by decide +kernel, rfl, by decide +kernel, by decide +kernel⟩
abbrev s__law_take : Stmt := topS 34
abbrev N__law_take : List Str := ["tin", "below_so", "drawn_so", "once_so", "wide_so", "twice_so"]
abbrev P__law_take : List Str := ["tin", "below_so"]
theorem sc__law_take : FnScope N__law_take P__law_take (defScope s__law_take) := ⟨rfl, rfl, rfl, by decide +kernel, rfl, by decide +kernel, by decide +kernel⟩
abbrev s__law_cells : Stmt := topS 35
abbrev N__law_cells : List Str := ["script", "most_so", "cells_so", "k", "bit_so", "at_so"]
abbrev P__law_cells : List Str := ["script", "most_so"]
theorem sc__law_cells : FnScope N__law_cells P__law_cells (defScope s__law_cells) := ⟨rfl, rfl, rfl, by decide +kernel, rfl, by decide +kernel, by decide +kernel⟩
abbrev s__law_of : Stmt := topS 36
abbrev N__law_of : List Str := ["tin", "goods_so"]
abbrev P__law_of : List Str := ["tin", "goods_so"]
theorem sc__law_of : FnScope N__law_of P__law_of (defScope s__law_of) := ⟨rfl, rfl, rfl, by decide +kernel, rfl, by decide +kernel, by decide +kernel⟩
abbrev s__law_pick : Stmt := topS 37
abbrev N__law_pick : List Str := ["tin", "goods_so", "count_so", "pool_so", "found", "lap"]
abbrev P__law_pick : List Str := ["tin", "goods_so", "count_so"]
theorem sc__law_pick : FnScope N__law_pick P__law_pick (defScope s__law_pick) := ⟨rfl, rfl, rfl, by decide +kernel, rfl, by decide +kernel, by decide +kernel⟩
abbrev s__law_lists : Stmt := topS 38
abbrev N__law_lists : List Str := ["matter", "bit"]
abbrev P__law_lists : List Str := ["matter"]
theorem sc__law_lists : FnScope N__law_lists P__law_lists (defScope s__law_lists) := ⟨rfl, rfl, rfl, by decide +kernel, rfl, by decide +kernel, by decide +kernel⟩
abbrev s__law_same : Stmt := topS 39
abbrev N__law_same : List Str := ["got", "due", "mine", "its"]
abbrev P__law_same : List Str := ["got", "due"]
theorem sc__law_same : FnScope N__law_same P__law_same (defScope s__law_same) := ⟨rfl, rfl, rfl, by decide +kernel, rfl, by decide +kernel, by decide +kernel⟩
abbrev s__law_over : Stmt := topS 40
abbrev N__law_over : List Str := ["spot", "kind_so", "step_so"]
abbrev P__law_over : List Str := ["spot", "kind_so"]
theorem sc__law_over : FnScope N__law_over P__law_over (defScope s__law_over) := ⟨rfl, rfl, rfl, by decide +kernel, rfl, by decide +kernel, by decide +kernel⟩
abbrev s__law_beside : Stmt := topS 41
abbrev N__law_beside : List Str := ["spot", "own"]
abbrev P__law_beside : List Str := ["spot"]
theorem sc__law_beside : FnScope N__law_beside P__law_beside (defScope s__law_beside) := ⟨rfl, rfl, rfl, by decide +kernel, rfl, by decide +kernel, by decide +kernel⟩
abbrev s__law_around : Stmt := topS 42
abbrev N__law_around : List Str := ["spot", "found", "i", "j"]
abbrev P__law_around : List Str := ["spot"]
theorem sc__law_around : FnScope N__law_around P__law_around (defScope s__law_around) := ⟨rfl, rfl, rfl, by decide +kernel, rfl, by decide +kernel, by decide +kernel⟩
abbrev s__law_rim : Stmt := topS 43
abbrev N__law_rim : List Str := ["ground", "spot", "own"]
abbrev P__law_rim : List Str := ["ground"]
theorem sc__law_rim : FnScope N__law_rim P__law_rim (defScope s__law_rim) := ⟨rfl, rfl, rfl, by decide +kernel, rfl, by decide +kernel, by decide +kernel⟩
abbrev s__law_four : Stmt := topS 44
abbrev N__law_four : List Str := ["point_so", "x", "y"]
abbrev P__law_four : List Str := ["point_so"]
theorem sc__law_four : FnScope N__law_four P__law_four (defScope s__law_four) := ⟨rfl, rfl, rfl, by decide +kernel, rfl, by decide +kernel, by decide +kernel⟩
abbrev s__law_points : Stmt := topS 45
abbrev N__law_points : List Str := ["ground", "spot", "own"]
abbrev P__law_points : List Str := ["ground"]
theorem sc__law_points : FnScope N__law_points P__law_points (defScope s__law_points) := ⟨rfl, rfl, rfl, by decide +kernel, rfl, by decide +kernel, by decide +kernel⟩
abbrev s__law_boxed : Stmt := topS 46
abbrev N__law_boxed : List Str := ["high_so", "wide_so", "found", "x", "y"]
abbrev P__law_boxed : List Str := ["high_so", "wide_so"]
theorem sc__law_boxed : FnScope N__law_boxed P__law_boxed (defScope s__law_boxed) := ⟨rfl, rfl, rfl, by decide +kernel, rfl, by decide +kernel, by decide +kernel⟩
abbrev s__law_room : Stmt := topS 47
abbrev N__law_room : List Str := ["tin", "most_so", "x", "y", "kind_so", "wide_so", "high_so", "found", "lap", "near_so", "spot", "far_so", "i", "j", "own"]
abbrev P__law_room : List Str := ["tin", "most_so"]
theorem sc__law_room : FnScope N__law_room P__law_room (defScope s__law_room) := ⟨rfl, rfl, rfl, by decide +kernel, rfl, by decide +kernel, by decide +kernel⟩
abbrev s__law_nook : Stmt := topS 48
abbrev N__law_nook : List Str := []
abbrev P__law_nook : List Str := []
theorem sc__law_nook : FnScope N__law_nook P__law_nook (defScope s__law_nook) := ⟨rfl, rfl, rfl, by decide +kernel, rfl, by decide +kernel, by decide +kernel⟩
abbrev s__law_hall : Stmt := topS 49
abbrev N__law_hall : List Str := []
abbrev P__law_hall : List Str := []
theorem sc__law_hall : FnScope N__law_hall P__law_hall (defScope s__law_hall) := ⟨rfl, rfl, rfl, by decide +kernel, rfl, by decide +kernel, by decide +kernel⟩
abbrev s__law_hand_right : Stmt := topS 50
abbrev N__law_hand_right : List Str := ["nook", "hall", "eight_so", "got", "due", "wide"]
abbrev P__law_hand_right : List Str := []
theorem sc__law_hand_right : FnScope N__law_hand_right P__law_hand_right (defScope s__law_hand_right) := ⟨rfl, rfl, rfl, by decide +kernel, rfl, by decide +kernel, by decide +kernel⟩
abbrev s__law_ground_right : Stmt := topS 51
abbrev N__law_ground_right : List Str := ["tin", "ground", "soft", "spots_so", "rim_so", "got", "own", "due", "its"]
abbrev P__law_ground_right : List Str := ["tin", "ground"]
theorem sc__law_ground_right : FnScope N__law_ground_right P__law_ground_right (defScope s__law_ground_right) := ⟨rfl, rfl, rfl, by decide +kernel, rfl, by decide +kernel, by decide +kernel⟩
abbrev s__law_right : Stmt := topS 52
abbrev N__law_right : List Str := ["tin", "some_so"]
abbrev P__law_right : List Str := ["tin"]
theorem sc__law_right : FnScope N__law_right P__law_right (defScope s__law_right) := ⟨rfl, rfl, rfl, by decide +kernel, rfl, by decide +kernel, by decide +kernel⟩
abbrev s_law : Stmt := topS 53
abbrev N_law : List Str := ["script"]
abbrev P_law : List Str := ["script"]
theorem sc_law : FnScope N_law P_law (defScope s_law) := ⟨rfl, rfl, rfl, by decide +kernel, rfl, by decide +kernel, by decide +kernel⟩
/-- what the top has written -/
structure Tx (mg : Str → Option Value) (g : G) (fd : Nat → FuncData) : Prop where
  F_pushed : Fun g.K "pushed" "pushed" s_pushed (g.F 0) (fd 0)
  b_pushed : Binds g.K (fd 0) P_pushed []
  m_pushed : mg "pushed" = some (.ref (g.F 0))
  F_within : Fun g.K "within" "within" s_within (g.F 1) (fd 1)
  b_within : Binds g.K (fd 1) P_within []
  m_within : mg "within" = some (.ref (g.F 1))
  F_table_of : Fun g.K "table_of" "table_of" s_table_of (g.F 2) (fd 2)
  b_table_of : Binds g.K (fd 2) P_table_of []
  m_table_of : mg "table_of" = some (.ref (g.F 2))
  F_points_of : Fun g.K "points_of" "points_of" s_points_of (g.F 6) (fd 6)
  b_points_of : Binds g.K (fd 6) P_points_of []
  m_points_of : mg "points_of" = some (.ref (g.F 6))
  F_inner_of : Fun g.K "inner_of" "inner_of" s_inner_of (g.F 3) (fd 3)
  b_inner_of : Binds g.K (fd 3) P_inner_of []
  m_inner_of : mg "inner_of" = some (.ref (g.F 3))
  F_rim_of : Fun g.K "rim_of" "rim_of" s_rim_of (g.F 4) (fd 4)
  b_rim_of : Binds g.K (fd 4) P_rim_of []
  m_rim_of : mg "rim_of" = some (.ref (g.F 4))
  F_four_about : Fun g.K "four_about" "four_about" s_four_about (g.F 5) (fd 5)
  b_four_about : Binds g.K (fd 5) P_four_about []
  m_four_about : mg "four_about" = some (.ref (g.F 5))
  F_is_number : Fun g.K "is_number" "is_number" s_is_number (g.F 7) (fd 7)
  b_is_number : Binds g.K (fd 7) P_is_number []
  m_is_number : mg "is_number" = some (.ref (g.F 7))
  F_needed : Fun g.K "needed" "needed" s_needed (g.F 8) (fd 8)
  b_needed : Binds g.K (fd 8) P_needed []
  m_needed : mg "needed" = some (.ref (g.F 8))
  F_plain_pair : Fun g.K "plain_pair" "plain_pair" s_plain_pair (g.F 9) (fd 9)
  b_plain_pair : Binds g.K (fd 9) P_plain_pair []
  m_plain_pair : mg "plain_pair" = some (.ref (g.F 9))
  F_plain_square : Fun g.K "plain_square" "plain_square" s_plain_square (g.F 10) (fd 10)
  b_plain_square : Binds g.K (fd 10) P_plain_square []
  m_plain_square : mg "plain_square" = some (.ref (g.F 10))
  F_plain_items : Fun g.K "plain_items" "plain_items" s_plain_items (g.F 11) (fd 11)
  b_plain_items : Binds g.K (fd 11) P_plain_items []
  m_plain_items : mg "plain_items" = some (.ref (g.F 11))
  F_plain_set : Fun g.K "plain_set" "plain_set" s_plain_set (g.F 12) (fd 12)
  b_plain_set : Binds g.K (fd 12) P_plain_set []
  m_plain_set : mg "plain_set" = some (.ref (g.F 12))
  F_plain_room : Fun g.K "plain_room" "plain_room" s_plain_room (g.F 13) (fd 13)
  b_plain_room : Binds g.K (fd 13) P_plain_room []
  m_plain_room : mg "plain_room" = some (.ref (g.F 13))
  F_need_room : Fun g.K "need_room" "need_room" s_need_room (g.F 14) (fd 14)
  b_need_room : Binds g.K (fd 14) P_need_room []
  m_need_room : mg "need_room" = some (.ref (g.F 14))
  F_need_pair : Fun g.K "need_pair" "need_pair" s_need_pair (g.F 15) (fd 15)
  b_need_pair : Binds g.K (fd 15) P_need_pair []
  m_need_pair : mg "need_pair" = some (.ref (g.F 15))
  F_check_square : Fun g.K "check_square" "check_square" s_check_square (g.F 16) (fd 16)
  b_check_square : Binds g.K (fd 16) P_check_square []
  m_check_square : mg "check_square" = some (.ref (g.F 16))
  F_beside : Fun g.K "beside" "beside" s_beside (g.F 17) (fd 17)
  b_beside : Binds g.K (fd 17) P_beside []
  m_beside : mg "beside" = some (.ref (g.F 17))
  F_around : Fun g.K "around" "around" s_around (g.F 18) (fd 18)
  b_around : Binds g.K (fd 18) P_around []
  m_around : mg "around" = some (.ref (g.F 18))
  F_rim : Fun g.K "rim" "rim" s_rim (g.F 19) (fd 19)
  b_rim : Binds g.K (fd 19) P_rim []
  m_rim : mg "rim" = some (.ref (g.F 19))
  F_inner : Fun g.K "inner" "inner" s_inner (g.F 20) (fd 20)
  b_inner : Binds g.K (fd 20) P_inner []
  m_inner : mg "inner" = some (.ref (g.F 20))
  F_points : Fun g.K "points" "points" s_points (g.F 21) (fd 21)
  b_points : Binds g.K (fd 21) P_points []
  m_points : mg "points" = some (.ref (g.F 21))
  F_about : Fun g.K "about" "about" s_about (g.F 22) (fd 22)
  b_about : Binds g.K (fd 22) P_about []
  m_about : mg "about" = some (.ref (g.F 22))
  F__law_box : Fun g.K "_law_box" "_law_box" s__law_box (g.F 23) (fd 23)
  b__law_box : Binds g.K (fd 23) P__law_box []
  m__law_box : mg "_law_box" = some (.ref (g.F 23))
  F__law_take : Fun g.K "_law_take" "_law_take" s__law_take (g.F 24) (fd 24)
  b__law_take : Binds g.K (fd 24) P__law_take []
  m__law_take : mg "_law_take" = some (.ref (g.F 24))
  F__law_cells : Fun g.K "_law_cells" "_law_cells" s__law_cells (g.F 25) (fd 25)
  b__law_cells : Binds g.K (fd 25) P__law_cells []
  m__law_cells : mg "_law_cells" = some (.ref (g.F 25))
  F__law_of : Fun g.K "_law_of" "_law_of" s__law_of (g.F 26) (fd 26)
  b__law_of : Binds g.K (fd 26) P__law_of []
  m__law_of : mg "_law_of" = some (.ref (g.F 26))
  F__law_pick : Fun g.K "_law_pick" "_law_pick" s__law_pick (g.F 27) (fd 27)
  b__law_pick : Binds g.K (fd 27) P__law_pick []
  m__law_pick : mg "_law_pick" = some (.ref (g.F 27))
  F__law_lists : Fun g.K "_law_lists" "_law_lists" s__law_lists (g.F 28) (fd 28)
  b__law_lists : Binds g.K (fd 28) P__law_lists []
  m__law_lists : mg "_law_lists" = some (.ref (g.F 28))
  F__law_same : Fun g.K "_law_same" "_law_same" s__law_same (g.F 29) (fd 29)
  b__law_same : Binds g.K (fd 29) P__law_same []
  m__law_same : mg "_law_same" = some (.ref (g.F 29))
  F__law_over : Fun g.K "_law_over" "_law_over" s__law_over (g.F 30) (fd 30)
  b__law_over : Binds g.K (fd 30) P__law_over []
  m__law_over : mg "_law_over" = some (.ref (g.F 30))
  F__law_beside : Fun g.K "_law_beside" "_law_beside" s__law_beside (g.F 31) (fd 31)
  b__law_beside : Binds g.K (fd 31) P__law_beside []
  m__law_beside : mg "_law_beside" = some (.ref (g.F 31))
  F__law_around : Fun g.K "_law_around" "_law_around" s__law_around (g.F 32) (fd 32)
  b__law_around : Binds g.K (fd 32) P__law_around []
  m__law_around : mg "_law_around" = some (.ref (g.F 32))
  F__law_rim : Fun g.K "_law_rim" "_law_rim" s__law_rim (g.F 33) (fd 33)
  b__law_rim : Binds g.K (fd 33) P__law_rim []
  m__law_rim : mg "_law_rim" = some (.ref (g.F 33))
  F__law_four : Fun g.K "_law_four" "_law_four" s__law_four (g.F 34) (fd 34)
  b__law_four : Binds g.K (fd 34) P__law_four []
  m__law_four : mg "_law_four" = some (.ref (g.F 34))
  F__law_points : Fun g.K "_law_points" "_law_points" s__law_points (g.F 35) (fd 35)
  b__law_points : Binds g.K (fd 35) P__law_points []
  m__law_points : mg "_law_points" = some (.ref (g.F 35))
  F__law_boxed : Fun g.K "_law_boxed" "_law_boxed" s__law_boxed (g.F 36) (fd 36)
  b__law_boxed : Binds g.K (fd 36) P__law_boxed []
  m__law_boxed : mg "_law_boxed" = some (.ref (g.F 36))
  F__law_room : Fun g.K "_law_room" "_law_room" s__law_room (g.F 37) (fd 37)
  b__law_room : Binds g.K (fd 37) P__law_room []
  m__law_room : mg "_law_room" = some (.ref (g.F 37))
  F__law_nook : Fun g.K "_law_nook" "_law_nook" s__law_nook (g.F 38) (fd 38)
  b__law_nook : Binds g.K (fd 38) P__law_nook []
  m__law_nook : mg "_law_nook" = some (.ref (g.F 38))
  F__law_hall : Fun g.K "_law_hall" "_law_hall" s__law_hall (g.F 39) (fd 39)
  b__law_hall : Binds g.K (fd 39) P__law_hall []
  m__law_hall : mg "_law_hall" = some (.ref (g.F 39))
  F__law_hand_right : Fun g.K "_law_hand_right" "_law_hand_right" s__law_hand_right (g.F 40) (fd 40)
  b__law_hand_right : Binds g.K (fd 40) P__law_hand_right []
  m__law_hand_right : mg "_law_hand_right" = some (.ref (g.F 40))
  F__law_ground_right : Fun g.K "_law_ground_right" "_law_ground_right" s__law_ground_right (g.F 41) (fd 41)
  b__law_ground_right : Binds g.K (fd 41) P__law_ground_right []
  m__law_ground_right : mg "_law_ground_right" = some (.ref (g.F 41))
  F__law_right : Fun g.K "_law_right" "_law_right" s__law_right (g.F 42) (fd 42)
  b__law_right : Binds g.K (fd 42) P__law_right []
  m__law_right : mg "_law_right" = some (.ref (g.F 42))
  F_law : Fun g.K "law" "law" s_law (g.F 43) (fd 43)
  b_law : Binds g.K (fd 43) P_law []
  m_law : mg "law" = some (.ref (g.F 43))
  z_abs : mg "abs" = none
  z_all : mg "all" = none
  z_any : mg "any" = none
  z_bool : mg "bool" = none
  z_enumerate : mg "enumerate" = none
  z_int : mg "int" = none
  z_isinstance : mg "isinstance" = none
  z_len : mg "len" = none
  z_list : mg "list" = none
  z_max : mg "max" = none
  z_min : mg "min" = none
  z_range : mg "range" = none
  z_set : mg "set" = none
  z_sorted : mg "sorted" = none
  z_str : mg "str" = none
  z_tuple : mg "tuple" = none
  z_zip : mg "zip" = none
  c_SIDES : ∃ a, mg "SIDES" = some (.ref a) ∧ ∀ A H, Rp g A H (.ref a) (.kt [(.kt [(.int (-1)), (.int 0)]), (.kt [(.int 0), (.int (-1))]), (.kt [(.int 0), (.int 1)]), (.kt [(.int 1), (.int 0)])])
  c_AROUND : ∃ a, mg "AROUND" = some (.ref a) ∧ ∀ A H, Rp g A H (.ref a) (.kt [(.kt [(.int (-1)), (.int (-1))]), (.kt [(.int (-1)), (.int 0)]), (.kt [(.int (-1)), (.int 1)]), (.kt [(.int 0), (.int (-1))]), (.kt [(.int 0), (.int 1)]), (.kt [(.int 1), (.int (-1))]), (.kt [(.int 1), (.int 0)]), (.kt [(.int 1), (.int 1)])])
section
variable {P : Program} {w : World} {mg : Str → Option Value} {base : Heap} {g : G} {fd : Nat → FuncData}
def m_pushed : MS := (mSeq (mTo (tgTL [2, 3]) (mVarF 0))
    (mRet (mLc (miSeq (mVarF 1)) (tgTup [4, 5]) mYes (mTup (mCons (mBin addD (mVarF 2) (mVarF 4)) (mCons (mBin addD (mVarF 3) (mVarF 5)) mNil))) [4, 5])))
theorem ok_pushed (T : Tx mg g fd) : FnOk P w g.K mg base (L2.CX P w) 1 (g.F 0) (fd 0) P_pushed (spF g 2 6 m_pushed) :=
  okF T.F_pushed sc_pushed rfl rfl (by decide) fun cdv A outer s H E hr =>
    (pss_mCons (ps_mTo (pe_mVarF (pv 0)) (pg_tl (by rfl) (pgs_cons (pg_name (i := 2) sc_pushed.nd rfl (by first | exact Or.inl rfl | exact Or.inr rfl)) (pgs_cons (pg_name (i := 3) sc_pushed.nd rfl (by first | exact Or.inl rfl | exact Or.inr rfl)) pgs_nil))) (gok_tl [2, 3]))
    (pss_mOne (ps_mRet (pe_mLc (own := [("i", 4), ("j", 5)]) rfl sc_pushed.nd (pi_mSeq rfl (pe_mVarF (pv 1))) (blkOk_by (own := [("i", 4), ("j", 5)]) (N := N_pushed) (sc := defScope s_pushed) (by decide +kernel)) (gok_tup [4, 5]) (by decide) (fun _ _ _ _ _ => (pg_tup (by rfl) (pgs_cons (pg_name (i := 4) sc_pushed.nd rfl (by first | exact Or.inl rfl | exact Or.inr rfl)) (pgs_cons (pg_name (i := 5) sc_pushed.nd rfl (by first | exact Or.inl rfl | exact Or.inr rfl)) pgs_nil)))) (fun _ _ _ _ _ => pts_mNil) (fun _ _ _ _ _ => (pe_mTup (pa_mCons (pe_mBin op_addU rop_add (pe_mVarF (pv 2)) (pe_mVarF (pv 4))) (pa_mCons (pe_mBin op_addU rop_add (pe_mVarF (pv 3)) (pe_mVarF (pv 5))) pa_mNil))))))))
def m_within : MS := (mRet (mFun tupleD (mCons (mLc (miSeq (mVarF 1)) (tgName 2) (mB (mInB false (mVarF 2) 0)) (mVarF 2) [2]) mNil)))
theorem ok_within (T : Tx mg g fd) : FnOk P w g.K mg base (L2.CX P w) 1 (g.F 1) (fd 1) P_within (spF g 2 3 m_within) :=
  okF T.F_within sc_within rfl rfl (by decide) fun cdv A outer s H E hr =>
    (pss_mOne (ps_mRet (pe_mCallT call_tuple_of rop_tuple (by rfl) T.z_tuple (by decide +kernel) (pa_mCons (pe_mLc (own := [("pair", 2)]) rfl sc_within.nd (pi_mSeq rfl (pe_mVarF (pv 1))) (blkOk_by (own := [("pair", 2)]) (N := N_within) (sc := defScope s_within) (by decide +kernel)) (gok_name 2) (by decide) (fun _ _ _ _ _ => (pg_name (i := 2) sc_within.nd rfl (by first | exact Or.inl rfl | exact Or.inr rfl))) (fun _ _ _ _ _ => (pts_one (pt_mInB (OpR.or (op_inP hr.units) (op_inDc (hu_of hr))) (pe_mVarF (pv 2)) (pv 0) (by with_unfolding_all rfl)))) (fun _ _ _ _ _ => (pe_mVarF (pv 2)))) pa_mNil))))
def m_table_of : MS := (mRet (mDc dkT (miSeq (mVarF 0)) (tgName 1) mYes (mVarF 1) (mC (.bl true)) [1]))
theorem ok_table_of (T : Tx mg g fd) : FnOk P w g.K mg base (L2.CX P w) 1 (g.F 2) (fd 2) P_table_of (spF g 1 2 m_table_of) :=
  okF T.F_table_of sc_table_of rfl rfl (by decide) fun cdv A outer s H E hr =>
    (pss_mOne (ps_mRet (pe_mDc (DK := dkT) (own := [("square", 1)]) hr.units0 rfl sc_table_of.nd (pi_mSeq rfl (pe_mVarF (pv 0))) (blkOk_by (own := [("square", 1)]) (N := N_table_of) (sc := defScope s_table_of) (by decide +kernel)) (gok_name 1) (by decide) (fun _ _ _ _ _ => (pg_name (i := 1) sc_table_of.nd rfl (by first | exact Or.inl rfl | exact Or.inr rfl))) (fun _ _ _ _ _ => pts_mNil) (fun _ _ _ _ _ => (pe_mVarF (pv 1))) (fun _ _ _ _ _ => pe_mBl))))
def m_points_of : MS := (mSeq (mAsg 1 (mCall m_table_of 2 [] (mCons (mVarF 0) mNil)))
    (mRet (mFun tupleD (mCons (mLc (miSeq (mVarF 0)) (tgTup [2, 3]) (mAndT (mB (mInB false (mTup (mCons (mBin subD (mVarF 2) (mC (.int 1))) (mCons (mVarF 3) mNil))) 1)) (mAndT (mB (mInB false (mTup (mCons (mVarF 2) (mCons (mBin subD (mVarF 3) (mC (.int 1))) mNil))) 1)) (mB (mInB false (mTup (mCons (mBin subD (mVarF 2) (mC (.int 1))) (mCons (mBin subD (mVarF 3) (mC (.int 1))) mNil))) 1)))) (mTup (mCons (mVarF 2) (mCons (mVarF 3) mNil))) [2, 3]) mNil))))
theorem ok_points_of (T : Tx mg g fd) : FnOk P w g.K mg base (L2.CX P w) 2 (g.F 6) (fd 6) P_points_of (spF g 1 4 m_points_of) :=
  okF T.F_points_of sc_points_of rfl rfl (by decide) fun cdv A outer s H E hr =>
    have tk := takes_of (E := E) rfl rfl rfl rfl
    (pss_mCons (ps_mAsg (i := 1) sc_points_of.nd rfl (by first | exact Or.inl rfl | exact Or.inr rfl) (pe_mCall (ok_table_of T) (hr.mono (by decide)) (by rfl) T.m_table_of T.F_table_of.kp T.b_table_of .nil (passT tk) (dfl := []) (fun _ _ => RpA.nil) hE_of (pa_mCons (pe_mVarF (pv 0)) pa_mNil) (len_cons len_nil) rfl))
    (pss_mOne (ps_mRet (pe_mCallT call_tuple_of rop_tuple (by rfl) T.z_tuple (by decide +kernel) (pa_mCons (pe_mLc (own := [("x", 2), ("y", 3)]) rfl sc_points_of.nd (pi_mSeq rfl (pe_mVarF (pv 0))) (blkOk_by (own := [("x", 2), ("y", 3)]) (N := N_points_of) (sc := defScope s_points_of) (by decide +kernel)) (gok_tup [2, 3]) (by decide) (fun _ _ _ _ _ => (pg_tup (by rfl) (pgs_cons (pg_name (i := 2) sc_points_of.nd rfl (by first | exact Or.inl rfl | exact Or.inr rfl)) (pgs_cons (pg_name (i := 3) sc_points_of.nd rfl (by first | exact Or.inl rfl | exact Or.inr rfl)) pgs_nil)))) (fun _ _ _ _ _ => (pts_one (PW.pt (pw_mAnd (pt_mInB (OpR.or (op_inP hr.units) (op_inDc (hu_of hr))) (pe_mTup (pa_mCons (pe_mBin op_sub rop_sub (pe_mVarF (pv 2)) pe_mInt) (pa_mCons (pe_mVarF (pv 3)) pa_mNil))) (pv 1) (by with_unfolding_all rfl)) (pw_mAnd (pt_mInB (OpR.or (op_inP hr.units) (op_inDc (hu_of hr))) (pe_mTup (pa_mCons (pe_mVarF (pv 2)) (pa_mCons (pe_mBin op_sub rop_sub (pe_mVarF (pv 3)) pe_mInt) pa_mNil))) (pv 1) (by with_unfolding_all rfl)) (pw_and1 (pt_mInB (OpR.or (op_inP hr.units) (op_inDc (hu_of hr))) (pe_mTup (pa_mCons (pe_mBin op_sub rop_sub (pe_mVarF (pv 2)) pe_mInt) (pa_mCons (pe_mBin op_sub rop_sub (pe_mVarF (pv 3)) pe_mInt) pa_mNil))) (pv 1) (by with_unfolding_all rfl)))))))) (fun _ _ _ _ _ => (pe_mTup (pa_mCons (pe_mVarF (pv 2)) (pa_mCons (pe_mVarF (pv 3)) pa_mNil))))) pa_mNil)))))
def m_inner_of : MS := (mSeq (mAsg 1 (mCall m_table_of 2 [] (mCons (mCall m_points_of 4 [] (mCons (mVarF 0) mNil)) mNil)))
    (mRet (mFun tupleD (mCons (mLc (miSeq (mVarF 0)) (tgTup [2, 3]) (mAndT (mB (mInB false (mTup (mCons (mVarF 2) (mCons (mVarF 3) mNil))) 1)) (mAndT (mB (mInB false (mTup (mCons (mBin addD (mVarF 2) (mC (.int 1))) (mCons (mVarF 3) mNil))) 1)) (mAndT (mB (mInB false (mTup (mCons (mVarF 2) (mCons (mBin addD (mVarF 3) (mC (.int 1))) mNil))) 1)) (mB (mInB false (mTup (mCons (mBin addD (mVarF 2) (mC (.int 1))) (mCons (mBin addD (mVarF 3) (mC (.int 1))) mNil))) 1))))) (mTup (mCons (mVarF 2) (mCons (mVarF 3) mNil))) [2, 3]) mNil))))
theorem ok_inner_of (T : Tx mg g fd) : FnOk P w g.K mg base (L2.CX P w) 3 (g.F 3) (fd 3) P_inner_of (spF g 1 4 m_inner_of) :=
  okF T.F_inner_of sc_inner_of rfl rfl (by decide) fun cdv A outer s H E hr =>
    have tk := takes_of (E := E) rfl rfl rfl rfl
    (pss_mCons (ps_mAsg (i := 1) sc_inner_of.nd rfl (by first | exact Or.inl rfl | exact Or.inr rfl) (pe_mCall (ok_table_of T) (hr.mono (by decide)) (by rfl) T.m_table_of T.F_table_of.kp T.b_table_of .nil (passT tk) (dfl := []) (fun _ _ => RpA.nil) hE_of (pa_mCons (pe_mCall (ok_points_of T) (hr.mono (by decide)) (by rfl) T.m_points_of T.F_points_of.kp T.b_points_of .nil (passT tk) (dfl := []) (fun _ _ => RpA.nil) hE_of (pa_mCons (pe_mVarF (pv 0)) pa_mNil) (len_cons len_nil) rfl) pa_mNil) (len_cons len_nil) rfl))
    (pss_mOne (ps_mRet (pe_mCallT call_tuple_of rop_tuple (by rfl) T.z_tuple (by decide +kernel) (pa_mCons (pe_mLc (own := [("x", 2), ("y", 3)]) rfl sc_inner_of.nd (pi_mSeq rfl (pe_mVarF (pv 0))) (blkOk_by (own := [("x", 2), ("y", 3)]) (N := N_inner_of) (sc := defScope s_inner_of) (by decide +kernel)) (gok_tup [2, 3]) (by decide) (fun _ _ _ _ _ => (pg_tup (by rfl) (pgs_cons (pg_name (i := 2) sc_inner_of.nd rfl (by first | exact Or.inl rfl | exact Or.inr rfl)) (pgs_cons (pg_name (i := 3) sc_inner_of.nd rfl (by first | exact Or.inl rfl | exact Or.inr rfl)) pgs_nil)))) (fun _ _ _ _ _ => (pts_one (PW.pt (pw_mAnd (pt_mInB (OpR.or (op_inP hr.units) (op_inDc (hu_of hr))) (pe_mTup (pa_mCons (pe_mVarF (pv 2)) (pa_mCons (pe_mVarF (pv 3)) pa_mNil))) (pv 1) (by with_unfolding_all rfl)) (pw_mAnd (pt_mInB (OpR.or (op_inP hr.units) (op_inDc (hu_of hr))) (pe_mTup (pa_mCons (pe_mBin op_addU rop_add (pe_mVarF (pv 2)) pe_mInt) (pa_mCons (pe_mVarF (pv 3)) pa_mNil))) (pv 1) (by with_unfolding_all rfl)) (pw_mAnd (pt_mInB (OpR.or (op_inP hr.units) (op_inDc (hu_of hr))) (pe_mTup (pa_mCons (pe_mVarF (pv 2)) (pa_mCons (pe_mBin op_addU rop_add (pe_mVarF (pv 3)) pe_mInt) pa_mNil))) (pv 1) (by with_unfolding_all rfl)) (pw_and1 (pt_mInB (OpR.or (op_inP hr.units) (op_inDc (hu_of hr))) (pe_mTup (pa_mCons (pe_mBin op_addU rop_add (pe_mVarF (pv 2)) pe_mInt) (pa_mCons (pe_mBin op_addU rop_add (pe_mVarF (pv 3)) pe_mInt) pa_mNil))) (pv 1) (by with_unfolding_all rfl))))))))) (fun _ _ _ _ _ => (pe_mTup (pa_mCons (pe_mVarF (pv 2)) (pa_mCons (pe_mVarF (pv 3)) pa_mNil))))) pa_mNil)))))
def m_rim_of : MS := (mSeq (mAsg 1 (mCall m_table_of 2 [] (mCons (mCall m_inner_of 4 [] (mCons (mVarF 0) mNil)) mNil)))
    (mRet (mFun tupleD (mCons (mLc (miSeq (mVarF 0)) (tgName 2) (mB (mInB true (mVarF 2) 1)) (mVarF 2) [2]) mNil))))
theorem ok_rim_of (T : Tx mg g fd) : FnOk P w g.K mg base (L2.CX P w) 4 (g.F 4) (fd 4) P_rim_of (spF g 1 3 m_rim_of) :=
  okF T.F_rim_of sc_rim_of rfl rfl (by decide) fun cdv A outer s H E hr =>
    have tk := takes_of (E := E) rfl rfl rfl rfl
    (pss_mCons (ps_mAsg (i := 1) sc_rim_of.nd rfl (by first | exact Or.inl rfl | exact Or.inr rfl) (pe_mCall (ok_table_of T) (hr.mono (by decide)) (by rfl) T.m_table_of T.F_table_of.kp T.b_table_of .nil (passT tk) (dfl := []) (fun _ _ => RpA.nil) hE_of (pa_mCons (pe_mCall (ok_inner_of T) (hr.mono (by decide)) (by rfl) T.m_inner_of T.F_inner_of.kp T.b_inner_of .nil (passT tk) (dfl := []) (fun _ _ => RpA.nil) hE_of (pa_mCons (pe_mVarF (pv 0)) pa_mNil) (len_cons len_nil) rfl) pa_mNil) (len_cons len_nil) rfl))
    (pss_mOne (ps_mRet (pe_mCallT call_tuple_of rop_tuple (by rfl) T.z_tuple (by decide +kernel) (pa_mCons (pe_mLc (own := [("square", 2)]) rfl sc_rim_of.nd (pi_mSeq rfl (pe_mVarF (pv 0))) (blkOk_by (own := [("square", 2)]) (N := N_rim_of) (sc := defScope s_rim_of) (by decide +kernel)) (gok_name 2) (by decide) (fun _ _ _ _ _ => (pg_name (i := 2) sc_rim_of.nd rfl (by first | exact Or.inl rfl | exact Or.inr rfl))) (fun _ _ _ _ _ => (pts_one (pt_mInB (OpR.or (op_notInP hr.units) (op_notInDc (hu_of hr))) (pe_mVarF (pv 2)) (pv 1) (by with_unfolding_all rfl)))) (fun _ _ _ _ _ => (pe_mVarF (pv 2)))) pa_mNil)))))
def m_four_about : MS := (mSeq (mTo (tgTL [1, 2]) (mVarF 0))
    (mRet (mTup (mCons (mTup (mCons (mBin subD (mVarF 1) (mC (.int 1))) (mCons (mBin subD (mVarF 2) (mC (.int 1))) mNil))) (mCons (mTup (mCons (mBin subD (mVarF 1) (mC (.int 1))) (mCons (mVarF 2) mNil))) (mCons (mTup (mCons (mVarF 1) (mCons (mBin subD (mVarF 2) (mC (.int 1))) mNil))) (mCons (mTup (mCons (mVarF 1) (mCons (mVarF 2) mNil))) mNil)))))))
theorem ok_four_about (T : Tx mg g fd) : FnOk P w g.K mg base (L2.CX P w) 1 (g.F 5) (fd 5) P_four_about (spF g 1 3 m_four_about) :=
  okF T.F_four_about sc_four_about rfl rfl (by decide) fun cdv A outer s H E hr =>
    (pss_mCons (ps_mTo (pe_mVarF (pv 0)) (pg_tl (by rfl) (pgs_cons (pg_name (i := 1) sc_four_about.nd rfl (by first | exact Or.inl rfl | exact Or.inr rfl)) (pgs_cons (pg_name (i := 2) sc_four_about.nd rfl (by first | exact Or.inl rfl | exact Or.inr rfl)) pgs_nil))) (gok_tl [1, 2]))
    (pss_mOne (ps_mRet (pe_mTup (pa_mCons (pe_mTup (pa_mCons (pe_mBin op_sub rop_sub (pe_mVarF (pv 1)) pe_mInt) (pa_mCons (pe_mBin op_sub rop_sub (pe_mVarF (pv 2)) pe_mInt) pa_mNil))) (pa_mCons (pe_mTup (pa_mCons (pe_mBin op_sub rop_sub (pe_mVarF (pv 1)) pe_mInt) (pa_mCons (pe_mVarF (pv 2)) pa_mNil))) (pa_mCons (pe_mTup (pa_mCons (pe_mVarF (pv 1)) (pa_mCons (pe_mBin op_sub rop_sub (pe_mVarF (pv 2)) pe_mInt) pa_mNil))) (pa_mCons (pe_mTup (pa_mCons (pe_mVarF (pv 1)) (pa_mCons (pe_mVarF (pv 2)) pa_mNil))) pa_mNil))))))))
def m_is_number : MS := (mRet (mAnd (mIsa .int (mVarF 0)) (mNot (mIsa .bool (mVarF 0)))))
theorem ok_is_number (T : Tx mg g fd) : FnOk P w g.K mg base (L2.CX P w) 1 (g.F 7) (fd 7) P_is_number (spF g 1 1 m_is_number) :=
  okF T.F_is_number sc_is_number rfl rfl (by decide) fun cdv A outer s H E hr =>
    (pss_mOne (ps_mRet (pe_mAnd rfl (pe_mIsa .int rfl (by rfl) T.z_isinstance (pe_mVarF (pv 0)) (tyP (by rfl) T.z_int (by decide +kernel))) (pe_one (pe_mNot rfl (pe_mIsa .bool rfl (by rfl) T.z_isinstance (pe_mVarF (pv 0)) (tyP (by rfl) T.z_bool (by decide +kernel))))))))
def m_needed : MS := (mSeq (mIf (mB (mBin (isND false) (mVarF 0) (mC .non)))
    (fun _ => .no)
    mSkip)
    (mRet (mVarF 0)))
theorem ok_needed (T : Tx mg g fd) : FnOk P w g.K mg base (L2.CX P w) 1 (g.F 8) (fd 8) P_needed (spF g 1 1 m_needed) :=
  okF T.F_needed sc_needed rfl rfl (by decide) fun cdv A outer s H E hr =>
    (pss_mCons (ps_mIf (pt_mCmp op_isN rop_isN (pe_mVarF (pv 0)) pe_mNon (nomark _))
    (pss_mOne ps_mNo)
    pss_mNil)
    (pss_mOne (ps_mRet (pe_mVarF (pv 0)))))
def m_plain_pair : MS := (mSeq (mIf (mOrT (mNotT (mTru (mIsa2 .list .tuple (mVarF 0)))) (mB (mBin neD (mFun lenD (mCons (mVarF 0) mNil)) (mC (.int 2)))))
    (mRet (mC .non))
    mSkip)
    (mSeq (mTo (tgTL [1, 2]) (mVarF 0))
    (mRet (mIfE (mAndT (mTru (mCall m_is_number 1 [] (mCons (mVarF 1) mNil))) (mTru (mCall m_is_number 1 [] (mCons (mVarF 2) mNil)))) (mTup (mCons (mVarF 1) (mCons (mVarF 2) mNil))) (mC .non)))))
theorem ok_plain_pair (T : Tx mg g fd) : FnOk P w g.K mg base (L2.CX P w) 2 (g.F 9) (fd 9) P_plain_pair (spF g 1 3 m_plain_pair) :=
  okF T.F_plain_pair sc_plain_pair rfl rfl (by decide) fun cdv A outer s H E hr =>
    have tk := takes_of (E := E) rfl rfl rfl rfl
    (pss_mCons (ps_mIf (PW.pt (pw_mOr (pt_mNot (pt_mTru rfl (pe_mIsa2 .list .tuple rfl (by rfl) T.z_isinstance (pe_mVarF (pv 0)) (tyP (by rfl) T.z_list (by decide +kernel)) (tyP (by rfl) T.z_tuple (by decide +kernel))) (by intro _; rfl))) (pw_or1 (pt_mCmp (op_neP hr.units) rop_ne (pe_mCallB call_len rop_len (by rfl) T.z_len (by decide +kernel) (pa_mCons (pe_mVarF (pv 0)) pa_mNil)) pe_mInt (nomark _)))))
    (pss_mOne (ps_mRet pe_mNon))
    pss_mNil)
    (pss_mCons (ps_mTo (pe_mVarF (pv 0)) (pg_tl (by rfl) (pgs_cons (pg_name (i := 1) sc_plain_pair.nd rfl (by first | exact Or.inl rfl | exact Or.inr rfl)) (pgs_cons (pg_name (i := 2) sc_plain_pair.nd rfl (by first | exact Or.inl rfl | exact Or.inr rfl)) pgs_nil))) (gok_tl [1, 2]))
    (pss_mOne (ps_mRet (pe_mIfE (PW.pt (pw_mAnd (pt_mTru rfl (pe_mCall (ok_is_number T) (hr.mono (by decide)) (by rfl) T.m_is_number T.F_is_number.kp T.b_is_number .nil (passT tk) (dfl := []) (fun _ _ => RpA.nil) hE_of (pa_mCons (pe_mVarF (pv 1)) pa_mNil) (len_cons len_nil) rfl) (by intro _; rfl)) (pw_and1 (pt_mTru rfl (pe_mCall (ok_is_number T) (hr.mono (by decide)) (by rfl) T.m_is_number T.F_is_number.kp T.b_is_number .nil (passT tk) (dfl := []) (fun _ _ => RpA.nil) hE_of (pa_mCons (pe_mVarF (pv 2)) pa_mNil) (len_cons len_nil) rfl) (by intro _; rfl))))) (pe_mTup (pa_mCons (pe_mVarF (pv 1)) (pa_mCons (pe_mVarF (pv 2)) pa_mNil))) pe_mNon)))))
def m_plain_square : MS := (mSeq (mAsg 1 (mCall m_plain_pair 3 [] (mCons (mVarF 0) mNil)))
    (mSeq (mIf (mOrT (mB (mBin (isND false) (mVarF 1) (mC .non))) (mOrT (mB (mBin ltD (mBin ixD (mVarF 1) (mC (.int 0))) (mC (.int 0)))) (mB (mBin ltD (mBin ixD (mVarF 1) (mC (.int 1))) (mC (.int 0))))))
    (mRet (mC .non))
    mSkip)
    (mRet (mVarF 1))))
theorem ok_plain_square (T : Tx mg g fd) : FnOk P w g.K mg base (L2.CX P w) 3 (g.F 10) (fd 10) P_plain_square (spF g 1 2 m_plain_square) :=
  okF T.F_plain_square sc_plain_square rfl rfl (by decide) fun cdv A outer s H E hr =>
    have tk := takes_of (E := E) rfl rfl rfl rfl
    (pss_mCons (ps_mAsg (i := 1) sc_plain_square.nd rfl (by first | exact Or.inl rfl | exact Or.inr rfl) (pe_mCall (ok_plain_pair T) (hr.mono (by decide)) (by rfl) T.m_plain_pair T.F_plain_pair.kp T.b_plain_pair .nil (passT tk) (dfl := []) (fun _ _ => RpA.nil) hE_of (pa_mCons (pe_mVarF (pv 0)) pa_mNil) (len_cons len_nil) rfl))
    (pss_mCons (ps_mIf (PW.pt (pw_mOr (pt_mCmp op_isN rop_isN (pe_mVarF (pv 1)) pe_mNon (nomark _)) (pw_mOr (pt_mCmp (OpR.or (op_lt) (op_ltP hr.units)) ROp.ord (pe_mIx rfl (hu_of hr) (pe_mVarF (pv 1)) pe_mInt (fun _ _ => rfl) (fun _ _ => rfl)) pe_mInt (nomark _)) (pw_or1 (pt_mCmp (OpR.or (op_lt) (op_ltP hr.units)) ROp.ord (pe_mIx rfl (hu_of hr) (pe_mVarF (pv 1)) pe_mInt (fun _ _ => rfl) (fun _ _ => rfl)) pe_mInt (nomark _))))))
    (pss_mOne (ps_mRet pe_mNon))
    pss_mNil)
    (pss_mOne (ps_mRet (pe_mVarF (pv 1))))))
def tab_plain_items : Nat → Option (MS × Nat)
  | 10 => some (m_plain_square, 2)
  | 9 => some (m_plain_pair, 3)
  | _ => none
theorem h_plain_items (T : Tx mg g fd) : ∀ j ms n, tab_plain_items j = some (ms, n) → ∃ fd ps, FnOk P w g.K mg base (L2.CX P w) 3 (g.F j) fd ps (spF g 1 n ms) ∧ PySem.W.keepIn g.K (.ref (g.F j)) = true ∧ Binds g.K fd ps [] ∧ ps.length = 1 := by
  intro j ms n h
  unfold tab_plain_items at h
  split at h
  · cases Option.some.inj h; exact ⟨_, _, (ok_plain_square T).mono (by decide), T.F_plain_square.kp, T.b_plain_square, rfl⟩
  · cases Option.some.inj h; exact ⟨_, _, (ok_plain_pair T).mono (by decide), T.F_plain_pair.kp, T.b_plain_pair, rfl⟩
  · cases h
def m_plain_items : MS := (mSeq (mIf (mNotT (mTru (mIsa2 .list .tuple (mVarF 0))))
    (mRet (mC .non))
    mSkip)
    (mSeq (mAsg 2 (mLc (miSeq (mVarF 0)) (tgName 3) mYes (mCallV tab_plain_items 1 (mCons (mVarF 3) mNil)) [3]))
    (mRet (mIfE (mB (mInB false (mC .non) 2)) (mC .non) (mFun tupleD (mCons (mVarF 2) mNil))))))
theorem ok_plain_items (T : Tx mg g fd) : FnOk P w g.K mg base (L2.CX P w) 4 (g.F 11) (fd 11) P_plain_items (spF g 2 4 m_plain_items) :=
  okF T.F_plain_items sc_plain_items rfl rfl (by decide) fun cdv A outer s H E hr =>
    (pss_mCons (ps_mIf (pt_mNot (pt_mTru rfl (pe_mIsa2 .list .tuple rfl (by rfl) T.z_isinstance (pe_mVarF (pv 0)) (tyP (by rfl) T.z_list (by decide +kernel)) (tyP (by rfl) T.z_tuple (by decide +kernel))) (by intro _; rfl)))
    (pss_mOne (ps_mRet pe_mNon))
    pss_mNil)
    (pss_mCons (ps_mLc (own := [("item", 3)]) (i := 2) rfl sc_plain_items.nd rfl rfl (sw_true rfl rfl rfl (by decide +kernel)) (pi_mSeq rfl (pe_mVarF (pv 0))) (blkOk_by (own := [("item", 3)]) (N := N_plain_items) (sc := defScope s_plain_items) (by decide +kernel)) (gok_name 3) (by decide) (fun _ _ _ _ _ => (pg_name (i := 3) sc_plain_items.nd rfl (by first | exact Or.inl rfl | exact Or.inr rfl))) (fun _ _ _ _ _ => pts_mNil) (fun _ _ _ _ _ => (pe_mCallV (np := 1) (tab := tab_plain_items) (h_plain_items T) (hr.mono (by decide)) rfl (by first | exact Or.inl rfl | exact Or.inr (Or.inl rfl) | exact Or.inr (Or.inr rfl)) passF hE_no (pa_mCons (pe_mVarF (pv 3)) pa_mNil) (len_cons len_nil))))
    (pss_mOne (ps_mRet (pe_mIfE (pt_mInB (OpR.or (op_inP hr.units) (op_inDc (hu_of hr))) pe_mNon (pv 2) (by with_unfolding_all rfl)) pe_mNon (pe_mCallT call_tuple_of rop_tuple (by rfl) T.z_tuple (by decide +kernel) (pa_mCons (pe_mVarF (pv 2)) pa_mNil)))))))
def m_plain_set : MS := (mSeq (mAsg 2 (mCall m_plain_items 4 [] (mCons (mVarF 0) (mCons (mVarF 1) mNil))))
    (mSeq (mIf (mOrT (mB (mBin (isND false) (mVarF 2) (mC .non))) (mTru (mFun anyD (mCons (mLc (miFun rangeF (mCons (mBin subD (mFun lenD (mCons (mVarF 2) mNil)) (mC (.int 1))) mNil)) (tgName 3) mYes (mBin geD (mBin ixD (mVarF 2) (mVarF 3)) (mBin ixD (mVarF 2) (mBin addD (mVarF 3) (mC (.int 1))))) [3]) mNil))))
    (mRet (mC .non))
    mSkip)
    (mRet (mVarF 2))))
theorem ok_plain_set (T : Tx mg g fd) : FnOk P w g.K mg base (L2.CX P w) 5 (g.F 12) (fd 12) P_plain_set (spF g 2 4 m_plain_set) :=
  okF T.F_plain_set sc_plain_set rfl rfl (by decide) fun cdv A outer s H E hr =>
    have tk := takes_of (E := E) rfl rfl rfl rfl
    (pss_mCons (ps_mAsg (i := 2) sc_plain_set.nd rfl (by first | exact Or.inl rfl | exact Or.inr rfl) (pe_mCall (ok_plain_items T) (hr.mono (by decide)) (by rfl) T.m_plain_items T.F_plain_items.kp T.b_plain_items .nil (passT tk) (dfl := []) (fun _ _ => RpA.nil) hE_of (pa_mCons (pe_mVarF (pv 0)) (pa_mCons (pe_mVarF (pv 1)) pa_mNil)) (len_cons (len_cons len_nil)) rfl))
    (pss_mCons (ps_mIf (PW.pt (pw_mOr (pt_mCmp op_isN rop_isN (pe_mVarF (pv 2)) pe_mNon (nomark _)) (pw_or1 (pt_mTru rfl (pe_mCallB (cr_any rfl) rop_any (by rfl) T.z_any (by decide +kernel) (pa_mCons (pe_mLc (own := [("at", 3)]) rfl sc_plain_set.nd (pi_mRange (by rfl) T.z_range (pa_mCons (pe_mBin op_sub rop_sub (pe_mCallB call_len rop_len (by rfl) T.z_len (by decide +kernel) (pa_mCons (pe_mVarF (pv 2)) pa_mNil)) pe_mInt) pa_mNil)) (blkOk_by (own := [("at", 3)]) (N := N_plain_set) (sc := defScope s_plain_set) (by decide +kernel)) (gok_name 3) (by decide) (fun _ _ _ _ _ => (pg_name (i := 3) sc_plain_set.nd rfl (by first | exact Or.inl rfl | exact Or.inr rfl))) (fun _ _ _ _ _ => pts_mNil) (fun _ _ _ _ _ => (pe_mCmp (OpR.or (op_ge) (op_geP hr.units)) ROp.ord (pe_mIx rfl (hu_of hr) (pe_mVarF (pv 2)) (pe_mVarF (pv 3)) (fun _ _ => rfl) (fun _ _ => rfl)) (pe_mIx rfl (hu_of hr) (pe_mVarF (pv 2)) (pe_mBin op_addU rop_add (pe_mVarF (pv 3)) pe_mInt) (fun _ _ => rfl) (fun _ _ => rfl)) (nomark _)))) pa_mNil)) (by intro _; rfl)))))
    (pss_mOne (ps_mRet pe_mNon))
    pss_mNil)
    (pss_mOne (ps_mRet (pe_mVarF (pv 2))))))
def m_plain_room : MS := (mRet (mOr (mCall m_plain_set 4 [] (mCons (mVarF 0) (mCons (mC (.fn 10)) mNil))) (mC .non)))
theorem ok_plain_room (T : Tx mg g fd) : FnOk P w g.K mg base (L2.CX P w) 6 (g.F 13) (fd 13) P_plain_room (spF g 1 1 m_plain_room) :=
  okF T.F_plain_room sc_plain_room rfl rfl (by decide) fun cdv A outer s H E hr =>
    have tk := takes_of (E := E) rfl rfl rfl rfl
    (pss_mOne (ps_mRet (pe_mOr rfl (pe_mCall (ok_plain_set T) (hr.mono (by decide)) (by rfl) T.m_plain_set T.F_plain_set.kp T.b_plain_set .nil (passT tk) (dfl := []) (fun _ _ => RpA.nil) hE_of (pa_mCons (pe_mVarF (pv 0)) (pa_mCons (pe_mGf T.m_plain_square (by rfl)) pa_mNil)) (len_cons (len_cons len_nil)) rfl) (pe_one pe_mNon))))
def m_need_room : MS := (mRet (mCall m_needed 1 [] (mCons (mCall m_plain_room 1 [] (mCons (mVarF 0) mNil)) mNil)))
theorem ok_need_room (T : Tx mg g fd) : FnOk P w g.K mg base (L2.CX P w) 7 (g.F 14) (fd 14) P_need_room (spF g 1 1 m_need_room) :=
  okF T.F_need_room sc_need_room rfl rfl (by decide) fun cdv A outer s H E hr =>
    have tk := takes_of (E := E) rfl rfl rfl rfl
    (pss_mOne (ps_mRet (pe_mCall (ok_needed T) (hr.mono (by decide)) (by rfl) T.m_needed T.F_needed.kp T.b_needed .nil (passT tk) (dfl := []) (fun _ _ => RpA.nil) hE_of (pa_mCons (pe_mCall (ok_plain_room T) (hr.mono (by decide)) (by rfl) T.m_plain_room T.F_plain_room.kp T.b_plain_room .nil (passT tk) (dfl := []) (fun _ _ => RpA.nil) hE_of (pa_mCons (pe_mVarF (pv 0)) pa_mNil) (len_cons len_nil) rfl) pa_mNil) (len_cons len_nil) rfl)))
def m_need_pair : MS := (mRet (mCall m_needed 1 [] (mCons (mCall m_plain_pair 3 [] (mCons (mVarF 0) mNil)) mNil)))
theorem ok_need_pair (T : Tx mg g fd) : FnOk P w g.K mg base (L2.CX P w) 3 (g.F 15) (fd 15) P_need_pair (spF g 1 1 m_need_pair) :=
  okF T.F_need_pair sc_need_pair rfl rfl (by decide) fun cdv A outer s H E hr =>
    have tk := takes_of (E := E) rfl rfl rfl rfl
    (pss_mOne (ps_mRet (pe_mCall (ok_needed T) (hr.mono (by decide)) (by rfl) T.m_needed T.F_needed.kp T.b_needed .nil (passT tk) (dfl := []) (fun _ _ => RpA.nil) hE_of (pa_mCons (pe_mCall (ok_plain_pair T) (hr.mono (by decide)) (by rfl) T.m_plain_pair T.F_plain_pair.kp T.b_plain_pair .nil (passT tk) (dfl := []) (fun _ _ => RpA.nil) hE_of (pa_mCons (pe_mVarF (pv 0)) pa_mNil) (len_cons len_nil) rfl) pa_mNil) (len_cons len_nil) rfl)))
def m_check_square : MS := (mIf (mB (mInB true (mVarF 1) 0))
    (fun _ => .no)
    mSkip)
theorem ok_check_square (T : Tx mg g fd) : FnOk P w g.K mg base (L2.CX P w) 1 (g.F 16) (fd 16) P_check_square (spF g 2 2 m_check_square) :=
  okF T.F_check_square sc_check_square rfl rfl (by decide) fun cdv A outer s H E hr =>
    (pss_mOne (ps_mIf (pt_mInB (OpR.or (op_notInP hr.units) (op_notInDc (hu_of hr))) (pe_mVarF (pv 1)) (pv 0) (by with_unfolding_all rfl))
    (pss_mOne ps_mNo)
    pss_mNil))
def m_beside : MS := (mSeq (mPar [0, 1] (mCons (mCall m_need_room 1 [] (mCons (mVarF 0) mNil)) (mCons (mCall m_need_pair 1 [] (mCons (mVarF 1) mNil)) mNil)))
    (mSeq (mDrop (mCall m_check_square 2 [] (mCons (mVarF 0) (mCons (mVarF 1) mNil))))
    (mRet (mCall m_within 3 [] (mCons (mVarF 0) (mCons (mCall m_pushed 6 [] (mCons (mVarF 1) (mCons (mC (.kt [(.kt [(.int (-1)), (.int 0)]), (.kt [(.int 0), (.int (-1))]), (.kt [(.int 0), (.int 1)]), (.kt [(.int 1), (.int 0)])])) mNil))) mNil))))))
theorem ok_beside (T : Tx mg g fd) : FnOk P w g.K mg base (L2.CX P w) 8 (g.F 17) (fd 17) P_beside (spF g 2 2 m_beside) :=
  okF T.F_beside sc_beside rfl rfl (by decide) fun cdv A outer s H E hr =>
    have tk := takes_of (E := E) rfl rfl rfl rfl
    (pss_mCons (ps_mPar (i := 0) (j := 1) rfl sc_beside.nd rfl rfl (by decide) rfl rfl (pa_mCons (pe_mCall (ok_need_room T) (hr.mono (by decide)) (by rfl) T.m_need_room T.F_need_room.kp T.b_need_room .nil (passT tk) (dfl := []) (fun _ _ => RpA.nil) hE_of (pa_mCons (pe_mVarF (pv 0)) pa_mNil) (len_cons len_nil) rfl) (pa_mCons (pe_mCall (ok_need_pair T) (hr.mono (by decide)) (by rfl) T.m_need_pair T.F_need_pair.kp T.b_need_pair .nil (passT tk) (dfl := []) (fun _ _ => RpA.nil) hE_of (pa_mCons (pe_mVarF (pv 1)) pa_mNil) (len_cons len_nil) rfl) pa_mNil)) (by rfl))
    (pss_mCons (ps_mDrop (pe_mCall (ok_check_square T) (hr.mono (by decide)) (by rfl) T.m_check_square T.F_check_square.kp T.b_check_square .nil (passT tk) (dfl := []) (fun _ _ => RpA.nil) hE_of (pa_mCons (pe_mVarF (pv 0)) (pa_mCons (pe_mVarF (pv 1)) pa_mNil)) (len_cons (len_cons len_nil)) rfl))
    (pss_mOne (ps_mRet (pe_mCall (ok_within T) (hr.mono (by decide)) (by rfl) T.m_within T.F_within.kp T.b_within .nil (passT tk) (dfl := []) (fun _ _ => RpA.nil) hE_of (pa_mCons (pe_mVarF (pv 0)) (pa_mCons (pe_mCall (ok_pushed T) (hr.mono (by decide)) (by rfl) T.m_pushed T.F_pushed.kp T.b_pushed .nil (passT tk) (dfl := []) (fun _ _ => RpA.nil) hE_of (pa_mCons (pe_mVarF (pv 1)) (pa_mCons (pe_mGt T.c_SIDES (by rfl)) pa_mNil)) (len_cons (len_cons len_nil)) rfl) pa_mNil)) (len_cons (len_cons len_nil)) rfl)))))
def m_around : MS := (mSeq (mPar [0, 1] (mCons (mCall m_need_room 1 [] (mCons (mVarF 0) mNil)) (mCons (mCall m_need_pair 1 [] (mCons (mVarF 1) mNil)) mNil)))
    (mSeq (mDrop (mCall m_check_square 2 [] (mCons (mVarF 0) (mCons (mVarF 1) mNil))))
    (mRet (mCall m_within 3 [] (mCons (mVarF 0) (mCons (mCall m_pushed 6 [] (mCons (mVarF 1) (mCons (mC (.kt [(.kt [(.int (-1)), (.int (-1))]), (.kt [(.int (-1)), (.int 0)]), (.kt [(.int (-1)), (.int 1)]), (.kt [(.int 0), (.int (-1))]), (.kt [(.int 0), (.int 1)]), (.kt [(.int 1), (.int (-1))]), (.kt [(.int 1), (.int 0)]), (.kt [(.int 1), (.int 1)])])) mNil))) mNil))))))
theorem ok_around (T : Tx mg g fd) : FnOk P w g.K mg base (L2.CX P w) 8 (g.F 18) (fd 18) P_around (spF g 2 2 m_around) :=
  okF T.F_around sc_around rfl rfl (by decide) fun cdv A outer s H E hr =>
    have tk := takes_of (E := E) rfl rfl rfl rfl
    (pss_mCons (ps_mPar (i := 0) (j := 1) rfl sc_around.nd rfl rfl (by decide) rfl rfl (pa_mCons (pe_mCall (ok_need_room T) (hr.mono (by decide)) (by rfl) T.m_need_room T.F_need_room.kp T.b_need_room .nil (passT tk) (dfl := []) (fun _ _ => RpA.nil) hE_of (pa_mCons (pe_mVarF (pv 0)) pa_mNil) (len_cons len_nil) rfl) (pa_mCons (pe_mCall (ok_need_pair T) (hr.mono (by decide)) (by rfl) T.m_need_pair T.F_need_pair.kp T.b_need_pair .nil (passT tk) (dfl := []) (fun _ _ => RpA.nil) hE_of (pa_mCons (pe_mVarF (pv 1)) pa_mNil) (len_cons len_nil) rfl) pa_mNil)) (by rfl))
    (pss_mCons (ps_mDrop (pe_mCall (ok_check_square T) (hr.mono (by decide)) (by rfl) T.m_check_square T.F_check_square.kp T.b_check_square .nil (passT tk) (dfl := []) (fun _ _ => RpA.nil) hE_of (pa_mCons (pe_mVarF (pv 0)) (pa_mCons (pe_mVarF (pv 1)) pa_mNil)) (len_cons (len_cons len_nil)) rfl))
    (pss_mOne (ps_mRet (pe_mCall (ok_within T) (hr.mono (by decide)) (by rfl) T.m_within T.F_within.kp T.b_within .nil (passT tk) (dfl := []) (fun _ _ => RpA.nil) hE_of (pa_mCons (pe_mVarF (pv 0)) (pa_mCons (pe_mCall (ok_pushed T) (hr.mono (by decide)) (by rfl) T.m_pushed T.F_pushed.kp T.b_pushed .nil (passT tk) (dfl := []) (fun _ _ => RpA.nil) hE_of (pa_mCons (pe_mVarF (pv 1)) (pa_mCons (pe_mGt T.c_AROUND (by rfl)) pa_mNil)) (len_cons (len_cons len_nil)) rfl) pa_mNil)) (len_cons (len_cons len_nil)) rfl)))))
def m_rim : MS := (mRet (mCall m_rim_of 3 [] (mCons (mCall m_need_room 1 [] (mCons (mVarF 0) mNil)) mNil)))
theorem ok_rim (T : Tx mg g fd) : FnOk P w g.K mg base (L2.CX P w) 8 (g.F 19) (fd 19) P_rim (spF g 1 1 m_rim) :=
  okF T.F_rim sc_rim rfl rfl (by decide) fun cdv A outer s H E hr =>
    have tk := takes_of (E := E) rfl rfl rfl rfl
    (pss_mOne (ps_mRet (pe_mCall (ok_rim_of T) (hr.mono (by decide)) (by rfl) T.m_rim_of T.F_rim_of.kp T.b_rim_of .nil (passT tk) (dfl := []) (fun _ _ => RpA.nil) hE_of (pa_mCons (pe_mCall (ok_need_room T) (hr.mono (by decide)) (by rfl) T.m_need_room T.F_need_room.kp T.b_need_room .nil (passT tk) (dfl := []) (fun _ _ => RpA.nil) hE_of (pa_mCons (pe_mVarF (pv 0)) pa_mNil) (len_cons len_nil) rfl) pa_mNil) (len_cons len_nil) rfl)))
def m_inner : MS := (mRet (mCall m_inner_of 4 [] (mCons (mCall m_need_room 1 [] (mCons (mVarF 0) mNil)) mNil)))
theorem ok_inner (T : Tx mg g fd) : FnOk P w g.K mg base (L2.CX P w) 8 (g.F 20) (fd 20) P_inner (spF g 1 1 m_inner) :=
  okF T.F_inner sc_inner rfl rfl (by decide) fun cdv A outer s H E hr =>
    have tk := takes_of (E := E) rfl rfl rfl rfl
    (pss_mOne (ps_mRet (pe_mCall (ok_inner_of T) (hr.mono (by decide)) (by rfl) T.m_inner_of T.F_inner_of.kp T.b_inner_of .nil (passT tk) (dfl := []) (fun _ _ => RpA.nil) hE_of (pa_mCons (pe_mCall (ok_need_room T) (hr.mono (by decide)) (by rfl) T.m_need_room T.F_need_room.kp T.b_need_room .nil (passT tk) (dfl := []) (fun _ _ => RpA.nil) hE_of (pa_mCons (pe_mVarF (pv 0)) pa_mNil) (len_cons len_nil) rfl) pa_mNil) (len_cons len_nil) rfl)))
def m_points : MS := (mRet (mCall m_points_of 4 [] (mCons (mCall m_need_room 1 [] (mCons (mVarF 0) mNil)) mNil)))
theorem ok_points (T : Tx mg g fd) : FnOk P w g.K mg base (L2.CX P w) 8 (g.F 21) (fd 21) P_points (spF g 1 1 m_points) :=
  okF T.F_points sc_points rfl rfl (by decide) fun cdv A outer s H E hr =>
    have tk := takes_of (E := E) rfl rfl rfl rfl
    (pss_mOne (ps_mRet (pe_mCall (ok_points_of T) (hr.mono (by decide)) (by rfl) T.m_points_of T.F_points_of.kp T.b_points_of .nil (passT tk) (dfl := []) (fun _ _ => RpA.nil) hE_of (pa_mCons (pe_mCall (ok_need_room T) (hr.mono (by decide)) (by rfl) T.m_need_room T.F_need_room.kp T.b_need_room .nil (passT tk) (dfl := []) (fun _ _ => RpA.nil) hE_of (pa_mCons (pe_mVarF (pv 0)) pa_mNil) (len_cons len_nil) rfl) pa_mNil) (len_cons len_nil) rfl)))
def m_about : MS := (mSeq (mPar [0, 1] (mCons (mCall m_need_room 1 [] (mCons (mVarF 0) mNil)) (mCons (mCall m_need_pair 1 [] (mCons (mVarF 1) mNil)) mNil)))
    (mSeq (mAsg 2 (mCall m_four_about 3 [] (mCons (mVarF 1) mNil)))
    (mSeq (mIf (mB (mBin ltD (mFun lenD (mCons (mCall m_within 3 [] (mCons (mVarF 0) (mCons (mVarF 2) mNil))) mNil)) (mC (.int 4))))
    (fun _ => .no)
    mSkip)
    (mRet (mVarF 2)))))
theorem ok_about (T : Tx mg g fd) : FnOk P w g.K mg base (L2.CX P w) 8 (g.F 22) (fd 22) P_about (spF g 2 3 m_about) :=
  okF T.F_about sc_about rfl rfl (by decide) fun cdv A outer s H E hr =>
    have tk := takes_of (E := E) rfl rfl rfl rfl
    (pss_mCons (ps_mPar (i := 0) (j := 1) rfl sc_about.nd rfl rfl (by decide) rfl rfl (pa_mCons (pe_mCall (ok_need_room T) (hr.mono (by decide)) (by rfl) T.m_need_room T.F_need_room.kp T.b_need_room .nil (passT tk) (dfl := []) (fun _ _ => RpA.nil) hE_of (pa_mCons (pe_mVarF (pv 0)) pa_mNil) (len_cons len_nil) rfl) (pa_mCons (pe_mCall (ok_need_pair T) (hr.mono (by decide)) (by rfl) T.m_need_pair T.F_need_pair.kp T.b_need_pair .nil (passT tk) (dfl := []) (fun _ _ => RpA.nil) hE_of (pa_mCons (pe_mVarF (pv 1)) pa_mNil) (len_cons len_nil) rfl) pa_mNil)) (by rfl))
    (pss_mCons (ps_mAsg (i := 2) sc_about.nd rfl (by first | exact Or.inl rfl | exact Or.inr rfl) (pe_mCall (ok_four_about T) (hr.mono (by decide)) (by rfl) T.m_four_about T.F_four_about.kp T.b_four_about .nil (passT tk) (dfl := []) (fun _ _ => RpA.nil) hE_of (pa_mCons (pe_mVarF (pv 1)) pa_mNil) (len_cons len_nil) rfl))
    (pss_mCons (ps_mIf (pt_mCmp (OpR.or (op_lt) (op_ltP hr.units)) ROp.ord (pe_mCallB call_len rop_len (by rfl) T.z_len (by decide +kernel) (pa_mCons (pe_mCall (ok_within T) (hr.mono (by decide)) (by rfl) T.m_within T.F_within.kp T.b_within .nil (passT tk) (dfl := []) (fun _ _ => RpA.nil) hE_of (pa_mCons (pe_mVarF (pv 0)) (pa_mCons (pe_mVarF (pv 2)) pa_mNil)) (len_cons (len_cons len_nil)) rfl) pa_mNil)) pe_mInt (nomark _))
    (pss_mOne ps_mNo)
    pss_mNil)
    (pss_mOne (ps_mRet (pe_mVarF (pv 2)))))))
def m__law_box : MS := (mAsg 2 (mIfE (mB (mBin ltD (mVarF 1) (mFun lenD (mCons (mVarF 0) mNil)))) (mBin ixD (mVarF 0) (mVarF 1)) (mC (.int 0))))
def f__law_box : MA := (fLst (mCons (mBin mulD (mFun absD (mCons (mVarF 2) mNil)) (mFun intD (mCons (mBin geD (mFun absD (mCons (mVarF 2) mNil)) (mBin powD (mC (.int 10)) (mC (.int 18)))) mNil))) (mCons (mBin addD (mBin addD (mBin modD (mFun intD (mCons (mVarF 2) mNil)) (mC (.int 2305843009213693951))) (mBin mulD (mC (.int 39373)) (mVarF 1))) (mC (.int 5322004))) (mCons (mC (.int 0)) mNil))))
theorem ok__law_box (T : Tx mg g fd) : FnOk P w g.K mg base (L2.CX P w) 1 (g.F 23) (fd 23) P__law_box (spFr g 2 3 m__law_box f__law_box) :=
  okFr T.F__law_box sc__law_box rfl rfl (by decide) fun cdv A outer s H E hr =>
    pss_cons (ps_mAsg (i := 2) sc__law_box.nd rfl (by first | exact Or.inl rfl | exact Or.inr rfl) (pe_mIfE (pt_mCmp (OpR.or (op_lt) (op_ltP hr.units)) ROp.ord (pe_mVarF (pv 1)) (pe_mCallB call_len rop_len (by rfl) T.z_len (by decide +kernel) (pa_mCons (pe_mVarF (pv 0)) pa_mNil)) (nomark _)) (pe_mIx rfl (hu_of hr) (pe_mVarF (pv 0)) (pe_mVarF (pv 1)) (fun _ _ => rfl) (fun _ _ => rfl)) pe_mInt)) (pss_one (ps_ret (pe_fLst (pa_mCons (pe_mBin op_mulU rop_mul (pe_mCallB call_abs rop_abs (by rfl) T.z_abs (by decide +kernel) (pa_mCons (pe_mVarF (pv 2)) pa_mNil)) (pe_mCallT call_int1 rop_int (by rfl) T.z_int (by decide +kernel) (pa_mCons (pe_mCmp (OpR.or (op_ge) (op_geP hr.units)) ROp.ord (pe_mCallB call_abs rop_abs (by rfl) T.z_abs (by decide +kernel) (pa_mCons (pe_mVarF (pv 2)) pa_mNil)) (pe_mBin op_pow rop_pow pe_mInt pe_mInt) (nomark _)) pa_mNil))) (pa_mCons (pe_mBin op_addU rop_add (pe_mBin op_addU rop_add (pe_mBin op_mod rop_mod (pe_mCallT call_int1 rop_int (by rfl) T.z_int (by decide +kernel) (pa_mCons (pe_mVarF (pv 2)) pa_mNil)) pe_mInt) (pe_mBin op_mulU rop_mul pe_mInt (pe_mVarF (pv 1)))) pe_mInt) (pa_mCons pe_mInt pa_mNil))))))
def m__law_take : MS := (mSeq (mIf (mB (mBin gtD (mIxB 0 (mC (.int 0))) (mC (.int 0))))
    (mSeq (mAsg 2 (mBin modD (mFun intD (mCons (mIxB 0 (mC (.int 0))) mNil)) (mVarF 1)))
    (mSeq (mPutL 0 (mC (.int 0)) (mBin divD (mIxB 0 (mC (.int 0))) (mVarF 1)))
    (mRet (mVarF 2))))
    mSkip)
    (mSeq (mPutL 0 (mC (.int 2)) (mBin addD (mIxB 0 (mC (.int 2))) (mC (.int 1))))
    (mSeq (mAsg 3 (mBin modD (mFun intD (mCons (mBin mulD (mBin addD (mIxB 0 (mC (.int 1))) (mBin mulD (mC (.int 48271)) (mIxB 0 (mC (.int 2))))) (mBin addD (mC (.int 39373)) (mIxB 0 (mC (.int 2))))) mNil)) (mC (.int 2147483647))))
    (mSeq (mAsg 4 (mBin addD (mBin modD (mFun intD (mCons (mVarF 3) mNil)) (mC (.int 40009))) (mC (.int 7))))
    (mSeq (mAsg 5 (mBin modD (mFun intD (mCons (mBin mulD (mBin addD (mBin addD (mVarF 3) (mIxB 0 (mC (.int 2)))) (mBin divD (mIxB 0 (mC (.int 1))) (mC (.int 1000003)))) (mVarF 4)) mNil)) (mC (.int 2147483629))))
    (mRet (mBin modD (mFun intD (mCons (mBin divD (mBin modD (mFun intD (mCons (mBin addD (mBin mulD (mVarF 5) (mC (.int 48271))) (mVarF 3)) mNil)) (mC (.int 2147483587))) (mC (.int 64))) mNil)) (mVarF 1))))))))
theorem ok__law_take (T : Tx mg g fd) : FnOk P w g.K mg base (L2.CX P w) 1 (g.F 24) (fd 24) P__law_take (spF g 2 6 m__law_take) :=
  okF T.F__law_take sc__law_take rfl rfl (by decide) fun cdv A outer s H E hr =>
    (pss_mCons (ps_mIf (pt_mCmp (OpR.or (op_gt) (op_gtP hr.units)) ROp.ord (pe_mIxB rfl (hu_of hr) (pv 0) pe_mInt (fun _ _ => rfl) (fun _ _ => rfl)) pe_mInt (nomark _))
    (pss_mCons (ps_mAsg (i := 2) sc__law_take.nd rfl (by first | exact Or.inl rfl | exact Or.inr rfl) (pe_mBin op_mod rop_mod (pe_mCallT call_int1 rop_int (by rfl) T.z_int (by decide +kernel) (pa_mCons (pe_mIxB rfl (hu_of hr) (pv 0) pe_mInt (fun _ _ => rfl) (fun _ _ => rfl)) pa_mNil)) (pe_mVarF (pv 1))))
    (pss_mCons (ps_mPutL (pv 0) pe_mInt (pe_mBin op_fdiv rop_div (pe_mIxB rfl (hu_of hr) (pv 0) pe_mInt (fun _ _ => rfl) (fun _ _ => rfl)) (pe_mVarF (pv 1))))
    (pss_mOne (ps_mRet (pe_mVarF (pv 2))))))
    pss_mNil)
    (pss_mCons (ps_mPutL (pv 0) pe_mInt (pe_mBin op_addU rop_add (pe_mIxB rfl (hu_of hr) (pv 0) pe_mInt (fun _ _ => rfl) (fun _ _ => rfl)) pe_mInt))
    (pss_mCons (ps_mAsg (i := 3) sc__law_take.nd rfl (by first | exact Or.inl rfl | exact Or.inr rfl) (pe_mBin op_mod rop_mod (pe_mCallT call_int1 rop_int (by rfl) T.z_int (by decide +kernel) (pa_mCons (pe_mBin op_mulU rop_mul (pe_mBin op_addU rop_add (pe_mIxB rfl (hu_of hr) (pv 0) pe_mInt (fun _ _ => rfl) (fun _ _ => rfl)) (pe_mBin op_mulU rop_mul pe_mInt (pe_mIxB rfl (hu_of hr) (pv 0) pe_mInt (fun _ _ => rfl) (fun _ _ => rfl)))) (pe_mBin op_addU rop_add pe_mInt (pe_mIxB rfl (hu_of hr) (pv 0) pe_mInt (fun _ _ => rfl) (fun _ _ => rfl)))) pa_mNil)) pe_mInt))
    (pss_mCons (ps_mAsg (i := 4) sc__law_take.nd rfl (by first | exact Or.inl rfl | exact Or.inr rfl) (pe_mBin op_addU rop_add (pe_mBin op_mod rop_mod (pe_mCallT call_int1 rop_int (by rfl) T.z_int (by decide +kernel) (pa_mCons (pe_mVarF (pv 3)) pa_mNil)) pe_mInt) pe_mInt))
    (pss_mCons (ps_mAsg (i := 5) sc__law_take.nd rfl (by first | exact Or.inl rfl | exact Or.inr rfl) (pe_mBin op_mod rop_mod (pe_mCallT call_int1 rop_int (by rfl) T.z_int (by decide +kernel) (pa_mCons (pe_mBin op_mulU rop_mul (pe_mBin op_addU rop_add (pe_mBin op_addU rop_add (pe_mVarF (pv 3)) (pe_mIxB rfl (hu_of hr) (pv 0) pe_mInt (fun _ _ => rfl) (fun _ _ => rfl))) (pe_mBin op_fdiv rop_div (pe_mIxB rfl (hu_of hr) (pv 0) pe_mInt (fun _ _ => rfl) (fun _ _ => rfl)) pe_mInt)) (pe_mVarF (pv 4))) pa_mNil)) pe_mInt))
    (pss_mOne (ps_mRet (pe_mBin op_mod rop_mod (pe_mCallT call_int1 rop_int (by rfl) T.z_int (by decide +kernel) (pa_mCons (pe_mBin op_fdiv rop_div (pe_mBin op_mod rop_mod (pe_mCallT call_int1 rop_int (by rfl) T.z_int (by decide +kernel) (pa_mCons (pe_mBin op_addU rop_add (pe_mBin op_mulU rop_mul (pe_mVarF (pv 5)) pe_mInt) (pe_mVarF (pv 3))) pa_mNil)) pe_mInt) pe_mInt) pa_mNil)) (pe_mVarF (pv 1))))))))))
def m__law_cells : MS := (mSeq (mSetF 2 (fOr (fList (mSl (mVarF 0) mPN (mPS (mVarF 1)))) (fLst (mCons (mC (.int 0)) mNil))))
    (mSeq (mFor (miFun enumF (mCons (mSl (mVarF 0) (mPS (mVarF 1)) (mPS (mC (.int 63)))) mNil)) (tgTup [3, 4]) (mSeq (mAsg 5 (mBin modD (mFun intD (mCons (mVarF 3) mNil)) (mVarF 1)))
    (mPutL 2 (mVarF 5) (mBin addD (mIxB 2 (mVarF 5)) (mBin mulD (mVarF 4) (mBin addD (mVarF 3) (mC (.int 2))))))))
    (mRet (mVarF 2))))
theorem ok__law_cells (T : Tx mg g fd) : FnOk P w g.K mg base (L2.CX P w) 1 (g.F 25) (fd 25) P__law_cells (spF g 2 6 m__law_cells) :=
  okF T.F__law_cells sc__law_cells rfl rfl (by decide) fun cdv A outer s H E hr =>
    (pss_mCons (ps_mSetF (i := 2) sc__law_cells.nd rfl (by first | exact Or.inl rfl | exact Or.inr rfl) (pe_fOr rfl (pe_fList rfl (by rfl) T.z_list (pe_mSl rfl (pe_mVarF (pv 0)) po_mN (po_mS (pe_mVarF (pv 1))))) (pe_fLst (pa_mCons pe_mInt pa_mNil))))
    (pss_mCons (ps_mFor (passes_of rfl) rfl (pi_mEnum rfl (by rfl) T.z_enumerate (pa_mCons (pe_mSl rfl (pe_mVarF (pv 0)) (po_mS (pe_mVarF (pv 1))) (po_mS pe_mInt)) pa_mNil)) (pg_tup (by rfl) (pgs_cons (pg_name (i := 3) sc__law_cells.nd rfl (by first | exact Or.inl rfl | exact Or.inr rfl)) (pgs_cons (pg_name (i := 4) sc__law_cells.nd rfl (by first | exact Or.inl rfl | exact Or.inr rfl)) pgs_nil))) (gok_tup [3, 4]) (pss_mCons (ps_mAsg (i := 5) sc__law_cells.nd rfl (by first | exact Or.inl rfl | exact Or.inr rfl) (pe_mBin op_mod rop_mod (pe_mCallT call_int1 rop_int (by rfl) T.z_int (by decide +kernel) (pa_mCons (pe_mVarF (pv 3)) pa_mNil)) (pe_mVarF (pv 1))))
    (pss_mOne (ps_mPutL (pv 2) (pe_mVarF (pv 5)) (pe_mBin op_addU rop_add (pe_mIxB rfl (hu_of hr) (pv 2) (pe_mVarF (pv 5)) (fun _ _ => rfl) (fun _ _ => rfl)) (pe_mBin op_mulU rop_mul (pe_mVarF (pv 4)) (pe_mBin op_addU rop_add (pe_mVarF (pv 3)) pe_mInt)))))))
    (pss_mOne (ps_mRet (pe_mVarF (pv 2))))))
def m__law_of : MS := (mRet (mBin ixD (mVarF 1) (mCallR m__law_take 6 [] (rRef 0 (rDat (mFun lenD (mCons (mVarF 1) mNil)) rNil)))))
theorem ok__law_of (T : Tx mg g fd) : FnOk P w g.K mg base (L2.CX P w) 2 (g.F 26) (fd 26) P__law_of (spF g 2 2 m__law_of) :=
  okF T.F__law_of sc__law_of rfl rfl (by decide) fun cdv A outer s H E hr =>
    have tk := takes_of (E := E) rfl rfl rfl rfl
    (pss_mOne (ps_mRet (pe_mIx rfl (hu_of hr) (pe_mVarF (pv 1)) (pe_mCallR (ok__law_take T) (hr.mono (by decide)) (by rfl) T.m__law_take T.F__law_take.kp T.b__law_take .nil (passT tk) (dfl := []) (fun _ _ => RpA.nil) hE_of (pa_rRef (pv 0) (pa_rDat (pe_mCallB call_len rop_len (by rfl) T.z_len (by decide +kernel) (pa_mCons (pe_mVarF (pv 1)) pa_mNil)) pa_rNil)) (lenR_ref (lenR_dat lenR_nil)) rfl) (fun _ _ => rfl) (fun _ _ => rfl))))
def m__law_pick : MS := (mSeq (mParX [3, 4] (xF (fList (mVarF 1)) (xNew (.l []) xNil)))
    (mSeq (mFor (miFun rangeF (mCons (mFun minD2 (mCons (mFun intD (mCons (mVarF 2) mNil)) (mCons (mLenB 3) mNil))) mNil)) (tgName 5) (mDrop (mApp 4 (mPopI 3 (mCallR m__law_take 6 [] (rRef 0 (rDat (mLenB 3) rNil)))))))
    (mRet (mVarF 4))))
theorem ok__law_pick (T : Tx mg g fd) : FnOk P w g.K mg base (L2.CX P w) 2 (g.F 27) (fd 27) P__law_pick (spF g 3 6 m__law_pick) :=
  okF T.F__law_pick sc__law_pick rfl rfl (by decide) fun cdv A outer s H E hr =>
    have tk := takes_of (E := E) rfl rfl rfl rfl
    (pss_mCons (ps_mParX (i := 3) (j := 4) rfl sc__law_pick.nd rfl rfl (by decide) rfl rfl (px_f (pe_fList rfl (by rfl) T.z_list (pe_mVarF (pv 1))) (px_new newL pe_nil_new px_nil)) (by rfl))
    (pss_mCons (ps_mFor (passes_of rfl) rfl (pi_mRange (by rfl) T.z_range (pa_mCons (pe_mCallB (cr_min2 rfl) rop_min2 (by rfl) T.z_min (by decide +kernel) (pa_mCons (pe_mCallT call_int1 rop_int (by rfl) T.z_int (by decide +kernel) (pa_mCons (pe_mVarF (pv 2)) pa_mNil)) (pa_mCons (pe_mLenB rfl (by rfl) T.z_len (pv 3) (pe_mCallB call_len rop_len (by rfl) T.z_len (by decide +kernel) (pa_mCons (pe_mVarF (pv 3)) pa_mNil))) pa_mNil))) pa_mNil)) (pg_name (i := 5) sc__law_pick.nd rfl (by first | exact Or.inl rfl | exact Or.inr rfl)) (gok_name 5) (pss_mOne (ps_mDrop (pe_mApp rfl (pv 4) (pe_mPopI rfl (pv 3) (pe_mCallR (ok__law_take T) (hr.mono (by decide)) (by rfl) T.m__law_take T.F__law_take.kp T.b__law_take .nil (passT tk) (dfl := []) (fun _ _ => RpA.nil) hE_of (pa_rRef (pv 0) (pa_rDat (pe_mLenB rfl (by rfl) T.z_len (pv 3) (pe_mCallB call_len rop_len (by rfl) T.z_len (by decide +kernel) (pa_mCons (pe_mVarF (pv 3)) pa_mNil))) pa_rNil)) (lenR_ref (lenR_dat lenR_nil)) rfl))))))
    (pss_mOne (ps_mRet (pe_mVarF (pv 4))))))
def m__law_lists : Nat → MS
  | 0 => fun _ => .no
  | n + 1 => (mRet (mIfE (mTru (mIsa2 .list .tuple (mVarF 0))) (mLc (miSeq (mVarF 0)) (tgName 1) mYes (mCall (m__law_lists n) 2 [] (mCons (mVarF 1) mNil)) [1]) (mVarF 0)))
theorem ok__law_lists (T : Tx mg g fd) : ∀ n : Nat, FnOk P w g.K mg base (L2.CX P w) (1 + n) (g.F 28) (fd 28) P__law_lists (spF g 1 2 (m__law_lists n))
  | 0 => okNo rfl
  | n + 1 => okF T.F__law_lists sc__law_lists rfl rfl (by decide) fun cdv A outer s H E hr =>
    have ih := ok__law_lists T n
    (pss_mOne (ps_mRet (pe_mIfE (pt_mTru rfl (pe_mIsa2 .list .tuple rfl (by rfl) T.z_isinstance (pe_mVarF (pv 0)) (tyP (by rfl) T.z_list (by decide +kernel)) (tyP (by rfl) T.z_tuple (by decide +kernel))) (by intro _; rfl)) (pe_mLc (own := [("bit", 1)]) rfl sc__law_lists.nd (pi_mSeq rfl (pe_mVarF (pv 0))) (blkOk_by (own := [("bit", 1)]) (N := N__law_lists) (sc := defScope s__law_lists) (by decide +kernel)) (gok_name 1) (by decide) (fun _ _ _ _ _ => (pg_name (i := 1) sc__law_lists.nd rfl (by first | exact Or.inl rfl | exact Or.inr rfl))) (fun _ _ _ _ _ => pts_mNil) (fun _ _ _ _ _ => (pe_mCall ih hr (by rfl) T.m__law_lists T.F__law_lists.kp T.b__law_lists .nil passF (dfl := []) (fun _ _ => RpA.nil) hE_no (pa_mCons (pe_mVarF (pv 1)) pa_mNil) (len_cons len_nil) rfl))) (pe_mVarF (pv 0)))))
def m__law_same : Nat → MS
  | 0 => fun _ => .no
  | n + 1 => (mSeq (mIf (mTru (mIsa2 .list .tuple (mVarF 1)))
    (mSeq (mIf (mOrT (mB (mBin neD (mIsa .list (mVarF 0)) (mIsa .list (mVarF 1)))) (mB (mBin neD (mIsa .tuple (mVarF 0)) (mIsa .tuple (mVarF 1)))))
    (mRet (mC (.bl false)))
    mSkip)
    (mRet (mAnd (mBin eqD (mFun lenD (mCons (mVarF 0) mNil)) (mFun lenD (mCons (mVarF 1) mNil))) (mFun allD (mCons (mLc (miFun zipF (mCons (mVarF 0) (mCons (mVarF 1) mNil))) (tgTup [2, 3]) mYes (mCall (m__law_same n) 4 [] (mCons (mVarF 2) (mCons (mVarF 3) mNil))) [2, 3]) mNil)))))
    mSkip)
    (mSeq (mIf (mOrT (mB (mBin (isND false) (mVarF 1) (mC .non))) (mTru (mIsa2 .bool .str (mVarF 1))))
    (mRet (mAnd (mBin eqD (mVarF 0) (mVarF 1)) (mAnd (mBin eqD (mIsa .bool (mVarF 0)) (mIsa .bool (mVarF 1))) (mBin eqD (mBin (isND false) (mVarF 0) (mC .non)) (mBin (isND false) (mVarF 1) (mC .non))))))
    mSkip)
    (mRet (mAnd (mIsa .int (mVarF 0)) (mAnd (mNot (mIsa .bool (mVarF 0))) (mBin eqD (mVarF 0) (mVarF 1)))))))
theorem ok__law_same (T : Tx mg g fd) : ∀ n : Nat, FnOk P w g.K mg base (L2.CX P w) (1 + n) (g.F 29) (fd 29) P__law_same (spF g 2 4 (m__law_same n))
  | 0 => okNo rfl
  | n + 1 => okF T.F__law_same sc__law_same rfl rfl (by decide) fun cdv A outer s H E hr =>
    have ih := ok__law_same T n
    (pss_mCons (ps_mIf (pt_mTru rfl (pe_mIsa2 .list .tuple rfl (by rfl) T.z_isinstance (pe_mVarF (pv 1)) (tyP (by rfl) T.z_list (by decide +kernel)) (tyP (by rfl) T.z_tuple (by decide +kernel))) (by intro _; rfl))
    (pss_mCons (ps_mIf (PW.pt (pw_mOr (pt_mCmp (op_neP hr.units) rop_ne (pe_mIsa .list rfl (by rfl) T.z_isinstance (pe_mVarF (pv 0)) (tyP (by rfl) T.z_list (by decide +kernel))) (pe_mIsa .list rfl (by rfl) T.z_isinstance (pe_mVarF (pv 1)) (tyP (by rfl) T.z_list (by decide +kernel))) (nomark _)) (pw_or1 (pt_mCmp (op_neP hr.units) rop_ne (pe_mIsa .tuple rfl (by rfl) T.z_isinstance (pe_mVarF (pv 0)) (tyP (by rfl) T.z_tuple (by decide +kernel))) (pe_mIsa .tuple rfl (by rfl) T.z_isinstance (pe_mVarF (pv 1)) (tyP (by rfl) T.z_tuple (by decide +kernel))) (nomark _)))))
    (pss_mOne (ps_mRet pe_mBl))
    pss_mNil)
    (pss_mOne (ps_mRet (pe_mAnd rfl (pe_mCmp (op_eqP hr.units) rop_eq (pe_mCallB call_len rop_len (by rfl) T.z_len (by decide +kernel) (pa_mCons (pe_mVarF (pv 0)) pa_mNil)) (pe_mCallB call_len rop_len (by rfl) T.z_len (by decide +kernel) (pa_mCons (pe_mVarF (pv 1)) pa_mNil)) (nomark _)) (pe_one (pe_mCallB (cr_all rfl) rop_all (by rfl) T.z_all (by decide +kernel) (pa_mCons (pe_mLc (own := [("mine", 2), ("its", 3)]) rfl sc__law_same.nd (pi_mZip rfl (by rfl) T.z_zip (pa_mCons (pe_mVarF (pv 0)) (pa_mCons (pe_mVarF (pv 1)) pa_mNil))) (blkOk_by (own := [("mine", 2), ("its", 3)]) (N := N__law_same) (sc := defScope s__law_same) (by decide +kernel)) (gok_tup [2, 3]) (by decide) (fun _ _ _ _ _ => (pg_tup (by rfl) (pgs_cons (pg_name (i := 2) sc__law_same.nd rfl (by first | exact Or.inl rfl | exact Or.inr rfl)) (pgs_cons (pg_name (i := 3) sc__law_same.nd rfl (by first | exact Or.inl rfl | exact Or.inr rfl)) pgs_nil)))) (fun _ _ _ _ _ => pts_mNil) (fun _ _ _ _ _ => (pe_mCall ih hr (by rfl) T.m__law_same T.F__law_same.kp T.b__law_same .nil passF (dfl := []) (fun _ _ => RpA.nil) hE_no (pa_mCons (pe_mVarF (pv 2)) (pa_mCons (pe_mVarF (pv 3)) pa_mNil)) (len_cons (len_cons len_nil)) rfl))) pa_mNil)))))))
    pss_mNil)
    (pss_mCons (ps_mIf (PW.pt (pw_mOr (pt_mCmp op_isN rop_isN (pe_mVarF (pv 1)) pe_mNon (nomark _)) (pw_or1 (pt_mTru rfl (pe_mIsa2 .bool .str rfl (by rfl) T.z_isinstance (pe_mVarF (pv 1)) (tyP (by rfl) T.z_bool (by decide +kernel)) (tyP (by rfl) T.z_str (by decide +kernel))) (by intro _; rfl)))))
    (pss_mOne (ps_mRet (pe_mAnd rfl (pe_mCmp (op_eqP hr.units) rop_eq (pe_mVarF (pv 0)) (pe_mVarF (pv 1)) (nomark _)) (pe_mAnd rfl (pe_mCmp (op_eqP hr.units) rop_eq (pe_mIsa .bool rfl (by rfl) T.z_isinstance (pe_mVarF (pv 0)) (tyP (by rfl) T.z_bool (by decide +kernel))) (pe_mIsa .bool rfl (by rfl) T.z_isinstance (pe_mVarF (pv 1)) (tyP (by rfl) T.z_bool (by decide +kernel))) (nomark _)) (pe_one (pe_mCmp (op_eqP hr.units) rop_eq (pe_mCmp op_isN rop_isN (pe_mVarF (pv 0)) pe_mNon (nomark _)) (pe_mCmp op_isN rop_isN (pe_mVarF (pv 1)) pe_mNon (nomark _)) (nomark _)))))))
    pss_mNil)
    (pss_mOne (ps_mRet (pe_mAnd rfl (pe_mIsa .int rfl (by rfl) T.z_isinstance (pe_mVarF (pv 0)) (tyP (by rfl) T.z_int (by decide +kernel))) (pe_mAnd rfl (pe_mNot rfl (pe_mIsa .bool rfl (by rfl) T.z_isinstance (pe_mVarF (pv 0)) (tyP (by rfl) T.z_bool (by decide +kernel)))) (pe_one (pe_mCmp (op_eqP hr.units) rop_eq (pe_mVarF (pv 0)) (pe_mVarF (pv 1)) (nomark _)))))))))
def m__law_over : MS := (mSeq (mAsg 2 (mBin ixD (mLst (mCons (mTup (mCons (mC (.int 0)) (mCons (mC (.int 0)) mNil))) (mCons (mTup (mCons (mC (.int 1)) (mCons (mC (.int 0)) mNil))) (mCons (mTup (mCons (mC (.int 0)) (mCons (mC (.int 1)) mNil))) (mCons (mTup (mCons (mNeg (mC (.int 1))) (mCons (mC (.int 0)) mNil))) (mCons (mTup (mCons (mC (.int 0)) (mCons (mNeg (mC (.int 1))) mNil))) mNil)))))) (mVarF 1)))
    (mRet (mTup (mCons (mBin addD (mBin ixD (mVarF 0) (mC (.int 0))) (mBin ixD (mVarF 2) (mC (.int 0)))) (mCons (mBin addD (mBin ixD (mVarF 0) (mC (.int 1))) (mBin ixD (mVarF 2) (mC (.int 1)))) mNil)))))
theorem ok__law_over (T : Tx mg g fd) : FnOk P w g.K mg base (L2.CX P w) 1 (g.F 30) (fd 30) P__law_over (spF g 2 3 m__law_over) :=
  okF T.F__law_over sc__law_over rfl rfl (by decide) fun cdv A outer s H E hr =>
    (pss_mCons (ps_mAsg (i := 2) sc__law_over.nd rfl (by first | exact Or.inl rfl | exact Or.inr rfl) (pe_mIx rfl (hu_of hr) (pe_mLst (pa_mCons (pe_mTup (pa_mCons pe_mInt (pa_mCons pe_mInt pa_mNil))) (pa_mCons (pe_mTup (pa_mCons pe_mInt (pa_mCons pe_mInt pa_mNil))) (pa_mCons (pe_mTup (pa_mCons pe_mInt (pa_mCons pe_mInt pa_mNil))) (pa_mCons (pe_mTup (pa_mCons (pe_mNeg pe_mInt) (pa_mCons pe_mInt pa_mNil))) (pa_mCons (pe_mTup (pa_mCons pe_mInt (pa_mCons (pe_mNeg pe_mInt) pa_mNil))) pa_mNil)))))) (pe_mVarF (pv 1)) (fun _ _ => rfl) (fun _ _ => rfl)))
    (pss_mOne (ps_mRet (pe_mTup (pa_mCons (pe_mBin op_addU rop_add (pe_mIx rfl (hu_of hr) (pe_mVarF (pv 0)) pe_mInt (fun _ _ => rfl) (fun _ _ => rfl)) (pe_mIx rfl (hu_of hr) (pe_mVarF (pv 2)) pe_mInt (fun _ _ => rfl) (fun _ _ => rfl))) (pa_mCons (pe_mBin op_addU rop_add (pe_mIx rfl (hu_of hr) (pe_mVarF (pv 0)) pe_mInt (fun _ _ => rfl) (fun _ _ => rfl)) (pe_mIx rfl (hu_of hr) (pe_mVarF (pv 2)) pe_mInt (fun _ _ => rfl) (fun _ _ => rfl))) pa_mNil))))))
def m__law_beside : MS := (mRet (mLc (miSeq (mTup (mCons (mC (.int 1)) (mCons (mC (.int 2)) (mCons (mC (.int 3)) (mCons (mC (.int 4)) mNil)))))) (tgName 1) mYes (mCall m__law_over 3 [] (mCons (mVarF 0) (mCons (mVarF 1) mNil))) [1]))
theorem ok__law_beside (T : Tx mg g fd) : FnOk P w g.K mg base (L2.CX P w) 2 (g.F 31) (fd 31) P__law_beside (spF g 1 2 m__law_beside) :=
  okF T.F__law_beside sc__law_beside rfl rfl (by decide) fun cdv A outer s H E hr =>
    (pss_mOne (ps_mRet (pe_mLc (own := [("own", 1)]) rfl sc__law_beside.nd (pi_mSeq rfl (pe_mTup (pa_mCons pe_mInt (pa_mCons pe_mInt (pa_mCons pe_mInt (pa_mCons pe_mInt pa_mNil)))))) (blkOk_by (own := [("own", 1)]) (N := N__law_beside) (sc := defScope s__law_beside) (by decide +kernel)) (gok_name 1) (by decide) (fun _ _ _ _ _ => (pg_name (i := 1) sc__law_beside.nd rfl (by first | exact Or.inl rfl | exact Or.inr rfl))) (fun _ _ _ _ _ => pts_mNil) (fun _ _ _ _ _ => (pe_mCall (ok__law_over T) (hr.mono (by decide)) (by rfl) T.m__law_over T.F__law_over.kp T.b__law_over .nil passF (dfl := []) (fun _ _ => RpA.nil) hE_no (pa_mCons (pe_mVarF (pv 0)) (pa_mCons (pe_mVarF (pv 1)) pa_mNil)) (len_cons (len_cons len_nil)) rfl)))))
def m__law_around : MS := (mSeq (mAsg 1 (mLst mNil))
    (mSeq (mFor (miSeq (mTup (mCons (mNeg (mC (.int 1))) (mCons (mC (.int 0)) (mCons (mC (.int 1)) mNil))))) (tgName 2) (mAsg 1 (mBin addD (mVarF 1) (mLc (miSeq (mTup (mCons (mNeg (mC (.int 1))) (mCons (mC (.int 0)) (mCons (mC (.int 1)) mNil))))) (tgName 3) (mB (mBin neD (mTup (mCons (mVarF 2) (mCons (mVarF 3) mNil))) (mTup (mCons (mC (.int 0)) (mCons (mC (.int 0)) mNil))))) (mTup (mCons (mBin addD (mBin ixD (mVarF 0) (mC (.int 0))) (mVarF 2)) (mCons (mBin addD (mBin ixD (mVarF 0) (mC (.int 1))) (mVarF 3)) mNil))) [3]))))
    (mRet (mVarF 1))))
theorem ok__law_around (T : Tx mg g fd) : FnOk P w g.K mg base (L2.CX P w) 1 (g.F 32) (fd 32) P__law_around (spF g 1 4 m__law_around) :=
  okF T.F__law_around sc__law_around rfl rfl (by decide) fun cdv A outer s H E hr =>
    (pss_mCons (ps_mAsg (i := 1) sc__law_around.nd rfl (by first | exact Or.inl rfl | exact Or.inr rfl) (pe_mLst pa_mNil))
    (pss_mCons (ps_mFor (passes_of rfl) rfl (pi_mSeq rfl (pe_mTup (pa_mCons (pe_mNeg pe_mInt) (pa_mCons pe_mInt (pa_mCons pe_mInt pa_mNil))))) (pg_name (i := 2) sc__law_around.nd rfl (by first | exact Or.inl rfl | exact Or.inr rfl)) (gok_name 2) (pss_mOne (ps_mAsg (i := 1) sc__law_around.nd rfl (by first | exact Or.inl rfl | exact Or.inr rfl) (pe_mBin op_addU rop_add (pe_mVarF (pv 1)) (pe_mLc (own := [("j", 3)]) rfl sc__law_around.nd (pi_mSeq rfl (pe_mTup (pa_mCons (pe_mNeg pe_mInt) (pa_mCons pe_mInt (pa_mCons pe_mInt pa_mNil))))) (blkOk_by (own := [("j", 3)]) (N := N__law_around) (sc := defScope s__law_around) (by decide +kernel)) (gok_name 3) (by decide) (fun _ _ _ _ _ => (pg_name (i := 3) sc__law_around.nd rfl (by first | exact Or.inl rfl | exact Or.inr rfl))) (fun _ _ _ _ _ => (pts_one (pt_mCmp (op_neP hr.units) rop_ne (pe_mTup (pa_mCons (pe_mVarF (pv 2)) (pa_mCons (pe_mVarF (pv 3)) pa_mNil))) (pe_mTup (pa_mCons pe_mInt (pa_mCons pe_mInt pa_mNil))) (nomark _)))) (fun _ _ _ _ _ => (pe_mTup (pa_mCons (pe_mBin op_addU rop_add (pe_mIx rfl (hu_of hr) (pe_mVarF (pv 0)) pe_mInt (fun _ _ => rfl) (fun _ _ => rfl)) (pe_mVarF (pv 2))) (pa_mCons (pe_mBin op_addU rop_add (pe_mIx rfl (hu_of hr) (pe_mVarF (pv 0)) pe_mInt (fun _ _ => rfl) (fun _ _ => rfl)) (pe_mVarF (pv 3))) pa_mNil)))))))))
    (pss_mOne (ps_mRet (pe_mVarF (pv 1))))))
def m__law_rim : MS := (mRet (mFun tupleD (mCons (mLc (miSeq (mVarF 0)) (tgName 1) (mB (mBin neD (mLc (miSeq (mCall m__law_around 4 [] (mCons (mVarF 1) mNil))) (tgName 2) (mB (mInB true (mVarF 2) 0)) (mVarF 2) [2]) (mLst mNil))) (mVarF 1) [1]) mNil)))
theorem ok__law_rim (T : Tx mg g fd) : FnOk P w g.K mg base (L2.CX P w) 2 (g.F 33) (fd 33) P__law_rim (spF g 1 3 m__law_rim) :=
  okF T.F__law_rim sc__law_rim rfl rfl (by decide) fun cdv A outer s H E hr =>
    (pss_mOne (ps_mRet (pe_mCallT call_tuple_of rop_tuple (by rfl) T.z_tuple (by decide +kernel) (pa_mCons (pe_mLc (own := [("spot", 1)]) rfl sc__law_rim.nd (pi_mSeq rfl (pe_mVarF (pv 0))) (blkOk_by (own := [("spot", 1)]) (N := N__law_rim) (sc := defScope s__law_rim) (by decide +kernel)) (gok_name 1) (by decide) (fun _ _ _ _ _ => (pg_name (i := 1) sc__law_rim.nd rfl (by first | exact Or.inl rfl | exact Or.inr rfl))) (fun _ _ _ _ _ => (pts_one (pt_mCmp (op_neP hr.units) rop_ne (pe_mLc (own := [("own", 2)]) rfl sc__law_rim.nd (pi_mSeq rfl (pe_mCall (ok__law_around T) (hr.mono (by decide)) (by rfl) T.m__law_around T.F__law_around.kp T.b__law_around .nil passF (dfl := []) (fun _ _ => RpA.nil) hE_no (pa_mCons (pe_mVarF (pv 1)) pa_mNil) (len_cons len_nil) rfl)) (blkOk_by (own := [("own", 2)]) (by kernel_rfl)) (gok_name 2) (by decide) (fun _ _ _ _ _ => (pg_name (i := 2) sc__law_rim.nd rfl (by first | exact Or.inl rfl | exact Or.inr rfl))) (fun _ _ _ _ _ => (pts_one (pt_mInB (OpR.or (op_notInP hr.units) (op_notInDc (hu_of hr))) (pe_mVarF (pv 2)) (pv 0) (by with_unfolding_all rfl)))) (fun _ _ _ _ _ => (pe_mVarF (pv 2)))) (pe_mLst pa_mNil) (nomark _)))) (fun _ _ _ _ _ => (pe_mVarF (pv 1)))) pa_mNil))))
def m__law_four : MS := (mSeq (mTo (tgTL [1, 2]) (mVarF 0))
    (mRet (mTup (mCons (mTup (mCons (mBin subD (mVarF 1) (mC (.int 1))) (mCons (mBin subD (mVarF 2) (mC (.int 1))) mNil))) (mCons (mTup (mCons (mBin subD (mVarF 1) (mC (.int 1))) (mCons (mVarF 2) mNil))) (mCons (mTup (mCons (mVarF 1) (mCons (mBin subD (mVarF 2) (mC (.int 1))) mNil))) (mCons (mTup (mCons (mVarF 1) (mCons (mVarF 2) mNil))) mNil)))))))
theorem ok__law_four (T : Tx mg g fd) : FnOk P w g.K mg base (L2.CX P w) 1 (g.F 34) (fd 34) P__law_four (spF g 1 3 m__law_four) :=
  okF T.F__law_four sc__law_four rfl rfl (by decide) fun cdv A outer s H E hr =>
    (pss_mCons (ps_mTo (pe_mVarF (pv 0)) (pg_tl (by rfl) (pgs_cons (pg_name (i := 1) sc__law_four.nd rfl (by first | exact Or.inl rfl | exact Or.inr rfl)) (pgs_cons (pg_name (i := 2) sc__law_four.nd rfl (by first | exact Or.inl rfl | exact Or.inr rfl)) pgs_nil))) (gok_tl [1, 2]))
    (pss_mOne (ps_mRet (pe_mTup (pa_mCons (pe_mTup (pa_mCons (pe_mBin op_sub rop_sub (pe_mVarF (pv 1)) pe_mInt) (pa_mCons (pe_mBin op_sub rop_sub (pe_mVarF (pv 2)) pe_mInt) pa_mNil))) (pa_mCons (pe_mTup (pa_mCons (pe_mBin op_sub rop_sub (pe_mVarF (pv 1)) pe_mInt) (pa_mCons (pe_mVarF (pv 2)) pa_mNil))) (pa_mCons (pe_mTup (pa_mCons (pe_mVarF (pv 1)) (pa_mCons (pe_mBin op_sub rop_sub (pe_mVarF (pv 2)) pe_mInt) pa_mNil))) (pa_mCons (pe_mTup (pa_mCons (pe_mVarF (pv 1)) (pa_mCons (pe_mVarF (pv 2)) pa_mNil))) pa_mNil))))))))
def m__law_points : MS := (mRet (mFun tupleD (mCons (mLc (miSeq (mVarF 0)) (tgName 1) (mB (mBin eqD (mLc (miSeq (mCall m__law_four 3 [] (mCons (mVarF 1) mNil))) (tgName 2) (mB (mInB true (mVarF 2) 0)) (mVarF 2) [2]) (mLst mNil))) (mVarF 1) [1]) mNil)))
theorem ok__law_points (T : Tx mg g fd) : FnOk P w g.K mg base (L2.CX P w) 2 (g.F 35) (fd 35) P__law_points (spF g 1 3 m__law_points) :=
  okF T.F__law_points sc__law_points rfl rfl (by decide) fun cdv A outer s H E hr =>
    (pss_mOne (ps_mRet (pe_mCallT call_tuple_of rop_tuple (by rfl) T.z_tuple (by decide +kernel) (pa_mCons (pe_mLc (own := [("spot", 1)]) rfl sc__law_points.nd (pi_mSeq rfl (pe_mVarF (pv 0))) (blkOk_by (own := [("spot", 1)]) (N := N__law_points) (sc := defScope s__law_points) (by decide +kernel)) (gok_name 1) (by decide) (fun _ _ _ _ _ => (pg_name (i := 1) sc__law_points.nd rfl (by first | exact Or.inl rfl | exact Or.inr rfl))) (fun _ _ _ _ _ => (pts_one (pt_mCmp (op_eqP hr.units) rop_eq (pe_mLc (own := [("own", 2)]) rfl sc__law_points.nd (pi_mSeq rfl (pe_mCall (ok__law_four T) (hr.mono (by decide)) (by rfl) T.m__law_four T.F__law_four.kp T.b__law_four .nil passF (dfl := []) (fun _ _ => RpA.nil) hE_no (pa_mCons (pe_mVarF (pv 1)) pa_mNil) (len_cons len_nil) rfl)) (blkOk_by (own := [("own", 2)]) (by kernel_rfl)) (gok_name 2) (by decide) (fun _ _ _ _ _ => (pg_name (i := 2) sc__law_points.nd rfl (by first | exact Or.inl rfl | exact Or.inr rfl))) (fun _ _ _ _ _ => (pts_one (pt_mInB (OpR.or (op_notInP hr.units) (op_notInDc (hu_of hr))) (pe_mVarF (pv 2)) (pv 0) (by with_unfolding_all rfl)))) (fun _ _ _ _ _ => (pe_mVarF (pv 2)))) (pe_mLst pa_mNil) (nomark _)))) (fun _ _ _ _ _ => (pe_mVarF (pv 1)))) pa_mNil))))
def m__law_boxed : MS := (mSeq (mAsg 2 (mLst mNil))
    (mSeq (mFor (miFun rangeF (mCons (mVarF 1) mNil)) (tgName 3) (mAsg 2 (mBin addD (mVarF 2) (mLc (miFun rangeF (mCons (mVarF 0) mNil)) (tgName 4) mYes (mTup (mCons (mVarF 3) (mCons (mVarF 4) mNil))) [4]))))
    (mRet (mFun tupleD (mCons (mVarF 2) mNil)))))
theorem ok__law_boxed (T : Tx mg g fd) : FnOk P w g.K mg base (L2.CX P w) 1 (g.F 36) (fd 36) P__law_boxed (spF g 2 5 m__law_boxed) :=
  okF T.F__law_boxed sc__law_boxed rfl rfl (by decide) fun cdv A outer s H E hr =>
    (pss_mCons (ps_mAsg (i := 2) sc__law_boxed.nd rfl (by first | exact Or.inl rfl | exact Or.inr rfl) (pe_mLst pa_mNil))
    (pss_mCons (ps_mFor (passes_of rfl) rfl (pi_mRange (by rfl) T.z_range (pa_mCons (pe_mVarF (pv 1)) pa_mNil)) (pg_name (i := 3) sc__law_boxed.nd rfl (by first | exact Or.inl rfl | exact Or.inr rfl)) (gok_name 3) (pss_mOne (ps_mAsg (i := 2) sc__law_boxed.nd rfl (by first | exact Or.inl rfl | exact Or.inr rfl) (pe_mBin op_addU rop_add (pe_mVarF (pv 2)) (pe_mLc (own := [("y", 4)]) rfl sc__law_boxed.nd (pi_mRange (by rfl) T.z_range (pa_mCons (pe_mVarF (pv 0)) pa_mNil)) (blkOk_by (own := [("y", 4)]) (N := N__law_boxed) (sc := defScope s__law_boxed) (by decide +kernel)) (gok_name 4) (by decide) (fun _ _ _ _ _ => (pg_name (i := 4) sc__law_boxed.nd rfl (by first | exact Or.inl rfl | exact Or.inr rfl))) (fun _ _ _ _ _ => pts_mNil) (fun _ _ _ _ _ => (pe_mTup (pa_mCons (pe_mVarF (pv 3)) (pa_mCons (pe_mVarF (pv 4)) pa_mNil)))))))))
    (pss_mOne (ps_mRet (pe_mCallT call_tuple_of rop_tuple (by rfl) T.z_tuple (by decide +kernel) (pa_mCons (pe_mVarF (pv 2)) pa_mNil))))))
def m__law_room : MS := (mSeq (mTo (tgTL [2, 3, 4]) (mTup (mCons (mCallR m__law_take 6 [] (rRef 0 (rDat (mC (.int 3)) rNil))) (mCons (mCallR m__law_take 6 [] (rRef 0 (rDat (mC (.int 3)) rNil))) (mCons (mCallR m__law_take 6 [] (rRef 0 (rDat (mC (.int 8)) rNil))) mNil)))))
    (mSeq (mPar [5, 6] (mCons (mBin addD (mC (.int 2)) (mCallR m__law_take 6 [] (rRef 0 (rDat (mC (.int 3)) rNil)))) (mCons (mBin addD (mC (.int 2)) (mCallR m__law_take 6 [] (rRef 0 (rDat (mC (.int 2)) rNil)))) mNil)))
    (mSeq (mIf (mB (mBin eqD (mVarF 4) (mC (.int 0))))
    (mPar [5, 6] (mCons (mBin addD (mC (.int 1)) (mCallR m__law_take 6 [] (rRef 0 (rDat (mC (.int 3)) rNil)))) (mCons (mC (.int 1)) mNil)))
    (mIf (mAndT (mB (mBin eqD (mVarF 4) (mC (.int 1)))) (mB (mBin gtD (mVarF 1) (mC (.int 11)))))
    (mTo (tgTL [5, 6]) (mTup (mCons (mC (.int 3)) (mCons (mC (.int 4)) mNil))))
    mSkip))
    (mSeq (mSetF 7 (fSl (mLc (miSeq (mCall m__law_boxed 5 [] (mCons (mVarF 6) (mCons (mVarF 5) mNil)))) (tgTup [12, 13]) mYes (mTup (mCons (mBin addD (mVarF 2) (mVarF 12)) (mCons (mBin addD (mVarF 3) (mVarF 13)) mNil))) [12, 13]) mPN (mPS (mVarF 1))))
    (mSeq (mFor (miFun rangeF (mCons (mCallR m__law_take 6 [] (rRef 0 (rDat (mC (.int 5)) rNil))) mNil)) (tgName 8) (mSeq (mAsg 9 (mLst mNil))
    (mSeq (mForB 7 1000 (tgName 10) (mAsg 9 (mBin addD (mVarF 9) (mLc (miSeq (mCall m__law_beside 2 [] (mCons (mVarF 10) mNil))) (tgName 14) (mAndT (mB (mInB true (mVarF 14) 7)) (mB (mBin geD (mFun minTD (mCons (mVarF 14) mNil)) (mC (.int 0))))) (mVarF 14) [14]))))
    (mIf (mB (mBin ltD (mLenB 7) (mVarF 1)))
    (mDrop (mApp 7 (mCallR m__law_of 2 [] (rRef 0 (rDat (mFun sortSetND (mCons (mVarF 9) mNil)) rNil)))))
    mSkip))))
    (mSeq (mIf (mAndT (mB (mBin eqD (mCallR m__law_take 6 [] (rRef 0 (rDat (mC (.int 3)) rNil))) (mC (.int 0)))) (mB (mBin gtD (mLenB 7) (mC (.int 4)))))
    (mDrop (mRem 7 (mCallR m__law_of 2 [] (rRef 0 (rDat (mSortB 7 (mFun sortD (mCons (mVarF 7) mNil))) rNil)))))
    mSkip)
    (mSeq (mIf (mAndT (mB (mBin eqD (mCallR m__law_take 6 [] (rRef 0 (rDat (mC (.int 8)) rNil))) (mC (.int 0)))) (mB (mBin ltD (mLenB 7) (mBin subD (mVarF 1) (mC (.int 1))))))
    (mSeq (mAsg 11 (mBin addD (mBin addD (mFun maxD (mCons (mLc (miSeq (mVarF 7)) (tgName 14) mYes (mBin ixD (mVarF 14) (mC (.int 0))) [14]) mNil)) (mC (.int 1))) (mCallR m__law_take 6 [] (rRef 0 (rDat (mC (.int 2)) rNil)))))
    (mSetF 7 (fAdd (mVarF 7) (mLst (mCons (mTup (mCons (mVarF 11) (mCons (mC (.int 7)) mNil))) (mCons (mTup (mCons (mVarF 11) (mCons (mC (.int 8)) mNil))) mNil))))))
    mSkip)
    (mRet (mFun tupleD (mCons (mSortB 7 (mFun sortD (mCons (mVarF 7) mNil))) mNil))))))))))
theorem ok__law_room (T : Tx mg g fd) : FnOk P w g.K mg base (L2.CX P w) 3 (g.F 37) (fd 37) P__law_room (spF g 2 15 m__law_room) :=
  okF T.F__law_room sc__law_room rfl rfl (by decide) fun cdv A outer s H E hr =>
    have tk := takes_of (E := E) rfl rfl rfl rfl
    (pss_mCons (ps_mTo (pe_mTup (pa_mCons (pe_mCallR (ok__law_take T) (hr.mono (by decide)) (by rfl) T.m__law_take T.F__law_take.kp T.b__law_take .nil (passT tk) (dfl := []) (fun _ _ => RpA.nil) hE_of (pa_rRef (pv 0) (pa_rDat pe_mInt pa_rNil)) (lenR_ref (lenR_dat lenR_nil)) rfl) (pa_mCons (pe_mCallR (ok__law_take T) (hr.mono (by decide)) (by rfl) T.m__law_take T.F__law_take.kp T.b__law_take .nil (passT tk) (dfl := []) (fun _ _ => RpA.nil) hE_of (pa_rRef (pv 0) (pa_rDat pe_mInt pa_rNil)) (lenR_ref (lenR_dat lenR_nil)) rfl) (pa_mCons (pe_mCallR (ok__law_take T) (hr.mono (by decide)) (by rfl) T.m__law_take T.F__law_take.kp T.b__law_take .nil (passT tk) (dfl := []) (fun _ _ => RpA.nil) hE_of (pa_rRef (pv 0) (pa_rDat pe_mInt pa_rNil)) (lenR_ref (lenR_dat lenR_nil)) rfl) pa_mNil)))) (pg_tl (by rfl) (pgs_cons (pg_name (i := 2) sc__law_room.nd rfl (by first | exact Or.inl rfl | exact Or.inr rfl)) (pgs_cons (pg_name (i := 3) sc__law_room.nd rfl (by first | exact Or.inl rfl | exact Or.inr rfl)) (pgs_cons (pg_name (i := 4) sc__law_room.nd rfl (by first | exact Or.inl rfl | exact Or.inr rfl)) pgs_nil)))) (gok_tl [2, 3, 4]))
    (pss_mCons (ps_mPar (i := 5) (j := 6) rfl sc__law_room.nd rfl rfl (by decide) rfl rfl (pa_mCons (pe_mBin op_addU rop_add pe_mInt (pe_mCallR (ok__law_take T) (hr.mono (by decide)) (by rfl) T.m__law_take T.F__law_take.kp T.b__law_take .nil (passT tk) (dfl := []) (fun _ _ => RpA.nil) hE_of (pa_rRef (pv 0) (pa_rDat pe_mInt pa_rNil)) (lenR_ref (lenR_dat lenR_nil)) rfl)) (pa_mCons (pe_mBin op_addU rop_add pe_mInt (pe_mCallR (ok__law_take T) (hr.mono (by decide)) (by rfl) T.m__law_take T.F__law_take.kp T.b__law_take .nil (passT tk) (dfl := []) (fun _ _ => RpA.nil) hE_of (pa_rRef (pv 0) (pa_rDat pe_mInt pa_rNil)) (lenR_ref (lenR_dat lenR_nil)) rfl)) pa_mNil)) (by rfl))
    (pss_mCons (ps_mIf (pt_mCmp (op_eqP hr.units) rop_eq (pe_mVarF (pv 4)) pe_mInt (nomark _))
    (pss_mOne (ps_mPar (i := 5) (j := 6) rfl sc__law_room.nd rfl rfl (by decide) rfl rfl (pa_mCons (pe_mBin op_addU rop_add pe_mInt (pe_mCallR (ok__law_take T) (hr.mono (by decide)) (by rfl) T.m__law_take T.F__law_take.kp T.b__law_take .nil (passT tk) (dfl := []) (fun _ _ => RpA.nil) hE_of (pa_rRef (pv 0) (pa_rDat pe_mInt pa_rNil)) (lenR_ref (lenR_dat lenR_nil)) rfl)) (pa_mCons pe_mInt pa_mNil)) (by rfl)))
    (pss_mOne (ps_mIf (PW.pt (pw_mAnd (pt_mCmp (op_eqP hr.units) rop_eq (pe_mVarF (pv 4)) pe_mInt (nomark _)) (pw_and1 (pt_mCmp (OpR.or (op_gt) (op_gtP hr.units)) ROp.ord (pe_mVarF (pv 1)) pe_mInt (nomark _)))))
    (pss_mOne (ps_mTo (pe_mTup (pa_mCons pe_mInt (pa_mCons pe_mInt pa_mNil))) (pg_tl (by rfl) (pgs_cons (pg_name (i := 5) sc__law_room.nd rfl (by first | exact Or.inl rfl | exact Or.inr rfl)) (pgs_cons (pg_name (i := 6) sc__law_room.nd rfl (by first | exact Or.inl rfl | exact Or.inr rfl)) pgs_nil))) (gok_tl [5, 6])))
    pss_mNil)))
    (pss_mCons (ps_mSetF (i := 7) sc__law_room.nd rfl (by first | exact Or.inl rfl | exact Or.inr rfl) (pe_fSl rfl (pe_mLc (own := [("i", 12), ("j", 13)]) rfl sc__law_room.nd (pi_mSeq rfl (pe_mCall (ok__law_boxed T) (hr.mono (by decide)) (by rfl) T.m__law_boxed T.F__law_boxed.kp T.b__law_boxed .nil (passT tk) (dfl := []) (fun _ _ => RpA.nil) hE_of (pa_mCons (pe_mVarF (pv 6)) (pa_mCons (pe_mVarF (pv 5)) pa_mNil)) (len_cons (len_cons len_nil)) rfl)) (blkOk_by (own := [("i", 12), ("j", 13)]) (N := N__law_room) (sc := defScope s__law_room) (by decide +kernel)) (gok_tup [12, 13]) (by decide) (fun _ _ _ _ _ => (pg_tup (by rfl) (pgs_cons (pg_name (i := 12) sc__law_room.nd rfl (by first | exact Or.inl rfl | exact Or.inr rfl)) (pgs_cons (pg_name (i := 13) sc__law_room.nd rfl (by first | exact Or.inl rfl | exact Or.inr rfl)) pgs_nil)))) (fun _ _ _ _ _ => pts_mNil) (fun _ _ _ _ _ => (pe_mTup (pa_mCons (pe_mBin op_addU rop_add (pe_mVarF (pv 2)) (pe_mVarF (pv 12))) (pa_mCons (pe_mBin op_addU rop_add (pe_mVarF (pv 3)) (pe_mVarF (pv 13))) pa_mNil))))) po_mN (po_mS (pe_mVarF (pv 1)))))
    (pss_mCons (ps_mFor (passes_of rfl) rfl (pi_mRange (by rfl) T.z_range (pa_mCons (pe_mCallR (ok__law_take T) (hr.mono (by decide)) (by rfl) T.m__law_take T.F__law_take.kp T.b__law_take .nil (passT tk) (dfl := []) (fun _ _ => RpA.nil) hE_of (pa_rRef (pv 0) (pa_rDat pe_mInt pa_rNil)) (lenR_ref (lenR_dat lenR_nil)) rfl) pa_mNil)) (pg_name (i := 8) sc__law_room.nd rfl (by first | exact Or.inl rfl | exact Or.inr rfl)) (gok_name 8) (pss_mCons (ps_mAsg (i := 9) sc__law_room.nd rfl (by first | exact Or.inl rfl | exact Or.inr rfl) (pe_mLst pa_mNil))
    (pss_mCons (ps_mForB (n := 1000) rfl (passes_of rfl) rfl (pv 7) (pg_name (i := 10) sc__law_room.nd rfl (by first | exact Or.inl rfl | exact Or.inr rfl)) (gok_name 10) (pss_mOne (ps_mAsg (i := 9) sc__law_room.nd rfl (by first | exact Or.inl rfl | exact Or.inr rfl) (pe_mBin op_addU rop_add (pe_mVarF (pv 9)) (pe_mLc (own := [("own", 14)]) rfl sc__law_room.nd (pi_mSeq rfl (pe_mCall (ok__law_beside T) (hr.mono (by decide)) (by rfl) T.m__law_beside T.F__law_beside.kp T.b__law_beside .nil (passT tk) (dfl := []) (fun _ _ => RpA.nil) hE_of (pa_mCons (pe_mVarF (pv 10)) pa_mNil) (len_cons len_nil) rfl)) (blkOk_by (own := [("own", 14)]) (N := N__law_room) (sc := defScope s__law_room) (by decide +kernel)) (gok_name 14) (by decide) (fun _ _ _ _ _ => (pg_name (i := 14) sc__law_room.nd rfl (by first | exact Or.inl rfl | exact Or.inr rfl))) (fun _ _ _ _ _ => (pts_one (PW.pt (pw_mAnd (pt_mInB (OpR.or (op_notInP hr.units) (op_notInDc (hu_of hr))) (pe_mVarF (pv 14)) (pv 7) (by with_unfolding_all rfl)) (pw_and1 (pt_mCmp (OpR.or (op_ge) (op_geP hr.units)) ROp.ord (pe_mCallB (cr_minT rfl hr.units) rop_minT (by rfl) T.z_min (by decide +kernel) (pa_mCons (pe_mVarF (pv 14)) pa_mNil)) pe_mInt (nomark _))))))) (fun _ _ _ _ _ => (pe_mVarF (pv 14))))))))
    (pss_mOne (ps_mIf (pt_mCmp (OpR.or (op_lt) (op_ltP hr.units)) ROp.ord (pe_mLenB rfl (by rfl) T.z_len (pv 7) (pe_mCallB call_len rop_len (by rfl) T.z_len (by decide +kernel) (pa_mCons (pe_mVarF (pv 7)) pa_mNil))) (pe_mVarF (pv 1)) (nomark _))
    (pss_mOne (ps_mDrop (pe_mApp rfl (pv 7) (pe_mCallR (ok__law_of T) (hr.mono (by decide)) (by rfl) T.m__law_of T.F__law_of.kp T.b__law_of .nil (passT tk) (dfl := []) (fun _ _ => RpA.nil) hE_of (pa_rRef (pv 0) (pa_rDat (pe_mSortSetN rfl rfl hr.units (by rfl) T.z_sorted (by rfl) T.z_set (pe_mVarF (pv 9))) pa_rNil)) (lenR_ref (lenR_dat lenR_nil)) rfl))))
    pss_mNil)))))
    (pss_mCons (ps_mIf (PW.pt (pw_mAnd (pt_mCmp (op_eqP hr.units) rop_eq (pe_mCallR (ok__law_take T) (hr.mono (by decide)) (by rfl) T.m__law_take T.F__law_take.kp T.b__law_take .nil (passT tk) (dfl := []) (fun _ _ => RpA.nil) hE_of (pa_rRef (pv 0) (pa_rDat pe_mInt pa_rNil)) (lenR_ref (lenR_dat lenR_nil)) rfl) pe_mInt (nomark _)) (pw_and1 (pt_mCmp (OpR.or (op_gt) (op_gtP hr.units)) ROp.ord (pe_mLenB rfl (by rfl) T.z_len (pv 7) (pe_mCallB call_len rop_len (by rfl) T.z_len (by decide +kernel) (pa_mCons (pe_mVarF (pv 7)) pa_mNil))) pe_mInt (nomark _)))))
    (pss_mOne (ps_mDrop (pe_mRem rfl hr.units (pv 7) (pe_mCallR (ok__law_of T) (hr.mono (by decide)) (by rfl) T.m__law_of T.F__law_of.kp T.b__law_of .nil (passT tk) (dfl := []) (fun _ _ => RpA.nil) hE_of (pa_rRef (pv 0) (pa_rDat (pe_mSortB rfl rfl hr.units (by rfl) T.z_sorted (pv 7) (pe_mCallB (cr_sortDt rfl hr.units) rop_sort (by rfl) T.z_sorted (by decide +kernel) (pa_mCons (pe_mVarF (pv 7)) pa_mNil))) pa_rNil)) (lenR_ref (lenR_dat lenR_nil)) rfl))))
    pss_mNil)
    (pss_mCons (ps_mIf (PW.pt (pw_mAnd (pt_mCmp (op_eqP hr.units) rop_eq (pe_mCallR (ok__law_take T) (hr.mono (by decide)) (by rfl) T.m__law_take T.F__law_take.kp T.b__law_take .nil (passT tk) (dfl := []) (fun _ _ => RpA.nil) hE_of (pa_rRef (pv 0) (pa_rDat pe_mInt pa_rNil)) (lenR_ref (lenR_dat lenR_nil)) rfl) pe_mInt (nomark _)) (pw_and1 (pt_mCmp (OpR.or (op_lt) (op_ltP hr.units)) ROp.ord (pe_mLenB rfl (by rfl) T.z_len (pv 7) (pe_mCallB call_len rop_len (by rfl) T.z_len (by decide +kernel) (pa_mCons (pe_mVarF (pv 7)) pa_mNil))) (pe_mBin op_sub rop_sub (pe_mVarF (pv 1)) pe_mInt) (nomark _)))))
    (pss_mCons (ps_mAsg (i := 11) sc__law_room.nd rfl (by first | exact Or.inl rfl | exact Or.inr rfl) (pe_mBin op_addU rop_add (pe_mBin op_addU rop_add (pe_mCallB (cr_max rfl) rop_max (by rfl) T.z_max (by decide +kernel) (pa_mCons (pe_mLc (own := [("own", 14)]) rfl sc__law_room.nd (pi_mSeq rfl (pe_mVarF (pv 7))) (blkOk_by (own := [("own", 14)]) (N := N__law_room) (sc := defScope s__law_room) (by decide +kernel)) (gok_name 14) (by decide) (fun _ _ _ _ _ => (pg_name (i := 14) sc__law_room.nd rfl (by first | exact Or.inl rfl | exact Or.inr rfl))) (fun _ _ _ _ _ => pts_mNil) (fun _ _ _ _ _ => (pe_mIx rfl (hu_of hr) (pe_mVarF (pv 14)) pe_mInt (fun _ _ => rfl) (fun _ _ => rfl)))) pa_mNil)) pe_mInt) (pe_mCallR (ok__law_take T) (hr.mono (by decide)) (by rfl) T.m__law_take T.F__law_take.kp T.b__law_take .nil (passT tk) (dfl := []) (fun _ _ => RpA.nil) hE_of (pa_rRef (pv 0) (pa_rDat pe_mInt pa_rNil)) (lenR_ref (lenR_dat lenR_nil)) rfl)))
    (pss_mOne (ps_mSetF (i := 7) sc__law_room.nd rfl (by first | exact Or.inl rfl | exact Or.inr rfl) (pe_fAdd (pe_mVarF (pv 7)) (pe_mLst (pa_mCons (pe_mTup (pa_mCons (pe_mVarF (pv 11)) (pa_mCons pe_mInt pa_mNil))) (pa_mCons (pe_mTup (pa_mCons (pe_mVarF (pv 11)) (pa_mCons pe_mInt pa_mNil))) pa_mNil)))))))
    pss_mNil)
    (pss_mOne (ps_mRet (pe_mCallT call_tuple_of rop_tuple (by rfl) T.z_tuple (by decide +kernel) (pa_mCons (pe_mSortB rfl rfl hr.units (by rfl) T.z_sorted (pv 7) (pe_mCallB (cr_sortDt rfl hr.units) rop_sort (by rfl) T.z_sorted (by decide +kernel) (pa_mCons (pe_mVarF (pv 7)) pa_mNil))) pa_mNil)))))))))))
def m__law_nook : MS := (mRet (mTup (mCons (mTup (mCons (mC (.int 0)) (mCons (mC (.int 0)) mNil))) (mCons (mTup (mCons (mC (.int 0)) (mCons (mC (.int 1)) mNil))) (mCons (mTup (mCons (mC (.int 1)) (mCons (mC (.int 0)) mNil))) (mCons (mTup (mCons (mC (.int 1)) (mCons (mC (.int 1)) mNil))) (mCons (mTup (mCons (mC (.int 2)) (mCons (mC (.int 0)) mNil))) mNil)))))))
theorem ok__law_nook (T : Tx mg g fd) : FnOk P w g.K mg base (L2.CX P w) 1 (g.F 38) (fd 38) P__law_nook (spF g 0 0 m__law_nook) :=
  okF T.F__law_nook sc__law_nook rfl rfl (by decide) fun cdv A outer s H E hr =>
    (pss_mOne (ps_mRet (pe_mTup (pa_mCons (pe_mTup (pa_mCons pe_mInt (pa_mCons pe_mInt pa_mNil))) (pa_mCons (pe_mTup (pa_mCons pe_mInt (pa_mCons pe_mInt pa_mNil))) (pa_mCons (pe_mTup (pa_mCons pe_mInt (pa_mCons pe_mInt pa_mNil))) (pa_mCons (pe_mTup (pa_mCons pe_mInt (pa_mCons pe_mInt pa_mNil))) (pa_mCons (pe_mTup (pa_mCons pe_mInt (pa_mCons pe_mInt pa_mNil))) pa_mNil))))))))
def m__law_hall : MS := (mRet (mTup (mCons (mTup (mCons (mC (.int 0)) (mCons (mC (.int 0)) mNil))) (mCons (mTup (mCons (mC (.int 0)) (mCons (mC (.int 1)) mNil))) (mCons (mTup (mCons (mC (.int 0)) (mCons (mC (.int 2)) mNil))) (mCons (mTup (mCons (mC (.int 1)) (mCons (mC (.int 0)) mNil))) (mCons (mTup (mCons (mC (.int 1)) (mCons (mC (.int 2)) mNil))) (mCons (mTup (mCons (mC (.int 2)) (mCons (mC (.int 0)) mNil))) (mCons (mTup (mCons (mC (.int 2)) (mCons (mC (.int 1)) mNil))) (mCons (mTup (mCons (mC (.int 2)) (mCons (mC (.int 2)) mNil))) mNil))))))))))
theorem ok__law_hall (T : Tx mg g fd) : FnOk P w g.K mg base (L2.CX P w) 1 (g.F 39) (fd 39) P__law_hall (spF g 0 0 m__law_hall) :=
  okF T.F__law_hall sc__law_hall rfl rfl (by decide) fun cdv A outer s H E hr =>
    (pss_mOne (ps_mRet (pe_mTup (pa_mCons (pe_mTup (pa_mCons pe_mInt (pa_mCons pe_mInt pa_mNil))) (pa_mCons (pe_mTup (pa_mCons pe_mInt (pa_mCons pe_mInt pa_mNil))) (pa_mCons (pe_mTup (pa_mCons pe_mInt (pa_mCons pe_mInt pa_mNil))) (pa_mCons (pe_mTup (pa_mCons pe_mInt (pa_mCons pe_mInt pa_mNil))) (pa_mCons (pe_mTup (pa_mCons pe_mInt (pa_mCons pe_mInt pa_mNil))) (pa_mCons (pe_mTup (pa_mCons pe_mInt (pa_mCons pe_mInt pa_mNil))) (pa_mCons (pe_mTup (pa_mCons pe_mInt (pa_mCons pe_mInt pa_mNil))) (pa_mCons (pe_mTup (pa_mCons pe_mInt (pa_mCons pe_mInt pa_mNil))) pa_mNil)))))))))))
def m__law_hand_right : MS := (mSeq (mPar [0, 1] (mCons (mCall m__law_nook 0 [] mNil) (mCons (mCall m__law_hall 0 [] mNil) mNil)))
    (mSeq (mAsg 2 (mTup (mCons (mTup (mCons (mC (.int 0)) (mCons (mC (.int 1)) mNil))) (mCons (mTup (mCons (mC (.int 0)) (mCons (mC (.int 2)) mNil))) (mCons (mTup (mCons (mC (.int 1)) (mCons (mC (.int 0)) mNil))) (mCons (mTup (mCons (mC (.int 1)) (mCons (mC (.int 1)) mNil))) (mCons (mTup (mCons (mC (.int 1)) (mCons (mC (.int 2)) mNil))) (mCons (mTup (mCons (mC (.int 2)) (mCons (mC (.int 0)) mNil))) (mCons (mTup (mCons (mC (.int 2)) (mCons (mC (.int 1)) mNil))) (mCons (mTup (mCons (mC (.int 2)) (mCons (mC (.int 2)) mNil))) mNil))))))))))
    (mSeq (mAsg 3 (mLst (mCons (mCall m_rim 1 [] (mCons (mVarF 0) mNil)) (mCons (mCall m_inner 1 [] (mCons (mVarF 0) mNil)) (mCons (mCall m_rim 1 [] (mCons (mVarF 2) mNil)) (mCons (mCall m_inner 1 [] (mCons (mVarF 2) mNil)) (mCons (mCall m_inner 1 [] (mCons (mCall m__law_boxed 5 [] (mCons (mC (.int 3)) (mCons (mC (.int 3)) mNil))) mNil)) (mCons (mCall m_rim 1 [] (mCons (mCall m__law_boxed 5 [] (mCons (mC (.int 3)) (mCons (mC (.int 3)) mNil))) mNil)) (mCons (mCall m_inner 1 [] (mCons (mCall m__law_boxed 5 [] (mCons (mC (.int 4)) (mCons (mC (.int 3)) mNil))) mNil)) mNil)))))))))
    (mSeq (mAsg 3 (mBin addD (mVarF 3) (mLst (mCons (mCall m_points 1 [] (mCons (mVarF 0) mNil)) (mCons (mCall m_points 1 [] (mCons (mVarF 1) mNil)) (mCons (mCall m_points 1 [] (mCons (mVarF 2) mNil)) mNil))))))
    (mSeq (mAsg 4 (mLst (mCons (mVarF 0) (mCons (mTup mNil) (mCons (mVarF 2) (mCons (mTup mNil) (mCons (mTup (mCons (mTup (mCons (mC (.int 1)) (mCons (mC (.int 1)) mNil))) mNil)) (mCons (mVarF 1) (mCons (mTup (mCons (mTup (mCons (mC (.int 1)) (mCons (mC (.int 1)) mNil))) (mCons (mTup (mCons (mC (.int 1)) (mCons (mC (.int 2)) mNil))) mNil))) (mCons (mTup (mCons (mTup (mCons (mC (.int 1)) (mCons (mC (.int 1)) mNil))) mNil)) (mCons (mTup mNil) (mCons (mTup (mCons (mTup (mCons (mC (.int 1)) (mCons (mC (.int 2)) mNil))) (mCons (mTup (mCons (mC (.int 2)) (mCons (mC (.int 1)) mNil))) (mCons (mTup (mCons (mC (.int 2)) (mCons (mC (.int 2)) mNil))) mNil)))) mNil))))))))))))
    (mSeq (mAsg 3 (mBin addD (mVarF 3) (mLst (mCons (mCall m_about 3 [] (mCons (mVarF 0) (mCons (mTup (mCons (mC (.int 1)) (mCons (mC (.int 1)) mNil))) mNil))) (mCons (mCall m_about 3 [] (mCons (mVarF 2) (mCons (mTup (mCons (mC (.int 2)) (mCons (mC (.int 1)) mNil))) mNil))) (mCons (mCall m_beside 2 [] (mCons (mVarF 0) (mCons (mTup (mCons (mC (.int 1)) (mCons (mC (.int 0)) mNil))) mNil))) (mCons (mCall m_around 2 [] (mCons (mVarF 0) (mCons (mTup (mCons (mC (.int 0)) (mCons (mC (.int 1)) mNil))) mNil))) (mCons (mCall m_beside 2 [] (mCons (mTup (mCons (mTup (mCons (mC (.int 7)) (mCons (mC (.int 7)) mNil))) mNil)) (mCons (mTup (mCons (mC (.int 7)) (mCons (mC (.int 7)) mNil))) mNil))) mNil))))))))
    (mSeq (mAsg 3 (mBin addD (mVarF 3) (mLst (mCons (mCall m_around 2 [] (mCons (mVarF 1) (mCons (mTup (mCons (mC (.int 1)) (mCons (mC (.int 0)) mNil))) mNil))) (mCons (mCall m_beside 2 [] (mCons (mVarF 1) (mCons (mTup (mCons (mC (.int 1)) (mCons (mC (.int 0)) mNil))) mNil))) mNil)))))
    (mSeq (mAsg 4 (mBin addD (mVarF 4) (mLst (mCons (mTup (mCons (mTup (mCons (mC (.int 0)) (mCons (mC (.int 0)) mNil))) (mCons (mTup (mCons (mC (.int 0)) (mCons (mC (.int 1)) mNil))) (mCons (mTup (mCons (mC (.int 1)) (mCons (mC (.int 0)) mNil))) (mCons (mTup (mCons (mC (.int 1)) (mCons (mC (.int 1)) mNil))) mNil))))) (mCons (mTup (mCons (mTup (mCons (mC (.int 1)) (mCons (mC (.int 0)) mNil))) (mCons (mTup (mCons (mC (.int 1)) (mCons (mC (.int 1)) mNil))) (mCons (mTup (mCons (mC (.int 2)) (mCons (mC (.int 0)) mNil))) (mCons (mTup (mCons (mC (.int 2)) (mCons (mC (.int 1)) mNil))) mNil))))) (mCons (mTup (mCons (mTup (mCons (mC (.int 0)) (mCons (mC (.int 0)) mNil))) (mCons (mTup (mCons (mC (.int 1)) (mCons (mC (.int 1)) mNil))) (mCons (mTup (mCons (mC (.int 2)) (mCons (mC (.int 0)) mNil))) mNil)))) (mCons (mTup (mCons (mTup (mCons (mC (.int 0)) (mCons (mC (.int 0)) mNil))) (mCons (mTup (mCons (mC (.int 1)) (mCons (mC (.int 0)) mNil))) (mCons (mTup (mCons (mC (.int 1)) (mCons (mC (.int 1)) mNil))) mNil)))) (mCons (mTup mNil) mNil))))))))
    (mSeq (mAsg 4 (mBin addD (mVarF 4) (mLst (mCons (mTup (mCons (mTup (mCons (mC (.int 0)) (mCons (mC (.int 0)) mNil))) (mCons (mTup (mCons (mC (.int 0)) (mCons (mC (.int 1)) mNil))) (mCons (mTup (mCons (mC (.int 2)) (mCons (mC (.int 0)) mNil))) (mCons (mTup (mCons (mC (.int 2)) (mCons (mC (.int 1)) mNil))) mNil))))) (mCons (mTup (mCons (mTup (mCons (mC (.int 0)) (mCons (mC (.int 0)) mNil))) (mCons (mTup (mCons (mC (.int 2)) (mCons (mC (.int 0)) mNil))) mNil))) mNil)))))
    (mSeq (mAsg 5 (mCall m__law_boxed 5 [] (mCons (mC (.int 10)) (mCons (mC (.int 10)) mNil))))
    (mSeq (mAsg 3 (mBin addD (mVarF 3) (mLst (mCons (mFun lenD (mCons (mCall m_rim 1 [] (mCons (mVarF 5) mNil)) mNil)) (mCons (mFun lenD (mCons (mCall m_inner 1 [] (mCons (mVarF 5) mNil)) mNil)) (mCons (mSl (mCall m_points 1 [] (mCons (mVarF 5) mNil)) mPN (mPS (mC (.int 2)))) (mCons (mCall m_around 2 [] (mCons (mVarF 5) (mCons (mTup (mCons (mC (.int 0)) (mCons (mC (.int 0)) mNil))) mNil))) mNil)))))))
    (mRet (mCall (m__law_same 8) 4 [] (mCons (mVarF 3) (mCons (mBin addD (mVarF 4) (mLst (mCons (mC (.int 36)) (mCons (mC (.int 64)) (mCons (mTup (mCons (mTup (mCons (mC (.int 1)) (mCons (mC (.int 1)) mNil))) (mCons (mTup (mCons (mC (.int 1)) (mCons (mC (.int 2)) mNil))) mNil))) (mCons (mTup (mCons (mTup (mCons (mC (.int 0)) (mCons (mC (.int 1)) mNil))) (mCons (mTup (mCons (mC (.int 1)) (mCons (mC (.int 0)) mNil))) (mCons (mTup (mCons (mC (.int 1)) (mCons (mC (.int 1)) mNil))) mNil)))) mNil)))))) mNil)))))))))))))))
theorem ok__law_hand_right (T : Tx mg g fd) : FnOk P w g.K mg base (L2.CX P w) 10 (g.F 40) (fd 40) P__law_hand_right (spF g 0 6 m__law_hand_right) :=
  okF T.F__law_hand_right sc__law_hand_right rfl rfl (by decide) fun cdv A outer s H E hr =>
    have tk := takes_of (E := E) rfl rfl rfl rfl
    (pss_mCons (ps_mPar (i := 0) (j := 1) rfl sc__law_hand_right.nd rfl rfl (by decide) rfl rfl (pa_mCons (pe_mCall0 (ok__law_nook T) (hr.mono (by decide)) (by rfl) T.m__law_nook T.F__law_nook.kp T.b__law_nook (passT tk) hE_of) (pa_mCons (pe_mCall0 (ok__law_hall T) (hr.mono (by decide)) (by rfl) T.m__law_hall T.F__law_hall.kp T.b__law_hall (passT tk) hE_of) pa_mNil)) (by rfl))
    (pss_mCons (ps_mAsg (i := 2) sc__law_hand_right.nd rfl (by first | exact Or.inl rfl | exact Or.inr rfl) (pe_mTup (pa_mCons (pe_mTup (pa_mCons pe_mInt (pa_mCons pe_mInt pa_mNil))) (pa_mCons (pe_mTup (pa_mCons pe_mInt (pa_mCons pe_mInt pa_mNil))) (pa_mCons (pe_mTup (pa_mCons pe_mInt (pa_mCons pe_mInt pa_mNil))) (pa_mCons (pe_mTup (pa_mCons pe_mInt (pa_mCons pe_mInt pa_mNil))) (pa_mCons (pe_mTup (pa_mCons pe_mInt (pa_mCons pe_mInt pa_mNil))) (pa_mCons (pe_mTup (pa_mCons pe_mInt (pa_mCons pe_mInt pa_mNil))) (pa_mCons (pe_mTup (pa_mCons pe_mInt (pa_mCons pe_mInt pa_mNil))) (pa_mCons (pe_mTup (pa_mCons pe_mInt (pa_mCons pe_mInt pa_mNil))) pa_mNil))))))))))
    (pss_mCons (ps_mAsg (i := 3) sc__law_hand_right.nd rfl (by first | exact Or.inl rfl | exact Or.inr rfl) (pe_mLst (pa_mCons (pe_mCall (ok_rim T) (hr.mono (by decide)) (by rfl) T.m_rim T.F_rim.kp T.b_rim .nil (passT tk) (dfl := []) (fun _ _ => RpA.nil) hE_of (pa_mCons (pe_mVarF (pv 0)) pa_mNil) (len_cons len_nil) rfl) (pa_mCons (pe_mCall (ok_inner T) (hr.mono (by decide)) (by rfl) T.m_inner T.F_inner.kp T.b_inner .nil (passT tk) (dfl := []) (fun _ _ => RpA.nil) hE_of (pa_mCons (pe_mVarF (pv 0)) pa_mNil) (len_cons len_nil) rfl) (pa_mCons (pe_mCall (ok_rim T) (hr.mono (by decide)) (by rfl) T.m_rim T.F_rim.kp T.b_rim .nil (passT tk) (dfl := []) (fun _ _ => RpA.nil) hE_of (pa_mCons (pe_mVarF (pv 2)) pa_mNil) (len_cons len_nil) rfl) (pa_mCons (pe_mCall (ok_inner T) (hr.mono (by decide)) (by rfl) T.m_inner T.F_inner.kp T.b_inner .nil (passT tk) (dfl := []) (fun _ _ => RpA.nil) hE_of (pa_mCons (pe_mVarF (pv 2)) pa_mNil) (len_cons len_nil) rfl) (pa_mCons (pe_mCall (ok_inner T) (hr.mono (by decide)) (by rfl) T.m_inner T.F_inner.kp T.b_inner .nil (passT tk) (dfl := []) (fun _ _ => RpA.nil) hE_of (pa_mCons (pe_mCall (ok__law_boxed T) (hr.mono (by decide)) (by rfl) T.m__law_boxed T.F__law_boxed.kp T.b__law_boxed .nil (passT tk) (dfl := []) (fun _ _ => RpA.nil) hE_of (pa_mCons pe_mInt (pa_mCons pe_mInt pa_mNil)) (len_cons (len_cons len_nil)) rfl) pa_mNil) (len_cons len_nil) rfl) (pa_mCons (pe_mCall (ok_rim T) (hr.mono (by decide)) (by rfl) T.m_rim T.F_rim.kp T.b_rim .nil (passT tk) (dfl := []) (fun _ _ => RpA.nil) hE_of (pa_mCons (pe_mCall (ok__law_boxed T) (hr.mono (by decide)) (by rfl) T.m__law_boxed T.F__law_boxed.kp T.b__law_boxed .nil (passT tk) (dfl := []) (fun _ _ => RpA.nil) hE_of (pa_mCons pe_mInt (pa_mCons pe_mInt pa_mNil)) (len_cons (len_cons len_nil)) rfl) pa_mNil) (len_cons len_nil) rfl) (pa_mCons (pe_mCall (ok_inner T) (hr.mono (by decide)) (by rfl) T.m_inner T.F_inner.kp T.b_inner .nil (passT tk) (dfl := []) (fun _ _ => RpA.nil) hE_of (pa_mCons (pe_mCall (ok__law_boxed T) (hr.mono (by decide)) (by rfl) T.m__law_boxed T.F__law_boxed.kp T.b__law_boxed .nil (passT tk) (dfl := []) (fun _ _ => RpA.nil) hE_of (pa_mCons pe_mInt (pa_mCons pe_mInt pa_mNil)) (len_cons (len_cons len_nil)) rfl) pa_mNil) (len_cons len_nil) rfl) pa_mNil)))))))))
    (pss_mCons (ps_mAsg (i := 3) sc__law_hand_right.nd rfl (by first | exact Or.inl rfl | exact Or.inr rfl) (pe_mBin op_addU rop_add (pe_mVarF (pv 3)) (pe_mLst (pa_mCons (pe_mCall (ok_points T) (hr.mono (by decide)) (by rfl) T.m_points T.F_points.kp T.b_points .nil (passT tk) (dfl := []) (fun _ _ => RpA.nil) hE_of (pa_mCons (pe_mVarF (pv 0)) pa_mNil) (len_cons len_nil) rfl) (pa_mCons (pe_mCall (ok_points T) (hr.mono (by decide)) (by rfl) T.m_points T.F_points.kp T.b_points .nil (passT tk) (dfl := []) (fun _ _ => RpA.nil) hE_of (pa_mCons (pe_mVarF (pv 1)) pa_mNil) (len_cons len_nil) rfl) (pa_mCons (pe_mCall (ok_points T) (hr.mono (by decide)) (by rfl) T.m_points T.F_points.kp T.b_points .nil (passT tk) (dfl := []) (fun _ _ => RpA.nil) hE_of (pa_mCons (pe_mVarF (pv 2)) pa_mNil) (len_cons len_nil) rfl) pa_mNil))))))
    (pss_mCons (ps_mAsg (i := 4) sc__law_hand_right.nd rfl (by first | exact Or.inl rfl | exact Or.inr rfl) (pe_mLst (pa_mCons (pe_mVarF (pv 0)) (pa_mCons (pe_mTup pa_mNil) (pa_mCons (pe_mVarF (pv 2)) (pa_mCons (pe_mTup pa_mNil) (pa_mCons (pe_mTup (pa_mCons (pe_mTup (pa_mCons pe_mInt (pa_mCons pe_mInt pa_mNil))) pa_mNil)) (pa_mCons (pe_mVarF (pv 1)) (pa_mCons (pe_mTup (pa_mCons (pe_mTup (pa_mCons pe_mInt (pa_mCons pe_mInt pa_mNil))) (pa_mCons (pe_mTup (pa_mCons pe_mInt (pa_mCons pe_mInt pa_mNil))) pa_mNil))) (pa_mCons (pe_mTup (pa_mCons (pe_mTup (pa_mCons pe_mInt (pa_mCons pe_mInt pa_mNil))) pa_mNil)) (pa_mCons (pe_mTup pa_mNil) (pa_mCons (pe_mTup (pa_mCons (pe_mTup (pa_mCons pe_mInt (pa_mCons pe_mInt pa_mNil))) (pa_mCons (pe_mTup (pa_mCons pe_mInt (pa_mCons pe_mInt pa_mNil))) (pa_mCons (pe_mTup (pa_mCons pe_mInt (pa_mCons pe_mInt pa_mNil))) pa_mNil)))) pa_mNil))))))))))))
    (pss_mCons (ps_mAsg (i := 3) sc__law_hand_right.nd rfl (by first | exact Or.inl rfl | exact Or.inr rfl) (pe_mBin op_addU rop_add (pe_mVarF (pv 3)) (pe_mLst (pa_mCons (pe_mCall (ok_about T) (hr.mono (by decide)) (by rfl) T.m_about T.F_about.kp T.b_about .nil (passT tk) (dfl := []) (fun _ _ => RpA.nil) hE_of (pa_mCons (pe_mVarF (pv 0)) (pa_mCons (pe_mTup (pa_mCons pe_mInt (pa_mCons pe_mInt pa_mNil))) pa_mNil)) (len_cons (len_cons len_nil)) rfl) (pa_mCons (pe_mCall (ok_about T) (hr.mono (by decide)) (by rfl) T.m_about T.F_about.kp T.b_about .nil (passT tk) (dfl := []) (fun _ _ => RpA.nil) hE_of (pa_mCons (pe_mVarF (pv 2)) (pa_mCons (pe_mTup (pa_mCons pe_mInt (pa_mCons pe_mInt pa_mNil))) pa_mNil)) (len_cons (len_cons len_nil)) rfl) (pa_mCons (pe_mCall (ok_beside T) (hr.mono (by decide)) (by rfl) T.m_beside T.F_beside.kp T.b_beside .nil (passT tk) (dfl := []) (fun _ _ => RpA.nil) hE_of (pa_mCons (pe_mVarF (pv 0)) (pa_mCons (pe_mTup (pa_mCons pe_mInt (pa_mCons pe_mInt pa_mNil))) pa_mNil)) (len_cons (len_cons len_nil)) rfl) (pa_mCons (pe_mCall (ok_around T) (hr.mono (by decide)) (by rfl) T.m_around T.F_around.kp T.b_around .nil (passT tk) (dfl := []) (fun _ _ => RpA.nil) hE_of (pa_mCons (pe_mVarF (pv 0)) (pa_mCons (pe_mTup (pa_mCons pe_mInt (pa_mCons pe_mInt pa_mNil))) pa_mNil)) (len_cons (len_cons len_nil)) rfl) (pa_mCons (pe_mCall (ok_beside T) (hr.mono (by decide)) (by rfl) T.m_beside T.F_beside.kp T.b_beside .nil (passT tk) (dfl := []) (fun _ _ => RpA.nil) hE_of (pa_mCons (pe_mTup (pa_mCons (pe_mTup (pa_mCons pe_mInt (pa_mCons pe_mInt pa_mNil))) pa_mNil)) (pa_mCons (pe_mTup (pa_mCons pe_mInt (pa_mCons pe_mInt pa_mNil))) pa_mNil)) (len_cons (len_cons len_nil)) rfl) pa_mNil))))))))
    (pss_mCons (ps_mAsg (i := 3) sc__law_hand_right.nd rfl (by first | exact Or.inl rfl | exact Or.inr rfl) (pe_mBin op_addU rop_add (pe_mVarF (pv 3)) (pe_mLst (pa_mCons (pe_mCall (ok_around T) (hr.mono (by decide)) (by rfl) T.m_around T.F_around.kp T.b_around .nil (passT tk) (dfl := []) (fun _ _ => RpA.nil) hE_of (pa_mCons (pe_mVarF (pv 1)) (pa_mCons (pe_mTup (pa_mCons pe_mInt (pa_mCons pe_mInt pa_mNil))) pa_mNil)) (len_cons (len_cons len_nil)) rfl) (pa_mCons (pe_mCall (ok_beside T) (hr.mono (by decide)) (by rfl) T.m_beside T.F_beside.kp T.b_beside .nil (passT tk) (dfl := []) (fun _ _ => RpA.nil) hE_of (pa_mCons (pe_mVarF (pv 1)) (pa_mCons (pe_mTup (pa_mCons pe_mInt (pa_mCons pe_mInt pa_mNil))) pa_mNil)) (len_cons (len_cons len_nil)) rfl) pa_mNil)))))
    (pss_mCons (ps_mAsg (i := 4) sc__law_hand_right.nd rfl (by first | exact Or.inl rfl | exact Or.inr rfl) (pe_mBin op_addU rop_add (pe_mVarF (pv 4)) (pe_mLst (pa_mCons (pe_mTup (pa_mCons (pe_mTup (pa_mCons pe_mInt (pa_mCons pe_mInt pa_mNil))) (pa_mCons (pe_mTup (pa_mCons pe_mInt (pa_mCons pe_mInt pa_mNil))) (pa_mCons (pe_mTup (pa_mCons pe_mInt (pa_mCons pe_mInt pa_mNil))) (pa_mCons (pe_mTup (pa_mCons pe_mInt (pa_mCons pe_mInt pa_mNil))) pa_mNil))))) (pa_mCons (pe_mTup (pa_mCons (pe_mTup (pa_mCons pe_mInt (pa_mCons pe_mInt pa_mNil))) (pa_mCons (pe_mTup (pa_mCons pe_mInt (pa_mCons pe_mInt pa_mNil))) (pa_mCons (pe_mTup (pa_mCons pe_mInt (pa_mCons pe_mInt pa_mNil))) (pa_mCons (pe_mTup (pa_mCons pe_mInt (pa_mCons pe_mInt pa_mNil))) pa_mNil))))) (pa_mCons (pe_mTup (pa_mCons (pe_mTup (pa_mCons pe_mInt (pa_mCons pe_mInt pa_mNil))) (pa_mCons (pe_mTup (pa_mCons pe_mInt (pa_mCons pe_mInt pa_mNil))) (pa_mCons (pe_mTup (pa_mCons pe_mInt (pa_mCons pe_mInt pa_mNil))) pa_mNil)))) (pa_mCons (pe_mTup (pa_mCons (pe_mTup (pa_mCons pe_mInt (pa_mCons pe_mInt pa_mNil))) (pa_mCons (pe_mTup (pa_mCons pe_mInt (pa_mCons pe_mInt pa_mNil))) (pa_mCons (pe_mTup (pa_mCons pe_mInt (pa_mCons pe_mInt pa_mNil))) pa_mNil)))) (pa_mCons (pe_mTup pa_mNil) pa_mNil))))))))
    (pss_mCons (ps_mAsg (i := 4) sc__law_hand_right.nd rfl (by first | exact Or.inl rfl | exact Or.inr rfl) (pe_mBin op_addU rop_add (pe_mVarF (pv 4)) (pe_mLst (pa_mCons (pe_mTup (pa_mCons (pe_mTup (pa_mCons pe_mInt (pa_mCons pe_mInt pa_mNil))) (pa_mCons (pe_mTup (pa_mCons pe_mInt (pa_mCons pe_mInt pa_mNil))) (pa_mCons (pe_mTup (pa_mCons pe_mInt (pa_mCons pe_mInt pa_mNil))) (pa_mCons (pe_mTup (pa_mCons pe_mInt (pa_mCons pe_mInt pa_mNil))) pa_mNil))))) (pa_mCons (pe_mTup (pa_mCons (pe_mTup (pa_mCons pe_mInt (pa_mCons pe_mInt pa_mNil))) (pa_mCons (pe_mTup (pa_mCons pe_mInt (pa_mCons pe_mInt pa_mNil))) pa_mNil))) pa_mNil)))))
    (pss_mCons (ps_mAsg (i := 5) sc__law_hand_right.nd rfl (by first | exact Or.inl rfl | exact Or.inr rfl) (pe_mCall (ok__law_boxed T) (hr.mono (by decide)) (by rfl) T.m__law_boxed T.F__law_boxed.kp T.b__law_boxed .nil (passT tk) (dfl := []) (fun _ _ => RpA.nil) hE_of (pa_mCons pe_mInt (pa_mCons pe_mInt pa_mNil)) (len_cons (len_cons len_nil)) rfl))
    (pss_mCons (ps_mAsg (i := 3) sc__law_hand_right.nd rfl (by first | exact Or.inl rfl | exact Or.inr rfl) (pe_mBin op_addU rop_add (pe_mVarF (pv 3)) (pe_mLst (pa_mCons (pe_mCallB call_len rop_len (by rfl) T.z_len (by decide +kernel) (pa_mCons (pe_mCall (ok_rim T) (hr.mono (by decide)) (by rfl) T.m_rim T.F_rim.kp T.b_rim .nil (passT tk) (dfl := []) (fun _ _ => RpA.nil) hE_of (pa_mCons (pe_mVarF (pv 5)) pa_mNil) (len_cons len_nil) rfl) pa_mNil)) (pa_mCons (pe_mCallB call_len rop_len (by rfl) T.z_len (by decide +kernel) (pa_mCons (pe_mCall (ok_inner T) (hr.mono (by decide)) (by rfl) T.m_inner T.F_inner.kp T.b_inner .nil (passT tk) (dfl := []) (fun _ _ => RpA.nil) hE_of (pa_mCons (pe_mVarF (pv 5)) pa_mNil) (len_cons len_nil) rfl) pa_mNil)) (pa_mCons (pe_mSl rfl (pe_mCall (ok_points T) (hr.mono (by decide)) (by rfl) T.m_points T.F_points.kp T.b_points .nil (passT tk) (dfl := []) (fun _ _ => RpA.nil) hE_of (pa_mCons (pe_mVarF (pv 5)) pa_mNil) (len_cons len_nil) rfl) po_mN (po_mS pe_mInt)) (pa_mCons (pe_mCall (ok_around T) (hr.mono (by decide)) (by rfl) T.m_around T.F_around.kp T.b_around .nil (passT tk) (dfl := []) (fun _ _ => RpA.nil) hE_of (pa_mCons (pe_mVarF (pv 5)) (pa_mCons (pe_mTup (pa_mCons pe_mInt (pa_mCons pe_mInt pa_mNil))) pa_mNil)) (len_cons (len_cons len_nil)) rfl) pa_mNil)))))))
    (pss_mOne (ps_mRet (pe_mCall (ok__law_same T 8) (hr.mono (by decide)) (by rfl) T.m__law_same T.F__law_same.kp T.b__law_same .nil (passT tk) (dfl := []) (fun _ _ => RpA.nil) hE_of (pa_mCons (pe_mVarF (pv 3)) (pa_mCons (pe_mBin op_addU rop_add (pe_mVarF (pv 4)) (pe_mLst (pa_mCons pe_mInt (pa_mCons pe_mInt (pa_mCons (pe_mTup (pa_mCons (pe_mTup (pa_mCons pe_mInt (pa_mCons pe_mInt pa_mNil))) (pa_mCons (pe_mTup (pa_mCons pe_mInt (pa_mCons pe_mInt pa_mNil))) pa_mNil))) (pa_mCons (pe_mTup (pa_mCons (pe_mTup (pa_mCons pe_mInt (pa_mCons pe_mInt pa_mNil))) (pa_mCons (pe_mTup (pa_mCons pe_mInt (pa_mCons pe_mInt pa_mNil))) (pa_mCons (pe_mTup (pa_mCons pe_mInt (pa_mCons pe_mInt pa_mNil))) pa_mNil)))) pa_mNil)))))) pa_mNil)) (len_cons (len_cons len_nil)) rfl))))))))))))))
def m__law_ground_right : MS := (mSeq (mTo (tgTL [2, 3]) (mTup (mCons (mCall (m__law_lists 8) 2 [] (mCons (mVarF 1) mNil)) (mCons (mCall m__law_points 3 [] (mCons (mVarF 1) mNil)) mNil))))
    (mSeq (mAsg 4 (mCall m__law_rim 3 [] (mCons (mVarF 1) mNil)))
    (mSeq (mAsg 5 (mLst (mCons (mCall m_rim 1 [] (mCons (mVarF 2) mNil)) (mCons (mCall m_inner 1 [] (mCons (mVarF 1) mNil)) (mCons (mCall m_points 1 [] (mCons (mVarF 2) mNil)) (mCons (mLc (miSeq (mVarF 3)) (tgName 6) mYes (mCall m_about 3 [] (mCons (mVarF 2) (mCons (mFun listD (mCons (mVarF 6) mNil)) mNil))) [6]) mNil))))))
    (mSeq (mIf (mNotT (mTru (mCall (m__law_same 8) 4 [] (mCons (mVarF 5) (mCons (mLst (mCons (mVarF 4) (mCons (mFun tupleD (mCons (mLc (miSeq (mVarF 1)) (tgName 6) (mB (mInB true (mVarF 6) 4)) (mVarF 6) [6]) mNil)) (mCons (mVarF 3) (mCons (mLc (miSeq (mVarF 3)) (tgName 6) mYes (mCall m__law_four 3 [] (mCons (mVarF 6) mNil)) [6]) mNil))))) mNil)))))
    (mRet (mC (.bl false)))
    mSkip)
    (mSeq (mFor (miSeq (mCallR m__law_pick 6 [] (rRef 0 (rDat (mFun listD (mCons (mVarF 1) mNil)) (rDat (mC (.int 4)) rNil))))) (tgName 6) (mSeq (mAsg 7 (mLst (mCons (mFun tupleD (mCons (mFun sortD (mCons (mLc (miSeq (mCall m__law_beside 2 [] (mCons (mVarF 6) mNil))) (tgName 8) (mB (mInB false (mVarF 8) 1)) (mVarF 8) [8]) mNil)) mNil)) (mCons (mFun tupleD (mCons (mFun sortD (mCons (mLc (miSeq (mCall m__law_around 4 [] (mCons (mVarF 6) mNil))) (tgName 8) (mB (mInB false (mVarF 8) 1)) (mVarF 8) [8]) mNil)) mNil)) mNil))))
    (mIf (mNotT (mTru (mCall (m__law_same 8) 4 [] (mCons (mLst (mCons (mCall m_beside 2 [] (mCons (mVarF 2) (mCons (mVarF 6) mNil))) (mCons (mCall m_around 2 [] (mCons (mVarF 1) (mCons (mFun listD (mCons (mVarF 6) mNil)) mNil))) mNil))) (mCons (mVarF 7) mNil)))))
    (mRet (mC (.bl false)))
    mSkip)))
    (mRet (mC (.bl true))))))))
theorem ok__law_ground_right (T : Tx mg g fd) : FnOk P w g.K mg base (L2.CX P w) 10 (g.F 41) (fd 41) P__law_ground_right (spF g 2 9 m__law_ground_right) :=
  okF T.F__law_ground_right sc__law_ground_right rfl rfl (by decide) fun cdv A outer s H E hr =>
    have tk := takes_of (E := E) rfl rfl rfl rfl
    (pss_mCons (ps_mTo (pe_mTup (pa_mCons (pe_mCall (ok__law_lists T 8) (hr.mono (by decide)) (by rfl) T.m__law_lists T.F__law_lists.kp T.b__law_lists .nil (passT tk) (dfl := []) (fun _ _ => RpA.nil) hE_of (pa_mCons (pe_mVarF (pv 1)) pa_mNil) (len_cons len_nil) rfl) (pa_mCons (pe_mCall (ok__law_points T) (hr.mono (by decide)) (by rfl) T.m__law_points T.F__law_points.kp T.b__law_points .nil (passT tk) (dfl := []) (fun _ _ => RpA.nil) hE_of (pa_mCons (pe_mVarF (pv 1)) pa_mNil) (len_cons len_nil) rfl) pa_mNil))) (pg_tl (by rfl) (pgs_cons (pg_name (i := 2) sc__law_ground_right.nd rfl (by first | exact Or.inl rfl | exact Or.inr rfl)) (pgs_cons (pg_name (i := 3) sc__law_ground_right.nd rfl (by first | exact Or.inl rfl | exact Or.inr rfl)) pgs_nil))) (gok_tl [2, 3]))
    (pss_mCons (ps_mAsg (i := 4) sc__law_ground_right.nd rfl (by first | exact Or.inl rfl | exact Or.inr rfl) (pe_mCall (ok__law_rim T) (hr.mono (by decide)) (by rfl) T.m__law_rim T.F__law_rim.kp T.b__law_rim .nil (passT tk) (dfl := []) (fun _ _ => RpA.nil) hE_of (pa_mCons (pe_mVarF (pv 1)) pa_mNil) (len_cons len_nil) rfl))
    (pss_mCons (ps_mAsg (i := 5) sc__law_ground_right.nd rfl (by first | exact Or.inl rfl | exact Or.inr rfl) (pe_mLst (pa_mCons (pe_mCall (ok_rim T) (hr.mono (by decide)) (by rfl) T.m_rim T.F_rim.kp T.b_rim .nil (passT tk) (dfl := []) (fun _ _ => RpA.nil) hE_of (pa_mCons (pe_mVarF (pv 2)) pa_mNil) (len_cons len_nil) rfl) (pa_mCons (pe_mCall (ok_inner T) (hr.mono (by decide)) (by rfl) T.m_inner T.F_inner.kp T.b_inner .nil (passT tk) (dfl := []) (fun _ _ => RpA.nil) hE_of (pa_mCons (pe_mVarF (pv 1)) pa_mNil) (len_cons len_nil) rfl) (pa_mCons (pe_mCall (ok_points T) (hr.mono (by decide)) (by rfl) T.m_points T.F_points.kp T.b_points .nil (passT tk) (dfl := []) (fun _ _ => RpA.nil) hE_of (pa_mCons (pe_mVarF (pv 2)) pa_mNil) (len_cons len_nil) rfl) (pa_mCons (pe_mLc (own := [("own", 6)]) rfl sc__law_ground_right.nd (pi_mSeq rfl (pe_mVarF (pv 3))) (blkOk_by (own := [("own", 6)]) (N := N__law_ground_right) (sc := defScope s__law_ground_right) (by decide +kernel)) (gok_name 6) (by decide) (fun _ _ _ _ _ => (pg_name (i := 6) sc__law_ground_right.nd rfl (by first | exact Or.inl rfl | exact Or.inr rfl))) (fun _ _ _ _ _ => pts_mNil) (fun _ _ _ _ _ => (pe_mCall (ok_about T) (hr.mono (by decide)) (by rfl) T.m_about T.F_about.kp T.b_about .nil passF (dfl := []) (fun _ _ => RpA.nil) hE_no (pa_mCons (pe_mVarF (pv 2)) (pa_mCons (pe_mCallT call_list_of rop_list (by rfl) T.z_list (by decide +kernel) (pa_mCons (pe_mVarF (pv 6)) pa_mNil)) pa_mNil)) (len_cons (len_cons len_nil)) rfl))) pa_mNil))))))
    (pss_mCons (ps_mIf (pt_mNot (pt_mTru rfl (pe_mCall (ok__law_same T 8) (hr.mono (by decide)) (by rfl) T.m__law_same T.F__law_same.kp T.b__law_same .nil (passT tk) (dfl := []) (fun _ _ => RpA.nil) hE_of (pa_mCons (pe_mVarF (pv 5)) (pa_mCons (pe_mLst (pa_mCons (pe_mVarF (pv 4)) (pa_mCons (pe_mCallT call_tuple_of rop_tuple (by rfl) T.z_tuple (by decide +kernel) (pa_mCons (pe_mLc (own := [("own", 6)]) rfl sc__law_ground_right.nd (pi_mSeq rfl (pe_mVarF (pv 1))) (blkOk_by (own := [("own", 6)]) (N := N__law_ground_right) (sc := defScope s__law_ground_right) (by decide +kernel)) (gok_name 6) (by decide) (fun _ _ _ _ _ => (pg_name (i := 6) sc__law_ground_right.nd rfl (by first | exact Or.inl rfl | exact Or.inr rfl))) (fun _ _ _ _ _ => (pts_one (pt_mInB (OpR.or (op_notInP hr.units) (op_notInDc (hu_of hr))) (pe_mVarF (pv 6)) (pv 4) (by with_unfolding_all rfl)))) (fun _ _ _ _ _ => (pe_mVarF (pv 6)))) pa_mNil)) (pa_mCons (pe_mVarF (pv 3)) (pa_mCons (pe_mLc (own := [("own", 6)]) rfl sc__law_ground_right.nd (pi_mSeq rfl (pe_mVarF (pv 3))) (blkOk_by (own := [("own", 6)]) (N := N__law_ground_right) (sc := defScope s__law_ground_right) (by decide +kernel)) (gok_name 6) (by decide) (fun _ _ _ _ _ => (pg_name (i := 6) sc__law_ground_right.nd rfl (by first | exact Or.inl rfl | exact Or.inr rfl))) (fun _ _ _ _ _ => pts_mNil) (fun _ _ _ _ _ => (pe_mCall (ok__law_four T) (hr.mono (by decide)) (by rfl) T.m__law_four T.F__law_four.kp T.b__law_four .nil passF (dfl := []) (fun _ _ => RpA.nil) hE_no (pa_mCons (pe_mVarF (pv 6)) pa_mNil) (len_cons len_nil) rfl))) pa_mNil))))) pa_mNil)) (len_cons (len_cons len_nil)) rfl) (by intro _; rfl)))
    (pss_mOne (ps_mRet pe_mBl))
    pss_mNil)
    (pss_mCons (ps_mFor (passes_of rfl) rfl (pi_mSeq rfl (pe_mCallR (ok__law_pick T) (hr.mono (by decide)) (by rfl) T.m__law_pick T.F__law_pick.kp T.b__law_pick .nil (passT tk) (dfl := []) (fun _ _ => RpA.nil) hE_of (pa_rRef (pv 0) (pa_rDat (pe_mCallT call_list_of rop_list (by rfl) T.z_list (by decide +kernel) (pa_mCons (pe_mVarF (pv 1)) pa_mNil)) (pa_rDat pe_mInt pa_rNil))) (lenR_ref (lenR_dat (lenR_dat lenR_nil))) rfl)) (pg_name (i := 6) sc__law_ground_right.nd rfl (by first | exact Or.inl rfl | exact Or.inr rfl)) (gok_name 6) (pss_mCons (ps_mAsg (i := 7) sc__law_ground_right.nd rfl (by first | exact Or.inl rfl | exact Or.inr rfl) (pe_mLst (pa_mCons (pe_mCallT call_tuple_of rop_tuple (by rfl) T.z_tuple (by decide +kernel) (pa_mCons (pe_mCallB (cr_sortDt rfl hr.units) rop_sort (by rfl) T.z_sorted (by decide +kernel) (pa_mCons (pe_mLc (own := [("its", 8)]) rfl sc__law_ground_right.nd (pi_mSeq rfl (pe_mCall (ok__law_beside T) (hr.mono (by decide)) (by rfl) T.m__law_beside T.F__law_beside.kp T.b__law_beside .nil (passT tk) (dfl := []) (fun _ _ => RpA.nil) hE_of (pa_mCons (pe_mVarF (pv 6)) pa_mNil) (len_cons len_nil) rfl)) (blkOk_by (own := [("its", 8)]) (N := N__law_ground_right) (sc := defScope s__law_ground_right) (by decide +kernel)) (gok_name 8) (by decide) (fun _ _ _ _ _ => (pg_name (i := 8) sc__law_ground_right.nd rfl (by first | exact Or.inl rfl | exact Or.inr rfl))) (fun _ _ _ _ _ => (pts_one (pt_mInB (OpR.or (op_inP hr.units) (op_inDc (hu_of hr))) (pe_mVarF (pv 8)) (pv 1) (by with_unfolding_all rfl)))) (fun _ _ _ _ _ => (pe_mVarF (pv 8)))) pa_mNil)) pa_mNil)) (pa_mCons (pe_mCallT call_tuple_of rop_tuple (by rfl) T.z_tuple (by decide +kernel) (pa_mCons (pe_mCallB (cr_sortDt rfl hr.units) rop_sort (by rfl) T.z_sorted (by decide +kernel) (pa_mCons (pe_mLc (own := [("its", 8)]) rfl sc__law_ground_right.nd (pi_mSeq rfl (pe_mCall (ok__law_around T) (hr.mono (by decide)) (by rfl) T.m__law_around T.F__law_around.kp T.b__law_around .nil (passT tk) (dfl := []) (fun _ _ => RpA.nil) hE_of (pa_mCons (pe_mVarF (pv 6)) pa_mNil) (len_cons len_nil) rfl)) (blkOk_by (own := [("its", 8)]) (N := N__law_ground_right) (sc := defScope s__law_ground_right) (by decide +kernel)) (gok_name 8) (by decide) (fun _ _ _ _ _ => (pg_name (i := 8) sc__law_ground_right.nd rfl (by first | exact Or.inl rfl | exact Or.inr rfl))) (fun _ _ _ _ _ => (pts_one (pt_mInB (OpR.or (op_inP hr.units) (op_inDc (hu_of hr))) (pe_mVarF (pv 8)) (pv 1) (by with_unfolding_all rfl)))) (fun _ _ _ _ _ => (pe_mVarF (pv 8)))) pa_mNil)) pa_mNil)) pa_mNil))))
    (pss_mOne (ps_mIf (pt_mNot (pt_mTru rfl (pe_mCall (ok__law_same T 8) (hr.mono (by decide)) (by rfl) T.m__law_same T.F__law_same.kp T.b__law_same .nil (passT tk) (dfl := []) (fun _ _ => RpA.nil) hE_of (pa_mCons (pe_mLst (pa_mCons (pe_mCall (ok_beside T) (hr.mono (by decide)) (by rfl) T.m_beside T.F_beside.kp T.b_beside .nil (passT tk) (dfl := []) (fun _ _ => RpA.nil) hE_of (pa_mCons (pe_mVarF (pv 2)) (pa_mCons (pe_mVarF (pv 6)) pa_mNil)) (len_cons (len_cons len_nil)) rfl) (pa_mCons (pe_mCall (ok_around T) (hr.mono (by decide)) (by rfl) T.m_around T.F_around.kp T.b_around .nil (passT tk) (dfl := []) (fun _ _ => RpA.nil) hE_of (pa_mCons (pe_mVarF (pv 1)) (pa_mCons (pe_mCallT call_list_of rop_list (by rfl) T.z_list (by decide +kernel) (pa_mCons (pe_mVarF (pv 6)) pa_mNil)) pa_mNil)) (len_cons (len_cons len_nil)) rfl) pa_mNil))) (pa_mCons (pe_mVarF (pv 7)) pa_mNil)) (len_cons (len_cons len_nil)) rfl) (by intro _; rfl)))
    (pss_mOne (ps_mRet pe_mBl))
    pss_mNil))))
    (pss_mOne (ps_mRet pe_mBl)))))))
def m__law_right : MS := (mSeq (mAsg 1 (mFun tupleD (mCons (mFun sortD (mCons (mCallR m__law_pick 6 [] (rRef 0 (rDat (mFun listD (mCons (mCall m__law_boxed 5 [] (mCons (mC (.int 4)) (mCons (mC (.int 5)) mNil))) mNil)) (rDat (mBin addD (mC (.int 8)) (mCallR m__law_take 6 [] (rRef 0 (rDat (mC (.int 13)) rNil)))) rNil)))) mNil)) mNil)))
    (mRet (mAnd (mCallR m__law_ground_right 9 [] (rRef 0 (rDat (mCallR m__law_room 15 [] (rRef 0 (rDat (mC (.int 12)) rNil))) rNil))) (mCallR m__law_ground_right 9 [] (rRef 0 (rDat (mVarF 1) rNil))))))
theorem ok__law_right (T : Tx mg g fd) : FnOk P w g.K mg base (L2.CX P w) 11 (g.F 42) (fd 42) P__law_right (spF g 1 2 m__law_right) :=
  okF T.F__law_right sc__law_right rfl rfl (by decide) fun cdv A outer s H E hr =>
    have tk := takes_of (E := E) rfl rfl rfl rfl
    (pss_mCons (ps_mAsg (i := 1) sc__law_right.nd rfl (by first | exact Or.inl rfl | exact Or.inr rfl) (pe_mCallT call_tuple_of rop_tuple (by rfl) T.z_tuple (by decide +kernel) (pa_mCons (pe_mCallB (cr_sortDt rfl hr.units) rop_sort (by rfl) T.z_sorted (by decide +kernel) (pa_mCons (pe_mCallR (ok__law_pick T) (hr.mono (by decide)) (by rfl) T.m__law_pick T.F__law_pick.kp T.b__law_pick .nil (passT tk) (dfl := []) (fun _ _ => RpA.nil) hE_of (pa_rRef (pv 0) (pa_rDat (pe_mCallT call_list_of rop_list (by rfl) T.z_list (by decide +kernel) (pa_mCons (pe_mCall (ok__law_boxed T) (hr.mono (by decide)) (by rfl) T.m__law_boxed T.F__law_boxed.kp T.b__law_boxed .nil (passT tk) (dfl := []) (fun _ _ => RpA.nil) hE_of (pa_mCons pe_mInt (pa_mCons pe_mInt pa_mNil)) (len_cons (len_cons len_nil)) rfl) pa_mNil)) (pa_rDat (pe_mBin op_addU rop_add pe_mInt (pe_mCallR (ok__law_take T) (hr.mono (by decide)) (by rfl) T.m__law_take T.F__law_take.kp T.b__law_take .nil (passT tk) (dfl := []) (fun _ _ => RpA.nil) hE_of (pa_rRef (pv 0) (pa_rDat pe_mInt pa_rNil)) (lenR_ref (lenR_dat lenR_nil)) rfl)) pa_rNil))) (lenR_ref (lenR_dat (lenR_dat lenR_nil))) rfl) pa_mNil)) pa_mNil)))
    (pss_mOne (ps_mRet (pe_mAnd rfl (pe_mCallR (ok__law_ground_right T) (hr.mono (by decide)) (by rfl) T.m__law_ground_right T.F__law_ground_right.kp T.b__law_ground_right .nil (passT tk) (dfl := []) (fun _ _ => RpA.nil) hE_of (pa_rRef (pv 0) (pa_rDat (pe_mCallR (ok__law_room T) (hr.mono (by decide)) (by rfl) T.m__law_room T.F__law_room.kp T.b__law_room .nil (passT tk) (dfl := []) (fun _ _ => RpA.nil) hE_of (pa_rRef (pv 0) (pa_rDat pe_mInt pa_rNil)) (lenR_ref (lenR_dat lenR_nil)) rfl) pa_rNil)) (lenR_ref (lenR_dat lenR_nil)) rfl) (pe_one (pe_mCallR (ok__law_ground_right T) (hr.mono (by decide)) (by rfl) T.m__law_ground_right T.F__law_ground_right.kp T.b__law_ground_right .nil (passT tk) (dfl := []) (fun _ _ => RpA.nil) hE_of (pa_rRef (pv 0) (pa_rDat (pe_mVarF (pv 1)) pa_rNil)) (lenR_ref (lenR_dat lenR_nil)) rfl))))))
def m_law : MS := (mRet (mAnd (mCall m__law_hand_right 6 [] mNil) (mCallR m__law_right 2 [] (rFr (fCall m__law_box f__law_box 3 (mCons (mCall m__law_cells 6 [] (mCons (mVarF 0) (mCons (mC (.int 1)) mNil))) (mCons (mC (.int 0)) mNil))) rNil))))
theorem ok_law (T : Tx mg g fd) : FnOk P w g.K mg base (L2.CX P w) 12 (g.F 43) (fd 43) P_law (spF g 1 1 m_law) :=
  okF T.F_law sc_law rfl rfl (by decide) fun cdv A outer s H E hr =>
    have tk := takes_of (E := E) rfl rfl rfl rfl
    (pss_mOne (ps_mRet (pe_mAnd rfl (pe_mCall0 (ok__law_hand_right T) (hr.mono (by decide)) (by rfl) T.m__law_hand_right T.F__law_hand_right.kp T.b__law_hand_right (passT tk) hE_of) (pe_one (pe_mCallR (ok__law_right T) (hr.mono (by decide)) (by rfl) T.m__law_right T.F__law_right.kp T.b__law_right .nil (passT tk) (dfl := []) (fun _ _ => RpA.nil) hE_of (pa_rFr (pe_fCall (ok__law_box T) (hr.mono (by decide)) (by rfl) T.m__law_box T.F__law_box.kp T.b__law_box (passT tk) (pa_mCons (pe_mCall (ok__law_cells T) (hr.mono (by decide)) (by rfl) T.m__law_cells T.F__law_cells.kp T.b__law_cells .nil (passT tk) (dfl := []) (fun _ _ => RpA.nil) hE_of (pa_mCons (pe_mVarF (pv 0)) (pa_mCons pe_mInt pa_mNil)) (len_cons (len_cons len_nil)) rfl) (pa_mCons pe_mInt pa_mNil)) (len_cons (len_cons len_nil))) pa_rNil) (lenR_fr lenR_nil) rfl)))))
end
set_option maxHeartbeats 4000000
abbrev tR (R : List P2) : D := .tup (R.map sq)
abbrev lR (R : List P2) : D := .lst (R.map sq)
abbrev sR (R : List P2) : D := .lst (R.map sl2)
def kp (p : P2) : D := .kt [.int p.1, .int p.2]
theorem pushed_rn (p : P2) (ws : List P2) (hl : ws.length ≤ 1000000) : Rn m_pushed 6 [sq p, .kt (ws.map kp)] (lR (ws.map fun w => (p.1 + w.1, p.2 + w.2))) := by
  refine rn (st' := ⟨[.d (sq p), .d (.kt (ws.map kp)), .d (.int p.1), .d (.int p.2), .no, .no], []⟩) ?_
  unfold m_pushed
  refine seq_to (st1 := ⟨[.d (sq p), .d (.kt (ws.map kp)), .d (.int p.1), .d (.int p.2), .no, .no], []⟩) rfl ?_
  refine (ret_at (lc_all (f := fun w => sq (p.1 + w.1, p.2 + w.2)) ws rfl hl fun w _ => ⟨[.d (sq p), .d (.kt (ws.map kp)), .d (.int p.1), .d (.int p.2), .d (.int w.1), .d (.int w.2)], rfl, rfl⟩)).trans ?_
  show _ = SO.rt (.lst ((ws.map fun w => (p.1 + w.1, p.2 + w.2)).map sq)) _
  rw [List.map_map]
  rfl
theorem within_rn (R Q : List P2) {d : D} (hd : seqW d = some (Q.map sq)) (hl : Q.length ≤ 1000000) : Rn m_within 3 [tR R, d] (tR (Q.filter fun x => decide (x ∈ R))) := by
  refine rn (st' := ⟨[.d (tR R), .d d, .no], []⟩) ?_
  unfold m_within
  refine ret_at (fun_at (cons_at (lc_at (b := fun x => decide (x ∈ R)) (f := sq) Q ?_ hl fun x _ => ⟨[.d (tR R), .d d, .d (sq x)], rfl, b_at (inb_at (d := tR R) rfl rfl (in_y x R rfl)), fun _ => rfl⟩) rfl) rfl)
  show optO (seqW d) _ = _
  rw [hd]
  rfl
theorem table_rn (R : List P2) (nd : R.Nodup) (hl : R.length ≤ 1000000) : Rn m_table_of 2 [tR R] (tabD R (.bl true)) := by
  refine rn (st' := ⟨[.d (tR R), .no], []⟩) ?_
  unfold m_table_of
  exact ret_at (dc_at R rfl nd hl fun x _ => ⟨[.d (tR R), .d (sq x)], rfl, rfl, rfl⟩)
abbrev ptB (R : List P2) (p : P2) : Bool := decide ((p.1 - 1, p.2) ∈ R) && (decide ((p.1, p.2 - 1) ∈ R) && decide ((p.1 - 1, p.2 - 1) ∈ R))
abbrev pts (R : List P2) : List P2 := R.filter (ptB R)
theorem points_rn (R : List P2) (nd : R.Nodup) (hl : R.length ≤ 1000000) : Rn m_points_of 4 [tR R] (tR (pts R)) := by
  refine rn (st' := ⟨[.d (tR R), .d (tabD R (.bl true)), .no, .no], []⟩) ?_
  unfold m_points_of
  refine seq_to (asg_at (call_at (as := [tR R]) rfl (table_rn R nd hl))) ?_
  refine ret_at (fun_at (cons_at (lc_at (i := sq) (b := ptB R) (f := sq) R rfl hl fun x _ => ⟨[.d (tR R), .d (tabD R (.bl true)), .d (.int x.1), .d (.int x.2)], rfl, ?_, fun _ => rfl⟩) rfl) rfl)
  exact and_at (b_at (inb_at (d := tabD R (.bl true)) (a := sq (x.1 - 1, x.2)) rfl rfl (tab_y _ R _))) (and_at (b_at (inb_at (d := tabD R (.bl true)) (a := sq (x.1, x.2 - 1)) rfl rfl (tab_y _ R _))) (b_at (inb_at (d := tabD R (.bl true)) (a := sq (x.1 - 1, x.2 - 1)) rfl rfl (tab_y _ R _))))
abbrev inB (R : List P2) (p : P2) : Bool := decide (p ∈ pts R) && (decide ((p.1 + 1, p.2) ∈ pts R) && (decide ((p.1, p.2 + 1) ∈ pts R) && decide ((p.1 + 1, p.2 + 1) ∈ pts R)))
abbrev ins (R : List P2) : List P2 := R.filter (inB R)
theorem inner_rn (R : List P2) (nd : R.Nodup) (hl : R.length ≤ 1000000) : Rn m_inner_of 4 [tR R] (tR (ins R)) := by
  refine rn (st' := ⟨[.d (tR R), .d (tabD (pts R) (.bl true)), .no, .no], []⟩) ?_
  unfold m_inner_of
  refine seq_to (asg_at (call_at (as := [tR (pts R)]) (cons_at (call_at (as := [tR R]) rfl (points_rn R nd hl)) rfl) (table_rn (pts R) (nd.filter _) (Nat.le_trans (List.length_filter_le ..) hl)))) ?_
  refine ret_at (fun_at (cons_at (lc_at (i := sq) (b := inB R) (f := sq) R rfl hl fun x _ => ⟨[.d (tR R), .d (tabD (pts R) (.bl true)), .d (.int x.1), .d (.int x.2)], rfl, ?_, fun _ => rfl⟩) rfl) rfl)
  exact and_at (b_at (inb_at (d := tabD (pts R) (.bl true)) (a := sq x) rfl rfl (tab_y _ (pts R) _))) (and_at (b_at (inb_at (d := tabD (pts R) (.bl true)) (a := sq (x.1 + 1, x.2)) rfl rfl (tab_y _ (pts R) _)))
    (and_at (b_at (inb_at (d := tabD (pts R) (.bl true)) (a := sq (x.1, x.2 + 1)) rfl rfl (tab_y _ (pts R) _))) (b_at (inb_at (d := tabD (pts R) (.bl true)) (a := sq (x.1 + 1, x.2 + 1)) rfl rfl (tab_y _ (pts R) _)))))
abbrev rims (R : List P2) : List P2 := R.filter fun x => !decide (x ∈ ins R)
theorem rim_rn (R : List P2) (nd : R.Nodup) (hl : R.length ≤ 1000000) : Rn m_rim_of 3 [tR R] (tR (rims R)) := by
  refine rn (st' := ⟨[.d (tR R), .d (tabD (ins R) (.bl true)), .no], []⟩) ?_
  unfold m_rim_of
  refine seq_to (asg_at (call_at (as := [tR (ins R)]) (cons_at (call_at (as := [tR R]) rfl (inner_rn R nd hl)) rfl) (table_rn (ins R) (nd.filter _) (Nat.le_trans (List.length_filter_le ..) hl)))) ?_
  exact ret_at (fun_at (cons_at (lc_at (i := sq) (b := fun x => !decide (x ∈ ins R)) (f := sq) R rfl hl fun x _ => ⟨[.d (tR R), .d (tabD (ins R) (.bl true)), .d (sq x)], rfl, b_at (inb_at (d := tabD (ins R) (.bl true)) rfl rfl (tab_n _ (ins R) _)), fun _ => rfl⟩) rfl) rfl)
abbrev four (p : P2) : List P2 := [(p.1 - 1, p.2 - 1), (p.1 - 1, p.2), (p.1, p.2 - 1), (p.1, p.2)]
theorem four_rn (p : P2) : Rn m_four_about 3 [sq p] (tR (four p)) := rn' rfl
theorem lfour_rn (p : P2) : Rn m__law_four 3 [sq p] (tR (four p)) := rn' rfl
theorem pair_rn1 (p : P2) : Rn m_plain_pair 3 [sl2 p] (sq p) := rn' rfl
theorem pair_rn2 (p : P2) : Rn m_plain_pair 3 [sq p] (sq p) := rn' rfl
theorem need_pair1 (p : P2) : Rn m_need_pair 1 [sl2 p] (sq p) := rn' rfl
theorem need_pair2 (p : P2) : Rn m_need_pair 1 [sq p] (sq p) := rn' rfl
abbrev nonneg (p : P2) : Prop := 0 ≤ p.1 ∧ 0 ≤ p.2
theorem square_rn {d : D} {p : P2} (h : Rn m_plain_pair 3 [d] (sq p)) (n : nonneg p) : Rn m_plain_square 2 [d] (sq p) := by
  refine rn (st' := ⟨[.d d, .d (sq p)], []⟩) ?_
  unfold m_plain_square
  refine seq_to (asg_at (call_at (as := [d]) rfl h)) ?_
  have c1 : ltD (.int p.1) (.int 0) = some (.bl false) := by show some (D.bl (decide (p.1 < 0))) = _; rw [decide_eq_false (by omega)]
  have c2 : ltD (.int p.2) (.int 0) = some (.bl false) := by show some (D.bl (decide (p.2 < 0))) = _; rw [decide_eq_false (by omega)]
  refine seq_to (if_n (or_at (a := false) rfl fun _ => or_at (a := false) (b := false) (b_at (bin_at (a := .int p.1) (b := .int 0) rfl rfl c1)) fun _ => b_at (bin_at (a := .int p.2) (b := .int 0) rfl rfl c2))) ?_
  rfl
/-- a room as it may be handed in -/
structure Asked (d : D) (i : P2 → D) (R : List P2) : Prop where
  sq : seqW d = some (R.map i)
  is : isa2 .list .tuple d = some true
  it : ∀ p : P2, Rn m_plain_pair 3 [i p] (RE.sq p)
theorem asked_t (R : List P2) : Asked (tR R) sq R := ⟨rfl, rfl, pair_rn2⟩
theorem asked_s (R : List P2) : Asked (sR R) sl2 R := ⟨rfl, rfl, pair_rn1⟩
structure Room (R : List P2) : Prop where
  asc : Asc R
  pos : ∀ p ∈ R, nonneg p
  len : R.length ≤ 1000000
  ne : R ≠ []
theorem items_rn {d : D} {i : P2 → D} {R : List P2} (a : Asked d i R) (r : Room R) : Rn m_plain_items 4 [d, .fn 10] (tR R) := by
  refine rn (st' := ⟨[.d d, .d (.fn 10), .d (lR R), .no], []⟩) ?_
  unfold m_plain_items
  have c0 : (mNotT (mTru (mIsa2 .list .tuple (mVarF 0)))) (S.start (List.map Sl.d [d, .fn 10]) 4 []) = .ok false (S.start (List.map Sl.d [d, .fn 10]) 4 []) := by
    refine not_at (b := true) (tru_at (d := .bl true) ?_ rfl)
    show (match isa2 .list .tuple d with
      | some b => O.ok (D.bl b) _
      | none => .no) = _
    rw [a.is]
  refine seq_to (if_n c0) ?_
  have c1 : (miSeq (mVarF 0)) (S.start (List.map Sl.d [d, .fn 10]) 4 []) = .ok (R.map i) (S.start (List.map Sl.d [d, .fn 10]) 4 []) := by
    show optO (seqW d) _ = _
    rw [a.sq]
    rfl
  refine seq_to (asg_at (lc_all (f := sq) R c1 r.len fun x m => ⟨[.d d, .d (.fn 10), .no, .d (i x)], rfl, callV_at (as := [i x]) rfl rfl rfl (square_rn (a.it x) (r.pos x m))⟩)) ?_
  have e : inD false .non (lR R) = some (.bl false) := by
    show (match memD .non (R.map sq) with
      | some k => some (D.bl (Bool.xor false k))
      | none => none) = _
    have q : memD .non (R.map sq) = some false := by
      show (match some PyData.none, mapO (toP 20) (R.map sq) with
        | some p, some ps => some (ps.any fun z => PyData.eqv z p)
        | _, _ => none) = _
      rw [mapO_map R fun x _ => toP_sq x]
      show some ((R.map pq).any fun z => PyData.eqv z .none) = _
      congr 1
      rw [List.any_eq_false]
      intro z hz
      obtain ⟨x, _, rfl⟩ := List.mem_map.mp hz
      simp [pq, PyData.eqv]
    rw [q]
    rfl
  exact ret_at (ife_f (b_at (inb_at (d := lR R) (a := .non) rfl rfl e)) rfl)
theorem asc_next {R : List P2} (h : Asc R) {n : Nat} {p q : P2} (e1 : R[n]? = some p) (e2 : R[n + 1]? = some q) : ltP p q = true := by
  obtain ⟨l1, rfl⟩ := List.getElem?_eq_some_iff.mp e1
  obtain ⟨l2, rfl⟩ := List.getElem?_eq_some_iff.mp e2
  exact List.pairwise_iff_getElem.mp h n (n + 1) l1 l2 (Nat.lt_succ_self n)
theorem set_rn {d : D} {i : P2 → D} {R : List P2} (a : Asked d i R) (r : Room R) : Rn m_plain_set 4 [d, .fn 10] (tR R) := by
  refine rn (st' := ⟨[.d d, .d (.fn 10), .d (tR R), .no], []⟩) ?_
  unfold m_plain_set
  refine seq_to (asg_at (call_at (as := [d, .fn 10]) rfl (items_rn a r))) ?_
  have c1 : (miFun rangeF (mCons (mBin subD (mFun lenD (mCons (mVarF 2) mNil)) (mC (.int 1))) mNil)) ⟨[.d d, .d (.fn 10), .d (tR R), .no], []⟩ = .ok ((List.range (R.length - 1)).map fun (k : Nat) => D.int (0 + (k : Int))) ⟨[.d d, .d (.fn 10), .d (tR R), .no], []⟩ := by
    show optO (rangeF [.int (((R.map sq).length : Nat) - 1)]) _ = _
    have b := r.len
    unfold rangeF
    rw [List.length_map]
    show optO (if -4611686018427387904 ≤ ((R.length : Int) - 1) ∧ ((R.length : Int) - 1) < 4611686018427387904 then _ else _) _ = _
    rw [if_pos (by omega), show ((R.length : Int) - 1).toNat = R.length - 1 by omega]
    rfl
  have c2 : (mLc (miFun rangeF (mCons (mBin subD (mFun lenD (mCons (mVarF 2) mNil)) (mC (.int 1))) mNil)) (tgName 3) mYes (mBin geD (mBin ixD (mVarF 2) (mVarF 3)) (mBin ixD (mVarF 2) (mBin addD (mVarF 3) (mC (.int 1))))) [3]) ⟨[.d d, .d (.fn 10), .d (tR R), .no], []⟩ = .ok (.lst (List.replicate (R.length - 1) (.bl false))) ⟨[.d d, .d (.fn 10), .d (tR R), .no], []⟩ := by
    have q := lc_all (st := ⟨[.d d, .d (.fn 10), .d (tR R), .no], []⟩) (i := fun (k : Nat) => D.int (0 + (k : Int))) (f := fun _ => D.bl false) (me := (mBin geD (mBin ixD (mVarF 2) (mVarF 3)) (mBin ixD (mVarF 2) (mBin addD (mVarF 3) (mC (.int 1)))))) (tg := tgName 3) (vs := [3]) (List.range (R.length - 1)) c1 (by rw [List.length_range]; have := r.len; omega) fun k hk => by
      have lt := List.mem_range.mp hk
      obtain ⟨p, e1⟩ : ∃ p, R[k]? = some p := ⟨_, List.getElem?_eq_getElem (by omega)⟩
      obtain ⟨q, e2⟩ : ∃ q, R[k + 1]? = some q := ⟨_, List.getElem?_eq_getElem (by omega)⟩
      refine ⟨[.d d, .d (.fn 10), .d (tR R), .d (.int (0 + k))], rfl, ?_⟩
      refine bin_at (a := sq p) (b := sq q) (bin_at (a := tR R) (b := .int (0 + k)) rfl rfl (ix_at (i := sq) (R := R) rfl (n := k) (by omega) e1)) (bin_at (a := tR R) (b := .int (0 + k + 1)) rfl rfl (ix_at (i := sq) (R := R) rfl (n := k + 1) (by omega) e2)) ?_
      rw [ge_sq, asc_next r.asc e1 e2]
      rfl
    rw [List.map_const', List.length_range] at q
    exact q
  refine seq_to (if_n (or_at (a := false) (b := false) rfl fun _ => tru_at (d := .bl false) (fun_at (cons_at c2 rfl) any_false) rfl)) ?_
  rfl
theorem room_rn {d : D} {i : P2 → D} {R : List P2} (a : Asked d i R) (r : Room R) : Rn m_plain_room 1 [d] (tR R) := by
  refine rn (st' := ⟨[.d d], []⟩) ?_
  unfold m_plain_room
  refine ret_at ?_
  unfold mOr
  rw [call_at (as := [d, .fn 10]) (ma := (mCons (mVarF 0) (mCons (mC (.fn 10)) mNil))) (st1 := ⟨[.d d], []⟩) rfl (set_rn a r)]
  cases R with
  | nil => exact absurd rfl r.ne
  | cons x R => rfl
theorem need_rn {d : D} {i : P2 → D} {R : List P2} (a : Asked d i R) (r : Room R) : Rn m_need_room 1 [d] (tR R) := by
  refine rn (st' := ⟨[.d d], []⟩) ?_
  unfold m_need_room
  exact ret_at (call_at (as := [tR R]) (cons_at (call_at (as := [d]) rfl (room_rn a r)) rfl) (rn' rfl))
theorem check_rn {R : List P2} {p : P2} (h : p ∈ R) : Rn m_check_square 2 [tR R, sq p] .non := by
  refine rn_nx (st' := ⟨[.d (tR R), .d (sq p)], []⟩) ?_
  unfold m_check_square
  refine if_f (b_at (inb_at (d := tR R) (a := sq p) rfl rfl ?_))
  rw [in_n p R rfl, decide_eq_true h]
  rfl
abbrev sides : List P2 := [(-1, 0), (0, -1), (0, 1), (1, 0)]
abbrev arnd : List P2 := [(-1, -1), (-1, 0), (-1, 1), (0, -1), (0, 1), (1, -1), (1, 0), (1, 1)]
abbrev push (p : P2) (ws : List P2) : List P2 := ws.map fun w => (p.1 + w.1, p.2 + w.2)
theorem beside_rn {d e : D} {i : P2 → D} {R : List P2} {p : P2} (a : Asked d i R) (r : Room R) (hp : p ∈ R) (he : Rn m_need_pair 1 [e] (sq p)) : Rn m_beside 2 [d, e] (tR ((push p sides).filter fun x => decide (x ∈ R))) := by
  refine rn (st' := ⟨[.d (tR R), .d (sq p)], []⟩) ?_
  unfold m_beside
  refine seq_to (par_at (cons_at (call_at (as := [d]) rfl (need_rn a r)) (cons_at (call_at (as := [e]) rfl he) rfl)) rfl) ?_
  refine seq_to (drop_at (call_at (as := [tR R, sq p]) rfl (check_rn hp))) ?_
  exact ret_at (call_at (as := [tR R, lR (push p sides)]) (cons_at rfl (cons_at (call_at (as := [sq p, .kt (sides.map kp)]) rfl (pushed_rn p sides (by decide))) rfl)) (within_rn R (push p sides) rfl (show 4 ≤ 1000000 by decide)))
theorem around_rn {d e : D} {i : P2 → D} {R : List P2} {p : P2} (a : Asked d i R) (r : Room R) (hp : p ∈ R) (he : Rn m_need_pair 1 [e] (sq p)) : Rn m_around 2 [d, e] (tR ((push p arnd).filter fun x => decide (x ∈ R))) := by
  refine rn (st' := ⟨[.d (tR R), .d (sq p)], []⟩) ?_
  unfold m_around
  refine seq_to (par_at (cons_at (call_at (as := [d]) rfl (need_rn a r)) (cons_at (call_at (as := [e]) rfl he) rfl)) rfl) ?_
  refine seq_to (drop_at (call_at (as := [tR R, sq p]) rfl (check_rn hp))) ?_
  exact ret_at (call_at (as := [tR R, lR (push p arnd)]) (cons_at rfl (cons_at (call_at (as := [sq p, .kt (arnd.map kp)]) rfl (pushed_rn p arnd (by decide))) rfl)) (within_rn R (push p arnd) rfl (show 8 ≤ 1000000 by decide)))
theorem rims_rn {d : D} {i : P2 → D} {R : List P2} (a : Asked d i R) (r : Room R) : Rn m_rim 1 [d] (tR (rims R)) := by
  refine rn (st' := ⟨[.d d], []⟩) ?_
  unfold m_rim
  exact ret_at (call_at (as := [tR R]) (cons_at (call_at (as := [d]) rfl (need_rn a r)) rfl) (rim_rn R r.asc.nodup r.len))
theorem ins_rn {d : D} {i : P2 → D} {R : List P2} (a : Asked d i R) (r : Room R) : Rn m_inner 1 [d] (tR (ins R)) := by
  refine rn (st' := ⟨[.d d], []⟩) ?_
  unfold m_inner
  exact ret_at (call_at (as := [tR R]) (cons_at (call_at (as := [d]) rfl (need_rn a r)) rfl) (inner_rn R r.asc.nodup r.len))
theorem pts_rn {d : D} {i : P2 → D} {R : List P2} (a : Asked d i R) (r : Room R) : Rn m_points 1 [d] (tR (pts R)) := by
  refine rn (st' := ⟨[.d d], []⟩) ?_
  unfold m_points
  exact ret_at (call_at (as := [tR R]) (cons_at (call_at (as := [d]) rfl (need_rn a r)) rfl) (points_rn R r.asc.nodup r.len))
theorem about_rn {d e : D} {i : P2 → D} {R : List P2} {p : P2} (a : Asked d i R) (r : Room R) (hp : ∀ x ∈ four p, x ∈ R) (he : Rn m_need_pair 1 [e] (sq p)) : Rn m_about 3 [d, e] (tR (four p)) := by
  refine rn (st' := ⟨[.d (tR R), .d (sq p), .d (tR (four p))], []⟩) ?_
  unfold m_about
  refine seq_to (par_at (cons_at (call_at (as := [d]) rfl (need_rn a r)) (cons_at (call_at (as := [e]) rfl he) rfl)) rfl) ?_
  refine seq_to (asg_at (call_at (as := [sq p]) rfl (four_rn p))) ?_
  have w := within_rn R (four p) (d := tR (four p)) rfl (show 4 ≤ 1000000 by decide)
  rw [List.filter_eq_self.mpr fun x m => decide_eq_true (hp x m)] at w
  refine seq_to (if_f (b_at (bin_at (a := .int 4) (b := .int 4) (fun_at (cons_at (call_at (as := [tR R, tR (four p)]) rfl w) rfl) rfl) rfl rfl))) ?_
  rfl
abbrev obs (p : P2) : List P2 := [(p.1 + 1, p.2 + 0), (p.1 + 0, p.2 + 1), (p.1 + (-1), p.2 + 0), (p.1 + 0, p.2 + (-1))]
theorem lbeside_rn (p : P2) : Rn m__law_beside 2 [sq p] (lR (obs p)) := rn' rfl
theorem laround_rn (p : P2) : Rn m__law_around 4 [sq p] (lR (push p arnd)) := rn' rfl
abbrev lrim (R : List P2) : List P2 := R.filter fun s => !((push s arnd).filter fun x => !decide (x ∈ R)).isEmpty
abbrev lpts (R : List P2) : List P2 := R.filter fun s => ((four s).filter fun x => !decide (x ∈ R)).isEmpty
theorem lrim_rn (R : List P2) (hl : R.length ≤ 1000000) : Rn m__law_rim 3 [tR R] (tR (lrim R)) := by
  refine rn (st' := ⟨[.d (tR R), .no, .no], []⟩) ?_
  unfold m__law_rim
  refine ret_at (fun_at (cons_at (lc_at (i := sq) (b := fun s => !((push s arnd).filter fun x => !decide (x ∈ R)).isEmpty) (f := sq) R rfl hl fun s _ => ⟨[.d (tR R), .d (sq s), .no], rfl, ?_, fun _ => rfl⟩) rfl) rfl)
  refine b_at (bin_at (a := lR ((push s arnd).filter fun x => !decide (x ∈ R))) (b := .lst []) ?_ rfl (ne_nil _))
  refine lc_at (i := sq) (b := fun x => !decide (x ∈ R)) (f := sq) (push s arnd) ?_ (show 8 ≤ 1000000 by decide) fun x _ => ⟨[.d (tR R), .d (sq s), .d (sq x)], rfl, b_at (inb_at (d := tR R) rfl rfl (in_n x R rfl)), fun _ => rfl⟩
  show bindO (mCall m__law_around 4 [] (mCons (mVarF 1) mNil) _) _ = _
  rw [call_at (as := [sq s]) (ma := (mCons (mVarF 1) mNil)) (st1 := ⟨[.d (tR R), .d (sq s), .no], []⟩) rfl (laround_rn s)]
  rfl
theorem lpts_rn (R : List P2) (hl : R.length ≤ 1000000) : Rn m__law_points 3 [tR R] (tR (lpts R)) := by
  refine rn (st' := ⟨[.d (tR R), .no, .no], []⟩) ?_
  unfold m__law_points
  refine ret_at (fun_at (cons_at (lc_at (i := sq) (b := fun s => ((four s).filter fun x => !decide (x ∈ R)).isEmpty) (f := sq) R rfl hl fun s _ => ⟨[.d (tR R), .d (sq s), .no], rfl, ?_, fun _ => rfl⟩) rfl) rfl)
  refine b_at (bin_at (a := lR ((four s).filter fun x => !decide (x ∈ R))) (b := .lst []) ?_ rfl (eq_nil _))
  refine lc_at (i := sq) (b := fun x => !decide (x ∈ R)) (f := sq) (four s) ?_ (show 4 ≤ 1000000 by decide) fun x _ => ⟨[.d (tR R), .d (sq s), .d (sq x)], rfl, b_at (inb_at (d := tR R) rfl rfl (in_n x R rfl)), fun _ => rfl⟩
  show bindO (mCall m__law_four 3 [] (mCons (mVarF 1) mNil) _) _ = _
  rw [call_at (as := [sq s]) (ma := (mCons (mVarF 1) mNil)) (st1 := ⟨[.d (tR R), .d (sq s), .no], []⟩) rfl (lfour_rn s)]
  rfl
theorem none_out {L R : List P2} : (L.filter fun x => !decide (x ∈ R)).isEmpty = decide (∀ x ∈ L, x ∈ R) := by
  rw [Bool.eq_iff_iff, List.isEmpty_iff, List.filter_eq_nil_iff, decide_eq_true_iff]
  constructor
  · intro h x m
    have := h x m
    simpa using this
  · intro h x m
    simpa using h x m
theorem lpts_is (R : List P2) : lpts R = pts R := by
  refine List.filter_congr fun s m => ?_
  rw [none_out, Bool.eq_iff_iff, decide_eq_true_iff]
  unfold ptB
  rw [Bool.and_eq_true, Bool.and_eq_true, decide_eq_true_iff, decide_eq_true_iff, decide_eq_true_iff]
  constructor
  · intro h
    exact ⟨h (s.1 - 1, s.2) (by simp [four]), h (s.1, s.2 - 1) (by simp [four]), h (s.1 - 1, s.2 - 1) (by simp [four])⟩
  · rintro ⟨h1, h2, h3⟩ x hx
    simp only [four, List.mem_cons, List.not_mem_nil, or_false] at hx
    rcases hx with rfl | rfl | rfl | rfl
    · exact h3
    · exact h1
    · exact h2
    · exact m
theorem mem_pts {R : List P2} {x y : Int} : (x, y) ∈ pts R ↔ (x, y) ∈ R ∧ (x - 1, y) ∈ R ∧ (x, y - 1) ∈ R ∧ (x - 1, y - 1) ∈ R := by
  simp only [pts, ptB, List.mem_filter, Bool.and_eq_true, decide_eq_true_iff]
theorem ins_iff {R : List P2} {s : P2} (m : s ∈ R) : inB R s = decide (∀ x ∈ push s arnd, x ∈ R) := by
  obtain ⟨x, y⟩ := s
  rw [Bool.eq_iff_iff, decide_eq_true_iff]
  unfold inB
  simp only [Bool.and_eq_true, decide_eq_true_iff, mem_pts]
  rw [show x + 1 - 1 = x by omega, show y + 1 - 1 = y by omega]
  constructor
  · rintro ⟨⟨_, a1, a2, a3⟩, ⟨b0, _, b2, b3⟩, ⟨c0, c1, _, c3⟩, d0, d1, d2, _⟩ z hz
    simp only [push, arnd, List.map_cons, List.map_nil, List.mem_cons, List.not_mem_nil, or_false] at hz
    rcases hz with rfl | rfl | rfl | rfl | rfl | rfl | rfl | rfl <;> try simp only [Int.add_zero, ← Int.sub_eq_add_neg]
    · exact a3
    · exact a1
    · exact c1
    · exact a2
    · exact c0
    · exact b2
    · exact b0
    · exact d0
  · intro h
    have g : ∀ i j : Int, (i, j) ∈ arnd → (x + i, y + j) ∈ R := fun i j q => h _ (List.mem_map.mpr ⟨(i, j), q, rfl⟩)
    have e1 := g (-1) (-1) (by decide)
    have e2 := g (-1) 0 (by decide)
    have e3 := g (-1) 1 (by decide)
    have e4 := g 0 (-1) (by decide)
    have e5 := g 0 1 (by decide)
    have e6 := g 1 (-1) (by decide)
    have e7 := g 1 0 (by decide)
    have e8 := g 1 1 (by decide)
    simp only [Int.add_zero] at e1 e2 e3 e4 e5 e6 e7 e8
    rw [show x + -1 = x - 1 by omega] at e1 e2 e3
    rw [show y + -1 = y - 1 by omega] at e1 e4 e6
    exact ⟨⟨m, e2, e4, e1⟩, ⟨e7, m, e6, e4⟩, ⟨e5, e3, m, e2⟩, e8, e5, e7, m⟩
theorem lrim_is (R : List P2) : lrim R = rims R := by
  refine List.filter_congr fun s m => ?_
  rw [none_out, ← ins_iff m]
  congr 1
  rw [Bool.eq_iff_iff, decide_eq_true_iff]
  unfold ins
  rw [List.mem_filter]
  exact ⟨fun h => ⟨m, h⟩, fun h => h.2⟩
theorem linner_is (R : List P2) : R.filter (fun x => !decide (x ∈ lrim R)) = ins R := by
  refine List.filter_congr fun s m => ?_
  rw [lrim_is, Bool.eq_iff_iff]
  simp only [rims, ins, List.mem_filter, Bool.not_eq_true', decide_eq_false_iff_not, decide_eq_true_eq]
  by_cases h : inB R s = true
  · simp [m, h]
  · simp [m, h]
/-- a suite that ends there: an if's branch, the rest is not reached -/
theorem seq_at' {a b : MS} {st st1 : S} {o : SO} {d : D} (h : a st = o) (k : o = .rt d st1) : mSeq a b st = o := by
  unfold mSeq
  rw [h, k]
  rfl
theorem if_to {t : MT} {a b : MS} {st st1 : S} {o : SO} (h : t st = .ok true st1) (k : a st1 = o) : mIf t a b st = o := by
  rw [if_c h]
  exact k
theorem mand_t {m n : M} {st st1 : S} {o : O D} (h : m st = .ok (.bl true) st1) (k : n st1 = o) : mAnd m n st = o := by
  unfold mAnd
  rw [h]
  exact k
theorem same_rn : ∀ (n : Nat) (d : D), Gd n d → Rn (m__law_same n) 4 [d, d] (.bl true)
  | 0, d, h => nomatch h
  | n + 1, d, h => by
    cases h with
    | int i =>
      refine rn (st' := ⟨[.d (.int i), .d (.int i), .no, .no], []⟩) ?_
      unfold m__law_same
      have e : eqD (.int i) (.int i) = some (.bl true) := by
        show some (D.bl (PyData.eqv (.int i) (.int i))) = _
        simp [PyData.eqv]
      have q : mAnd (mIsa .int (mVarF 0)) (mAnd (mNot (mIsa .bool (mVarF 0))) (mBin eqD (mVarF 0) (mVarF 1))) ⟨[.d (.int i), .d (.int i), .no, .no], []⟩ = .ok (.bl true) ⟨[.d (.int i), .d (.int i), .no, .no], []⟩ := by
        show mBin eqD (mVarF 0) (mVarF 1) ⟨[.d (.int i), .d (.int i), .no, .no], []⟩ = _
        exact bin_at (a := .int i) (b := .int i) rfl rfl e
      exact seq_to (st1 := ⟨[.d (.int i), .d (.int i), .no, .no], []⟩) rfl (seq_to (st1 := ⟨[.d (.int i), .d (.int i), .no, .no], []⟩) rfl (ret_at q))
    | tup hd hl =>
      rename_i ds
      refine rn (st' := ⟨[.d (.tup ds), .d (.tup ds), .no, .no], []⟩) ?_
      unfold m__law_same
      have e : eqD (.int (ds.length : Nat)) (.int (ds.length : Nat)) = some (.bl true) := by
        show some (D.bl (PyData.eqv (.int (ds.length : Nat)) (.int (ds.length : Nat)))) = _
        simp [PyData.eqv]
      have q := lc_all (i := fun d : D => D.tup [d, d]) (f := fun _ => D.bl true) (mi := (miFun zipF (mCons (mVarF 0) (mCons (mVarF 1) mNil)))) (tg := tgTup [2, 3]) (me := (mCall (m__law_same n) 4 [] (mCons (mVarF 2) (mCons (mVarF 3) mNil)))) (vs := [2, 3]) (st := ⟨[.d (.tup ds), .d (.tup ds), .no, .no], []⟩) ds
        (by show optO (some (zipD ds ds)) _ = _; rw [zipD_self]; rfl) hl fun x m => ⟨[.d (.tup ds), .d (.tup ds), .d x, .d x], rfl, call_at (as := [x, x]) rfl (same_rn n x (hd x m))⟩
      rw [map_true] at q
      have z : mAnd (mBin eqD (mFun lenD (mCons (mVarF 0) mNil)) (mFun lenD (mCons (mVarF 1) mNil))) (mFun allD (mCons (mLc (miFun zipF (mCons (mVarF 0) (mCons (mVarF 1) mNil))) (tgTup [2, 3]) mYes (mCall (m__law_same n) 4 [] (mCons (mVarF 2) (mCons (mVarF 3) mNil))) [2, 3]) mNil)) ⟨[.d (.tup ds), .d (.tup ds), .no, .no], []⟩ = .ok (.bl true) ⟨[.d (.tup ds), .d (.tup ds), .no, .no], []⟩ := by
        exact mand_t (bin_at (f := eqD) (a := .int (ds.length : Nat)) (b := .int (ds.length : Nat)) (st1 := ⟨[.d (.tup ds), .d (.tup ds), .no, .no], []⟩) (st2 := ⟨[.d (.tup ds), .d (.tup ds), .no, .no], []⟩) rfl rfl e) (fun_at (cons_at q rfl) all_true)
      exact seq_at' (if_to (st1 := ⟨[.d (.tup ds), .d (.tup ds), .no, .no], []⟩) rfl (seq_to (st1 := ⟨[.d (.tup ds), .d (.tup ds), .no, .no], []⟩) rfl (ret_at z))) rfl
    | lst hd hl =>
      rename_i ds
      refine rn (st' := ⟨[.d (.lst ds), .d (.lst ds), .no, .no], []⟩) ?_
      unfold m__law_same
      have e : eqD (.int (ds.length : Nat)) (.int (ds.length : Nat)) = some (.bl true) := by
        show some (D.bl (PyData.eqv (.int (ds.length : Nat)) (.int (ds.length : Nat)))) = _
        simp [PyData.eqv]
      have q := lc_all (i := fun d : D => D.tup [d, d]) (f := fun _ => D.bl true) (mi := (miFun zipF (mCons (mVarF 0) (mCons (mVarF 1) mNil)))) (tg := tgTup [2, 3]) (me := (mCall (m__law_same n) 4 [] (mCons (mVarF 2) (mCons (mVarF 3) mNil)))) (vs := [2, 3]) (st := ⟨[.d (.lst ds), .d (.lst ds), .no, .no], []⟩) ds
        (by show optO (some (zipD ds ds)) _ = _; rw [zipD_self]; rfl) hl fun x m => ⟨[.d (.lst ds), .d (.lst ds), .d x, .d x], rfl, call_at (as := [x, x]) rfl (same_rn n x (hd x m))⟩
      rw [map_true] at q
      have z : mAnd (mBin eqD (mFun lenD (mCons (mVarF 0) mNil)) (mFun lenD (mCons (mVarF 1) mNil))) (mFun allD (mCons (mLc (miFun zipF (mCons (mVarF 0) (mCons (mVarF 1) mNil))) (tgTup [2, 3]) mYes (mCall (m__law_same n) 4 [] (mCons (mVarF 2) (mCons (mVarF 3) mNil))) [2, 3]) mNil)) ⟨[.d (.lst ds), .d (.lst ds), .no, .no], []⟩ = .ok (.bl true) ⟨[.d (.lst ds), .d (.lst ds), .no, .no], []⟩ := by
        exact mand_t (bin_at (f := eqD) (a := .int (ds.length : Nat)) (b := .int (ds.length : Nat)) (st1 := ⟨[.d (.lst ds), .d (.lst ds), .no, .no], []⟩) (st2 := ⟨[.d (.lst ds), .d (.lst ds), .no, .no], []⟩) rfl rfl e) (fun_at (cons_at q rfl) all_true)
      exact seq_at' (if_to (st1 := ⟨[.d (.lst ds), .d (.lst ds), .no, .no], []⟩) rfl (seq_to (st1 := ⟨[.d (.lst ds), .d (.lst ds), .no, .no], []⟩) rfl (ret_at z))) rfl
theorem lists_sq (n : Nat) (p : P2) : Rn (m__law_lists (n + 2)) 2 [sq p] (sl2 p) := rn' rfl
theorem lists_rn (R : List P2) (hl : R.length ≤ 1000000) : Rn (m__law_lists 8) 2 [tR R] (sR R) := by
  refine rn (st' := ⟨[.d (tR R), .no], []⟩) ?_
  unfold m__law_lists
  exact ret_at (ife_t rfl (lc_all (i := sq) (f := sl2) R rfl hl fun x _ => ⟨[.d (tR R), .d (sq x)], rfl, call_at (as := [sq x]) rfl (lists_sq 5 x)⟩))
theorem erase_map {α β : Type} (f : α → β) : ∀ (l : List α) (n : Nat), (l.map f).eraseIdx n = (l.eraseIdx n).map f
  | [], _ => rfl
  | _ :: _, 0 => rfl
  | x :: l, n + 1 => by show f x :: (l.map f).eraseIdx n = f x :: (l.eraseIdx n).map f; rw [erase_map f l n]
theorem erase_perm {α : Type} : ∀ (l : List α) (n : Nat) (p : α), l[n]? = some p → (p :: l.eraseIdx n).Perm l
  | [], n, p, h => by simp at h
  | x :: l, 0, p, h => by
    cases Option.some.inj (show some x = some p from h)
    exact List.Perm.refl _
  | x :: l, n + 1, p, h => (List.Perm.swap x p _).trans ((erase_perm l n p h).cons x)
theorem popI_at {i k : Nat} {m : M} {st st1 : S} {j : Int} {ds : List D} {y : D} (h1 : st.cellOf i = some k) (h2 : st.isL k = true) (h3 : m st = .ok (.int j) st1) (h4 : st1.ce[k]? = some (.l ds)) (h5 : 0 ≤ j ∧ j < 1000000) (h6 : ds[j.toNat]? = some y) :
    mPopI i m st = .ok y (st1.setC k (.l (ds.eraseIdx j.toNat))) := by
  unfold mPopI
  simp only [h1, h2, h3, bindO, h4, if_pos h5, h6, if_true]
theorem app_at {i k : Nat} {m : M} {st st1 : S} {d : D} {ds : List D} (h1 : st.cellOf i = some k) (h2 : st.isL k = true) (h3 : m st = .ok d st1) (h4 : st1.ce[k]? = some (.l ds)) (h5 : ds.length ≤ lim) :
    mApp i m st = .ok .non (st1.setC k (.l (ds ++ [d]))) := by
  unfold mApp
  simp only [h1, h2, h3, bindO, h4, if_pos h5, if_true]
theorem of_rnR (G : List P2) (ne : G ≠ []) (hl : G.length ≤ 1000000) : RnR m__law_of 2 [lR G] 1 fun d => ∃ p ∈ G, d = sq p := fun a b t t0 t1 => by
  have n0 : 0 < G.length := by cases G with
    | nil => exact absurd rfl ne
    | cons x G => exact Nat.succ_pos _
  obtain ⟨d, a', t', ⟨v, rfl, v0, v1⟩, q1, q2, e⟩ := callR_at (st := ⟨[.rf 0, .d (lR G)], [tinC a b t]⟩) (k := 0) (take_rnR ((G.length : Nat) : Int) (by omega) (by omega)) (ref_at (i := 0) (r := rDat (mFun lenD (mCons (mVarF 1) mNil)) rNil) (as := [.int (G.length : Nat)]) rfl (rdat_at (as := []) (fun_at rfl (by show some (D.int ((G.map sq).length : Nat)) = _; rw [List.length_map])) rfl)) rfl t0 t1
  obtain ⟨p, hp⟩ : ∃ p, G[v.toNat]? = some p := ⟨_, List.getElem?_eq_getElem (by omega)⟩
  exact ⟨sq p, a', t', ⟨[.rf 0, .d (lR G)], [tinC a' b t']⟩, ⟨p, List.mem_iff_getElem?.mpr ⟨_, hp⟩, rfl⟩, q1, q2, ret_at (bin_at (a := lR G) (b := .int v) rfl e (ix_at (i := sq) (R := G) rfl (n := v.toNat) (by omega) hp)), rfl⟩
abbrev stP (g c x : Sl) (a b t : Int) (pool found : List P2) : S := ⟨[.rf 0, g, c, .rf 1, .rf 2, x], [tinC a b t, .l (pool.map sq), .l (found.map sq)]⟩
abbrev pickB : MS := (mDrop (mApp 4 (mPopI 3 (mCallR m__law_take 6 [] (rRef 0 (rDat (mLenB 3) rNil))))))
theorem pick_loop (g c : Sl) (b : Int) : ∀ (ds : List D) (x : Sl) (a t : Int) (pool found : List P2), ds.length ≤ pool.length → pool.length + found.length ≤ 1000 → 0 ≤ t → t + ds.length < 1000000 →
    ∃ x' a' t' pool' found', loopS (tgName 5) pickB ds (stP g c x a b t pool found) = .nx (stP g c x' a' b t' pool' found') ∧ (pool' ++ found').Perm (pool ++ found) ∧ found'.length = found.length + ds.length ∧ 0 ≤ t' ∧ t' ≤ t + ds.length
  | [], x, a, t, pool, found, _, _, t0, _ => ⟨x, a, t, pool, found, rfl, List.Perm.refl _, rfl, t0, by simp⟩
  | d :: ds, x, a, t, pool, found, hd, hl, t0, t1 => by
    rw [List.length_cons] at hd t1
    obtain ⟨d1, a1, tt, ⟨v, rfl, v0, v1⟩, q1, q2, e⟩ := callR_at (st := stP g c (.d d) a b t pool found) (k := 0) (take_rnR ((pool.length : Nat) : Int) (by omega) (by omega)) (ref_at (i := 0) (r := rDat (mLenB 3) rNil) (as := [.int (pool.length : Nat)]) rfl (rdat_at (as := []) (by show O.ok (D.int ((pool.map sq).length : Nat)) _ = _; rw [List.length_map]) rfl)) rfl t0 (by omega)
    have e : mCallR m__law_take 6 [] (rRef 0 (rDat (mLenB 3) rNil)) (stP g c (.d d) a b t pool found) = .ok (.int v) (stP g c (.d d) a1 b tt pool found) := e
    obtain ⟨p, hp⟩ : ∃ p, pool[v.toNat]? = some p := ⟨_, List.getElem?_eq_getElem (by omega)⟩
    have e2 : mPopI 3 (mCallR m__law_take 6 [] (rRef 0 (rDat (mLenB 3) rNil))) (stP g c (.d d) a b t pool found) = .ok (sq p) (stP g c (.d d) a1 b tt (pool.eraseIdx v.toNat) found) := by
      rw [popI_at (k := 1) (ds := pool.map sq) rfl rfl e rfl (by omega) (by rw [List.getElem?_map, hp]; rfl), erase_map]
      rfl
    have e3 : pickB (stP g c (.d d) a b t pool found) = .nx (stP g c (.d d) a1 b tt (pool.eraseIdx v.toNat) (found ++ [p])) := by
      refine drop_at (d := .non) ?_
      rw [app_at (k := 2) (ds := found.map sq) rfl rfl e2 rfl (by rw [List.length_map]; show found.length ≤ 100000; omega)]
      show O.ok D.non (S.mk _ [_, _, .l (found.map sq ++ [sq p])]) = _
      rw [show found.map sq ++ [sq p] = (found ++ [p]).map sq by rw [List.map_append]; rfl]
    have pe := erase_perm pool v.toNat p hp
    have ple := pe.length_eq
    rw [List.length_cons] at ple
    obtain ⟨x', a', t', pool', found', r1, r2, r3, r4, r5⟩ := pick_loop g c b ds (.d d) a1 tt (pool.eraseIdx v.toNat) (found ++ [p]) (by omega) (by rw [List.length_append, List.length_singleton]; omega) q1 (by omega)
    refine ⟨x', a', t', pool', found', ?_, r2.trans ?_, by simp only [r3, List.length_append, List.length_cons, List.length_nil]; omega, r4, by rw [List.length_cons]; omega⟩
    · show (match pickB (stP g c (.d d) a b t pool found) with
        | .nx st2 => loopS (tgName 5) pickB ds st2
        | .ct st2 => loopS (tgName 5) pickB ds st2
        | .bk st2 => .nx st2
        | o => o) = _
      rw [e3]
      exact r1
    · refine List.Perm.trans ?_ (pe.append_right found)
      rw [List.cons_append, ← List.append_assoc]
      exact (List.perm_append_singleton p _)
theorem pick_rnR (G : List P2) (c : Nat) (hl : G.length ≤ 1000) (hc : c ≤ 1000) : RnR m__law_pick 6 [lR G, .int c] c fun d => ∃ L rest : List P2, d = lR L ∧ (rest ++ L).Perm G ∧ L.length = min c G.length := fun a b t t0 t1 => by
  have hm : (min c G.length) ≤ G.length := Nat.min_le_right ..
  have hm2 : (min c G.length) ≤ c := Nat.min_le_left ..
  obtain ⟨x', a', t', pool', found', r1, r2, r3, r4, r5⟩ := pick_loop (.d (lR G)) (.d (.int c)) b ((List.range (min c G.length)).map fun (i : Nat) => D.int (0 + (i : Int))) .no a t G [] (by rw [List.length_map, List.length_range]; exact hm) (by show G.length + 0 ≤ 1000; omega) t0 (by rw [List.length_map, List.length_range]; omega)
  rw [List.length_map, List.length_range] at r3 r5
  rw [List.append_nil] at r2
  refine ⟨lR found', a', t', (stP (.d (lR G)) (.d (.int c)) x' a' b t' pool' found').frz 2 (lR found'), ⟨found', pool', rfl, r2, by rw [r3]; exact Nat.zero_add _⟩, r4, by omega, ?_, rfl⟩
  unfold m__law_pick
  refine seq_to (st1 := stP (.d (lR G)) (.d (.int c)) .no a b t G []) rfl ?_
  refine seq_to (st1 := stP (.d (lR G)) (.d (.int c)) x' a' b t' pool' found') ?_ rfl
  unfold mFor
  have e : (miFun rangeF (mCons (mFun minD2 (mCons (mFun intD (mCons (mVarF 2) mNil)) (mCons (mLenB 3) mNil))) mNil)) (stP (.d (lR G)) (.d (.int c)) .no a b t G []) = .ok ((List.range (min c G.length)).map fun (i : Nat) => D.int (0 + (i : Int))) (stP (.d (lR G)) (.d (.int c)) .no a b t G []) := by
    show optO (rangeF [.int (if ((G.map sq).length : Int) < (c : Int) then ((G.map sq).length : Int) else (c : Int))]) _ = _
    rw [List.length_map]
    have z : (if (G.length : Int) < (c : Int) then (G.length : Int) else (c : Int)) = ((min c G.length : Nat) : Int) := by
      by_cases h : (G.length : Int) < (c : Int)
      · rw [if_pos h, Nat.min_eq_right (by omega)]
      · rw [if_neg h, Nat.min_eq_left (by omega)]
    rw [z]
    unfold rangeF
    show optO (if -4611686018427387904 ≤ (((min c G.length : Nat) : Int)) ∧ (((min c G.length : Nat) : Int)) < 4611686018427387904 then _ else _) _ = _
    rw [if_pos (by omega), Int.toNat_natCast]
    rfl
  rw [e]
  exact r1
theorem ltP_push (p v w : P2) : ltP (p.1 + v.1, p.2 + v.2) (p.1 + w.1, p.2 + w.2) = ltP v w := by
  rw [Bool.eq_iff_iff, ltP_iff, ltP_iff]
  simp only
  omega
theorem push_asc {ws : List P2} (h : Asc ws) (p : P2) : Asc (push p ws) := by
  unfold Asc push
  rw [List.pairwise_map]
  exact h.imp fun k => by rw [ltP_push]; exact k
theorem asc_sides : Asc sides := by
  unfold Asc sides
  decide
theorem asc_arnd : Asc arnd := by
  unfold Asc arnd
  decide
theorem obs_perm (p : P2) : (obs p).Perm (push p sides) := by
  have h : ([(1, 0), (0, 1), (-1, 0), (0, -1)] : List P2).Perm sides := by decide
  exact h.map fun w => (p.1 + w.1, p.2 + w.2)
theorem sort_beside (p : P2) (R : List P2) : sortD [lR ((obs p).filter fun x => decide (x ∈ R))] = some (lR ((push p sides).filter fun x => decide (x ∈ R))) :=
  sorted_sq _ _ ((push_asc asc_sides p).filter _) ((obs_perm p).filter _)
theorem sort_around (p : P2) (R : List P2) : sortD [lR ((push p arnd).filter fun x => decide (x ∈ R))] = some (lR ((push p arnd).filter fun x => decide (x ∈ R))) :=
  sorted_sq _ _ ((push_asc asc_arnd p).filter _) (List.Perm.refl _)
theorem loop_inv {tg : Tg} {body : MS} (I : S → Prop) : ∀ (ds : List D) (st : S), I st → (∀ d ∈ ds, ∀ st, I st → ∃ st1 st2, tg d st = some st1 ∧ body st1 = .nx st2 ∧ I st2) → ∃ st', loopS tg body ds st = .nx st' ∧ I st'
  | [], st, i, _ => ⟨st, rfl, i⟩
  | d :: ds, st, i, h => by
    obtain ⟨st1, st2, e1, e2, i2⟩ := h d (List.mem_cons_self ..) st i
    obtain ⟨st', e, i'⟩ := loop_inv I ds st2 i2 fun d m => h d (List.mem_cons_of_mem _ m)
    refine ⟨st', ?_, i'⟩
    unfold loopS
    simp only [e1, e2]
    exact e
abbrev gotD (R : List P2) : D := .lst [tR (rims R), tR (ins R), tR (pts R), .lst ((pts R).map fun p => tR (four p))]
theorem gd_got {R : List P2} (h : R.length ≤ 1000000) : Gd 8 (gotD R) := by
  have f : ∀ (b : P2 → Bool), (R.filter b).length ≤ 1000000 := fun b => Nat.le_trans (List.length_filter_le ..) h
  refine .lst (fun d m => ?_) (show 4 ≤ 1000000 by decide)
  simp only [List.mem_cons, List.not_mem_nil, or_false] at m
  rcases m with rfl | rfl | rfl | rfl
  · exact Gd.sqs (f _)
  · exact Gd.sqs (f _)
  · exact Gd.sqs (f _)
  · refine .lst (fun d m => ?_) (by rw [List.length_map]; exact f _)
    obtain ⟨p, _, rfl⟩ := List.mem_map.mp m
    exact Gd.sqs (show 4 ≤ 1000000 by decide)
theorem same_at {d : D} (g : Gd 8 d) {ma : MA} {st st1 : S} (h : ma st = .ok [d, d] st1) : mCall (m__law_same 8) 4 [] ma st = .ok (.bl true) st1 := call_at h (same_rn 8 d g)
abbrev stG (R : List P2) (s4 s5 s6 s7 : Sl) (a b t : Int) : S := ⟨[.rf 0, .d (tR R), .d (sR R), .d (tR (pts R)), s4, s5, s6, s7, .no], [tinC a b t]⟩
abbrev duD (R : List P2) (p : P2) : D := .lst [tR ((push p sides).filter fun x => decide (x ∈ R)), tR ((push p arnd).filter fun x => decide (x ∈ R))]
theorem gd_du (R : List P2) (p : P2) : Gd 8 (duD R p) := by
  refine .lst (fun d m => ?_) (show 2 ≤ 1000000 by decide)
  simp only [List.mem_cons, List.not_mem_nil, or_false] at m
  rcases m with rfl | rfl
  · exact Gd.sqs (Nat.le_trans (List.length_filter_le ..) (show 4 ≤ 1000000 by decide))
  · exact Gd.sqs (Nat.le_trans (List.length_filter_le ..) (show 8 ≤ 1000000 by decide))
theorem lc_own {R : List P2} {s4 s5 s7 : Sl} {a b t : Int} {p : P2} {ms : MS} {n : Nat} {L : List P2} (h : Rn ms n [sq p] (lR L)) (hl : L.length ≤ 1000000) :
    mLc (miSeq (mCall ms n [] (mCons (mVarF 6) mNil))) (tgName 8) (mB (mInB false (mVarF 8) 1)) (mVarF 8) [8] (stG R s4 s5 (.d (sq p)) s7 a b t) = .ok (lR (L.filter fun x => decide (x ∈ R))) (stG R s4 s5 (.d (sq p)) s7 a b t) := by
  refine lc_at (i := sq) (b := fun x => decide (x ∈ R)) (f := sq) L ?_ hl fun x _ => ⟨[.rf 0, .d (tR R), .d (sR R), .d (tR (pts R)), s4, s5, .d (sq p), s7, .d (sq x)], rfl, b_at (inb_at (d := tR R) rfl rfl (in_y x R rfl)), fun _ => rfl⟩
  show bindO (mCall ms n [] (mCons (mVarF 6) mNil) _) _ = _
  rw [call_at (as := [sq p]) (ma := (mCons (mVarF 6) mNil)) (st1 := stG R s4 s5 (.d (sq p)) s7 a b t) rfl h]
  rfl
theorem ground_rnR (R : List P2) (r : Room R) (h1000 : R.length ≤ 1000) : RnR m__law_ground_right 9 [tR R] 4 fun d => d = .bl true := fun a b t t0 t1 => by
  obtain ⟨d, a', t', ⟨L, rest, rfl, pe, _⟩, q1, q2, e⟩ := callR_at (ms := m__law_pick) (n := 6) (st := stG R (.d (tR (lrim R))) (.d (gotD R)) .no .no a b t) (k := 0) (pick_rnR R 4 h1000 (by decide)) (ref_at (i := 0) (r := rDat (mFun listD (mCons (mVarF 1) mNil)) (rDat (mC (.int 4)) rNil)) (as := [lR R, .int 4]) rfl rfl) rfl t0 t1
  have hL : ∀ p ∈ L, p ∈ R := fun p m => pe.mem_iff.mp (List.mem_append_right _ m)
  have fl : (mFor (miSeq (mCallR m__law_pick 6 [] (rRef 0 (rDat (mFun listD (mCons (mVarF 1) mNil)) (rDat (mC (.int 4)) rNil))))) (tgName 6) (mSeq (mAsg 7 (mLst (mCons (mFun tupleD (mCons (mFun sortD (mCons (mLc (miSeq (mCall m__law_beside 2 [] (mCons (mVarF 6) mNil))) (tgName 8) (mB (mInB false (mVarF 8) 1)) (mVarF 8) [8]) mNil)) mNil)) (mCons (mFun tupleD (mCons (mFun sortD (mCons (mLc (miSeq (mCall m__law_around 4 [] (mCons (mVarF 6) mNil))) (tgName 8) (mB (mInB false (mVarF 8) 1)) (mVarF 8) [8]) mNil)) mNil)) mNil))))
    (mIf (mNotT (mTru (mCall (m__law_same 8) 4 [] (mCons (mLst (mCons (mCall m_beside 2 [] (mCons (mVarF 2) (mCons (mVarF 6) mNil))) (mCons (mCall m_around 2 [] (mCons (mVarF 1) (mCons (mFun listD (mCons (mVarF 6) mNil)) mNil))) mNil))) (mCons (mVarF 7) mNil)))))
    (mRet (mC (.bl false)))
    mSkip))) (stG R (.d (tR (lrim R))) (.d (gotD R)) .no .no a b t) = loopS (tgName 6) (mSeq (mAsg 7 (mLst (mCons (mFun tupleD (mCons (mFun sortD (mCons (mLc (miSeq (mCall m__law_beside 2 [] (mCons (mVarF 6) mNil))) (tgName 8) (mB (mInB false (mVarF 8) 1)) (mVarF 8) [8]) mNil)) mNil)) (mCons (mFun tupleD (mCons (mFun sortD (mCons (mLc (miSeq (mCall m__law_around 4 [] (mCons (mVarF 6) mNil))) (tgName 8) (mB (mInB false (mVarF 8) 1)) (mVarF 8) [8]) mNil)) mNil)) mNil))))
    (mIf (mNotT (mTru (mCall (m__law_same 8) 4 [] (mCons (mLst (mCons (mCall m_beside 2 [] (mCons (mVarF 2) (mCons (mVarF 6) mNil))) (mCons (mCall m_around 2 [] (mCons (mVarF 1) (mCons (mFun listD (mCons (mVarF 6) mNil)) mNil))) mNil))) (mCons (mVarF 7) mNil)))))
    (mRet (mC (.bl false)))
    mSkip)) (L.map sq) (stG R (.d (tR (lrim R))) (.d (gotD R)) .no .no a' b t') := by
    unfold mFor miSeq
    rw [e]
    rfl
  obtain ⟨st', l1, x6, x7, rfl⟩ := loop_inv (tg := tgName 6) (body := (mSeq (mAsg 7 (mLst (mCons (mFun tupleD (mCons (mFun sortD (mCons (mLc (miSeq (mCall m__law_beside 2 [] (mCons (mVarF 6) mNil))) (tgName 8) (mB (mInB false (mVarF 8) 1)) (mVarF 8) [8]) mNil)) mNil)) (mCons (mFun tupleD (mCons (mFun sortD (mCons (mLc (miSeq (mCall m__law_around 4 [] (mCons (mVarF 6) mNil))) (tgName 8) (mB (mInB false (mVarF 8) 1)) (mVarF 8) [8]) mNil)) mNil)) mNil))))
    (mIf (mNotT (mTru (mCall (m__law_same 8) 4 [] (mCons (mLst (mCons (mCall m_beside 2 [] (mCons (mVarF 2) (mCons (mVarF 6) mNil))) (mCons (mCall m_around 2 [] (mCons (mVarF 1) (mCons (mFun listD (mCons (mVarF 6) mNil)) mNil))) mNil))) (mCons (mVarF 7) mNil)))))
    (mRet (mC (.bl false)))
    mSkip)) ) (fun st => ∃ x6 x7, st = stG R (.d (tR (lrim R))) (.d (gotD R)) x6 x7 a' b t') (L.map sq) (stG R (.d (tR (lrim R))) (.d (gotD R)) .no .no a' b t') ⟨_, _, rfl⟩ fun d m st i => by
    obtain ⟨p, hp, rfl⟩ := List.mem_map.mp m
    obtain ⟨x6, x7, rfl⟩ := i
    have pR := hL p hp
    refine ⟨stG R (.d (tR (lrim R))) (.d (gotD R)) (.d (sq p)) x7 a' b t', stG R (.d (tR (lrim R))) (.d (gotD R)) (.d (sq p)) (.d (duD R p)) a' b t', rfl, ?_, _, _, rfl⟩
    refine seq_to (asg_at (d := duD R p) (st1 := stG R (.d (tR (lrim R))) (.d (gotD R)) (.d (sq p)) x7 a' b t') ?_) ?_
    · have q := cons_at (fun_at (f := tupleD) (cons_at (fun_at (f := sortD) (cons_at (lc_own (s4 := .d (tR (lrim R))) (s5 := .d (gotD R)) (s7 := x7) (a := a') (b := b) (t := t') (R := R) (lbeside_rn p) (show 4 ≤ 1000000 by decide)) (e := (rfl : mNil _ = _))) (sort_beside p R)) (e := (rfl : mNil _ = _))) rfl)
        (cons_at (fun_at (f := tupleD) (cons_at (fun_at (f := sortD) (cons_at (lc_own (s4 := .d (tR (lrim R))) (s5 := .d (gotD R)) (s7 := x7) (a := a') (b := b) (t := t') (R := R) (laround_rn p) (show 8 ≤ 1000000 by decide)) (e := (rfl : mNil _ = _))) (sort_around p R)) (e := (rfl : mNil _ = _))) rfl) (e := (rfl : mNil _ = _)))
      exact mlst_at q (show 2 ≤ 1000 by decide)
    · refine if_n (not_at (b := true) (tru_at (d := .bl true) (same_at (gd_du R p) (cons_at (st1 := stG R (.d (tR (lrim R))) (.d (gotD R)) (.d (sq p)) (.d (duD R p)) a' b t') ?_ rfl)) rfl))
      have q := cons_at (call_at (as := [sR R, sq p]) (ma := (mCons (mVarF 2) (mCons (mVarF 6) mNil))) (st := stG R (.d (tR (lrim R))) (.d (gotD R)) (.d (sq p)) (.d (duD R p)) a' b t') rfl (beside_rn (asked_s R) r pR (need_pair2 p)))
        (cons_at (call_at (as := [tR R, sl2 p]) (ma := (mCons (mVarF 1) (mCons (mFun listD (mCons (mVarF 6) mNil)) mNil))) (st := stG R (.d (tR (lrim R))) (.d (gotD R)) (.d (sq p)) (.d (duD R p)) a' b t') rfl (around_rn (asked_t R) r pR (need_pair1 p))) (e := (rfl : mNil _ = _)))
      exact mlst_at q (show 2 ≤ 1000 by decide)
  refine ⟨.bl true, a', t', stG R (.d (tR (lrim R))) (.d (gotD R)) x6 x7 a' b t', rfl, q1, q2, ?_, rfl⟩
  unfold m__law_ground_right
  refine seq_to (st1 := stG R .no .no .no .no a b t) (to_at (d := .tup [sR R, tR (pts R)]) (st1 := ⟨[.rf 0, .d (tR R), .no, .no, .no, .no, .no, .no, .no], [tinC a b t]⟩) ?_ rfl) ?_
  · have q := cons_at (call_at (as := [tR R]) (ma := (mCons (mVarF 1) mNil)) (st := ⟨[.rf 0, .d (tR R), .no, .no, .no, .no, .no, .no, .no], [tinC a b t]⟩) rfl (lists_rn R r.len)) (cons_at (call_at (as := [tR R]) (ma := (mCons (mVarF 1) mNil)) (st := ⟨[.rf 0, .d (tR R), .no, .no, .no, .no, .no, .no, .no], [tinC a b t]⟩) rfl (lpts_rn R r.len)) (e := (rfl : mNil _ = _)))
    rw [lpts_is] at q
    exact mtup_at q (show 2 ≤ 1000 by decide)
  refine seq_to (st1 := stG R (.d (tR (lrim R))) .no .no .no a b t) (asg_at (call_at (as := [tR R]) (st1 := stG R .no .no .no .no a b t) rfl (lrim_rn R r.len))) ?_
  refine seq_to (st1 := stG R (.d (tR (lrim R))) (.d (gotD R)) .no .no a b t) (asg_at (st1 := stG R (.d (tR (lrim R))) .no .no .no a b t) ?_) ?_
  · have f : ∀ (c : P2 → Bool), (R.filter c).length ≤ 1000000 := fun c => Nat.le_trans (List.length_filter_le ..) r.len
    have hab := lc_all (i := sq) (f := fun p => tR (four p)) (mi := miSeq (mVarF 3)) (tg := tgName 6) (me := (mCall m_about 3 [] (mCons (mVarF 2) (mCons (mFun listD (mCons (mVarF 6) mNil)) mNil)))) (vs := [6]) (st := stG R (.d (tR (lrim R))) .no .no .no a b t) (pts R) rfl (f _) fun p m => by
      refine ⟨[.rf 0, .d (tR R), .d (sR R), .d (tR (pts R)), .d (tR (lrim R)), .no, .d (sq p), .no, .no], rfl, call_at (as := [sR R, sl2 p]) rfl (about_rn (asked_s R) r ?_ (need_pair1 p))⟩
      have k := mem_pts.mp (show (p.1, p.2) ∈ pts R from m)
      intro x hx
      simp only [four, List.mem_cons, List.not_mem_nil, or_false] at hx
      rcases hx with rfl | rfl | rfl | rfl
      · exact k.2.2.2
      · exact k.2.1
      · exact k.2.2.1
      · exact k.1
    have q := cons_at (call_at (as := [sR R]) (ma := (mCons (mVarF 2) mNil)) (st := stG R (.d (tR (lrim R))) .no .no .no a b t) rfl (rims_rn (asked_s R) r))
      (cons_at (call_at (as := [tR R]) (ma := (mCons (mVarF 1) mNil)) (st := stG R (.d (tR (lrim R))) .no .no .no a b t) rfl (ins_rn (asked_t R) r))
      (cons_at (call_at (as := [sR R]) (ma := (mCons (mVarF 2) mNil)) (st := stG R (.d (tR (lrim R))) .no .no .no a b t) rfl (pts_rn (asked_s R) r)) (cons_at hab (e := (rfl : mNil _ = _)))))
    exact mlst_at q (show 4 ≤ 1000 by decide)
  refine seq_to (st1 := stG R (.d (tR (lrim R))) (.d (gotD R)) .no .no a b t) (if_n (not_at (b := true) (tru_at (d := .bl true) (same_at (gd_got r.len) (cons_at (st1 := stG R (.d (tR (lrim R))) (.d (gotD R)) .no .no a b t) rfl (cons_at (st1 := stG R (.d (tR (lrim R))) (.d (gotD R)) .no .no a b t) ?_ rfl))) rfl))) ?_
  · have f : ∀ (c : P2 → Bool), (R.filter c).length ≤ 1000000 := fun c => Nat.le_trans (List.length_filter_le ..) r.len
    have h2 := lc_at (i := sq) (f := sq) (b := fun x => !decide (x ∈ lrim R)) (mi := miSeq (mVarF 1)) (tg := tgName 6) (tt := (mB (mInB true (mVarF 6) 4))) (me := mVarF 6) (vs := [6]) (st := stG R (.d (tR (lrim R))) (.d (gotD R)) .no .no a b t) R rfl r.len fun x _ =>
      ⟨[.rf 0, .d (tR R), .d (sR R), .d (tR (pts R)), .d (tR (lrim R)), .d (gotD R), .d (sq x), .no, .no], rfl, b_at (inb_at (d := tR (lrim R)) rfl rfl (in_n x (lrim R) rfl)), fun _ => rfl⟩
    have h3 := lc_all (i := sq) (f := fun p => tR (four p)) (mi := miSeq (mVarF 3)) (tg := tgName 6) (me := (mCall m__law_four 3 [] (mCons (mVarF 6) mNil))) (vs := [6]) (st := stG R (.d (tR (lrim R))) (.d (gotD R)) .no .no a b t) (pts R) rfl (f _) fun p m =>
      ⟨[.rf 0, .d (tR R), .d (sR R), .d (tR (pts R)), .d (tR (lrim R)), .d (gotD R), .d (sq p), .no, .no], rfl, call_at (as := [sq p]) rfl (lfour_rn p)⟩
    rw [linner_is] at h2
    have q := cons_at (m := mVarF 4) (st := stG R (.d (tR (lrim R))) (.d (gotD R)) .no .no a b t) rfl (cons_at (fun_at (f := tupleD) (cons_at h2 (e := (rfl : mNil _ = _))) rfl) (cons_at (m := mVarF 3) rfl (cons_at h3 (e := (rfl : mNil _ = _)))))
    have q := mlst_at q (show 4 ≤ 1000 by decide)
    rw [lrim_is] at q ⊢
    exact q
  exact seq_to (fl.trans l1) rfl
theorem asc_ex {U : List P2} (nd : U.Nodup) : ∃ T, Asc T ∧ T.Perm U := by
  refine ⟨U.mergeSort fun p q => !ltP q p, ?_, List.mergeSort_perm _ _⟩
  have s := List.pairwise_mergeSort (le := fun p q : P2 => !ltP q p) (fun p q r h1 h2 => by
    simp only [Bool.not_eq_true', Bool.eq_false_iff, ne_eq, ltP_iff] at *
    omega) (fun p q => by
    simp only [Bool.or_eq_true, Bool.not_eq_true', Bool.eq_false_iff, ne_eq, ltP_iff]
    omega) U
  have n : (U.mergeSort fun p q => !ltP q p).Nodup := (List.mergeSort_perm U _).nodup_iff.mpr nd
  refine List.Pairwise.imp₂ (fun p q h1 h2 => ?_) s n
  rcases ltP_tot h2 with k | k
  · exact k
  · simp only [k] at h1
    cases h1
def td (p : P2) : Td := (.tup [.num p.1, .num p.2], sq p, pq p)
theorem td_sq (p : P2) : tdOf (sq p) = some (td p) := rfl
theorem td_inj {p q : P2} (h : (td p).1 = (td q).1) : p = q := by
  obtain ⟨a, b⟩ := p
  obtain ⟨c, d⟩ := q
  simpa [td] using h
theorem dd_td (N : List P2) : ∃ U : List P2, dd WD (N.map td) = U.map td ∧ U.Nodup ∧ (∀ p ∈ U, p ∈ N) ∧ (∀ p ∈ N, p ∈ U) ∧ U.length ≤ N.length := by
  have h : ∀ (N A : List P2), A.Nodup → ∃ U : List P2, (N.map td).foldl (ddS WD) (A.map td) = U.map td ∧ U.Nodup ∧ (∀ p ∈ U, p ∈ A ∨ p ∈ N) ∧ (∀ p, p ∈ A ∨ p ∈ N → p ∈ U) ∧ U.length ≤ A.length + N.length := by
    intro N
    induction N with
    | nil => exact fun A nd => ⟨A, rfl, nd, fun p m => .inl m, fun p m => m.elim id (fun z => nomatch z), Nat.le_refl _⟩
    | cons x N ih =>
      intro A nd
      rw [List.map_cons, List.foldl_cons]
      by_cases m : x ∈ A
      · have e : ddS WD (A.map td) (td x) = A.map td := by
          unfold ddS
          rw [if_pos]
          rw [List.map_map]
          exact List.mem_map.mpr ⟨x, m, rfl⟩
        rw [e]
        obtain ⟨U, h1, h2, h3, h4, h5⟩ := ih A nd
        refine ⟨U, h1, h2, fun p q => (h3 p q).imp id (List.mem_cons_of_mem _), fun p q => ?_, by rw [List.length_cons]; omega⟩
        rcases q with q | q
        · exact h4 p (.inl q)
        · rcases List.mem_cons.mp q with rfl | q
          · exact h4 p (.inl m)
          · exact h4 p (.inr q)
      · have e : ddS WD (A.map td) (td x) = (A ++ [x]).map td := by
          unfold ddS
          rw [if_neg, List.map_append]
          · rfl
          · rw [List.map_map]
            intro q
            obtain ⟨y, hy, ey⟩ := List.mem_map.mp q
            exact m (td_inj ey ▸ hy)
        rw [e]
        obtain ⟨U, h1, h2, h3, h4, h5⟩ := ih (A ++ [x]) (List.nodup_append.mpr ⟨nd, by simp, fun a ha b hb => by
          obtain rfl := List.mem_singleton.mp hb
          exact fun q => m (q ▸ ha)⟩)
        refine ⟨U, h1, h2, fun p q => ?_, fun p q => ?_, by simp only [List.length_append, List.length_cons, List.length_nil] at h5 ⊢; omega⟩
        · rcases h3 p q with q | q
          · rcases List.mem_append.mp q with q | q
            · exact .inl q
            · exact .inr (List.mem_singleton.mp q ▸ List.mem_cons_self ..)
          · exact .inr (List.mem_cons_of_mem _ q)
        · rcases q with q | q
          · exact h4 p (.inl (List.mem_append_left _ q))
          · rcases List.mem_cons.mp q with rfl | q
            · exact h4 p (.inl (List.mem_append_right _ (List.mem_singleton_self _)))
            · exact h4 p (.inr q)
  obtain ⟨U, h1, h2, h3, h4, h5⟩ := h N [] List.nodup_nil
  exact ⟨U, h1, h2, fun p q => (h3 p q).elim (fun z => nomatch z) id, fun p q => h4 p (.inr q), by simpa using h5⟩
theorem leT_td (p q : P2) : leT (td p) (td q) = !ltP q p := by
  show (!PySem.W.dataLt (pq q) (pq p)) = _
  rw [lt_pq]
theorem all_alike (U : List P2) : ((U.map pq).all fun p => (U.map pq).all fun q => PySem.W.alike p q) = true := by
  rw [List.all_eq_true]
  intro p hp
  rw [List.all_eq_true]
  intro q hq
  obtain ⟨x, _, rfl⟩ := List.mem_map.mp hp
  obtain ⟨y, _, rfl⟩ := List.mem_map.mp hq
  rfl
theorem all_shape (U : List P2) : (U.map pq).all shapeB = true := by
  rw [List.all_eq_true]
  intro p hp
  obtain ⟨x, _, rfl⟩ := List.mem_map.mp hp
  rfl
theorem leT_tot : PySem.W.TotalLe leT := ⟨fun a b c h1 h2 => leP_total.trans (a.2.1, a.2.2) (b.2.1, b.2.2) (c.2.1, c.2.2) h1 h2, fun a b => leP_total.total (a.2.1, a.2.2) (b.2.1, b.2.2)⟩
theorem sort_td {U T : List P2} (h : Asc T) (k : T.Perm U) : sortL leT (U.map td) = T.map td := by
  rw [sortL_is leT_tot]
  have s : (T.map td).Pairwise fun a b => leT a b = true := by
    rw [List.pairwise_map]
    exact h.imp fun q => by rw [leT_td, ltP_asym q]; rfl
  refine List.Perm.eq_of_pairwise (le := fun a b => leT a b = true) (fun a b ha hb h1 h2 => ?_) (List.pairwise_mergeSort (fun a b c => leT_tot.trans a b c) (fun a b => by
    have := leT_tot.total a b
    simpa using this) _) s ((List.mergeSort_perm _ _).trans (k.symm.map _))
  obtain ⟨x, _, rfl⟩ := List.mem_map.mp ((List.mergeSort_perm _ _).mem_iff.mp ha)
  obtain ⟨y, _, rfl⟩ := List.mem_map.mp hb
  rw [leT_td] at h1 h2
  by_cases exy : x = y
  · rw [exy]
  · rcases ltP_tot exy with q | q
    · rw [q] at h2; cases h2
    · rw [q] at h1; cases h1
theorem strict_td : ∀ {T : List P2}, Asc T → strictT (T.map td) = true
  | [], _ => rfl
  | x :: T, h => by
    obtain ⟨h1, h2⟩ := List.pairwise_cons.mp h
    show (((T.map td).all fun y => !leT y (td x)) && strictT (T.map td)) = true
    rw [strict_td h2, Bool.and_true, List.all_eq_true]
    intro y hy
    obtain ⟨z, hz, rfl⟩ := List.mem_map.mp hy
    rw [leT_td, h1 z hz]
    rfl
theorem sortSet_sq (N : List P2) (hl : N.length < 63) : ∃ M : List P2, sortSetND [lR N] = some (lR M) ∧ (∀ p ∈ M, p ∈ N) ∧ (N ≠ [] → M ≠ []) ∧ M.length ≤ N.length := by
  obtain ⟨U, h1, h2, h3, h4, h5⟩ := dd_td N
  obtain ⟨T, k1, k2⟩ := asc_ex h2
  refine ⟨T, ?_, fun p m => h3 p (k2.mem_iff.mp m), fun ne e => ?_, by rw [k2.length_eq]; exact h5⟩
  · unfold sortSetND
    have e : mapO tdOf (N.map sq) = some (N.map td) := mapO_map N fun x _ => td_sq x
    simp only [e, h1, sort_td k1 k2]
    have e2 : (U.map td).map (fun x => x.2.2) = U.map pq := by rw [List.map_map]; rfl
    rw [e2, if_pos ⟨by rw [List.length_map]; omega, all_alike U, .inl (all_shape U), strict_td k1⟩, List.map_map]
    rfl
  · cases N with
    | nil => exact ne rfl
    | cons x N =>
      have m := k2.mem_iff.mpr (h4 x (List.mem_cons_self ..))
      rw [e] at m
      cases m
theorem sortSD_sq {U T : List P2} (h : Asc T) (k : T.Perm U) : sortSD (U.map sq) = some (T.map sq) := by
  have q := sorted_sq U T h k.symm
  unfold sortD at q
  unfold sortSD
  have e : mapO (toP 20) (U.map sq) = some (U.map pq) := mapO_map U fun x _ => toP_sq x
  simp only [e] at q ⊢
  rw [if_pos ⟨all_alike U, .inl (all_shape U)⟩] at q ⊢
  exact congrArg some (D.lst.inj (Option.some.inj q))
abbrev grid (h w : Nat) : List P2 := (List.range w).flatMap fun (x : Nat) => (List.range h).map fun (y : Nat) => (((0 + (x : Int)), (0 + (y : Int))) : P2)
theorem box_11 : Rn m__law_boxed 5 [.int 1, .int 1] (tR (grid 1 1)) := rn' rfl
theorem box_12 : Rn m__law_boxed 5 [.int 1, .int 2] (tR (grid 1 2)) := rn' rfl
theorem box_13 : Rn m__law_boxed 5 [.int 1, .int 3] (tR (grid 1 3)) := rn' rfl
theorem box_43 : Rn m__law_boxed 5 [.int 4, .int 3] (tR (grid 4 3)) := rn' rfl
theorem box_22 : Rn m__law_boxed 5 [.int 2, .int 2] (tR (grid 2 2)) := rn' rfl
theorem box_23 : Rn m__law_boxed 5 [.int 2, .int 3] (tR (grid 2 3)) := rn' rfl
theorem box_24 : Rn m__law_boxed 5 [.int 2, .int 4] (tR (grid 2 4)) := rn' rfl
theorem box_32 : Rn m__law_boxed 5 [.int 3, .int 2] (tR (grid 3 2)) := rn' rfl
theorem box_33 : Rn m__law_boxed 5 [.int 3, .int 3] (tR (grid 3 3)) := rn' rfl
theorem box_34 : Rn m__law_boxed 5 [.int 3, .int 4] (tR (grid 3 4)) := rn' rfl
theorem box_45 : Rn m__law_boxed 5 [.int 4, .int 5] (tR (grid 4 5)) := rn' rfl
/-- a ground of rows that a room may begin with -/
structure Box (w h : Int) (G : List P2) : Prop where
  run : Rn m__law_boxed 5 [.int h, .int w] (tR G)
  nd : G.Nodup
  pos : ∀ p ∈ G, nonneg p
  ne : 0 < G.length
  le : G.length ≤ 12
theorem bx {w h : Int} {G : List P2} (r : Rn m__law_boxed 5 [.int h, .int w] (tR G)) (d : (decide (G.Nodup) && (G.all fun p => decide (0 ≤ p.1) && decide (0 ≤ p.2)) && decide (0 < G.length) && decide (G.length ≤ 12)) = true) : Box w h G := by
  simp only [Bool.and_eq_true, decide_eq_true_iff, List.all_eq_true] at d
  exact ⟨r, d.1.1.1, fun p m => d.1.1.2 p m, d.1.2, d.2⟩
theorem bx1 {v : Int} (h0 : 0 ≤ v) (h1 : v < 3) : ∃ G, Box (1 + v) 1 G := by
  have : v = 0 ∨ v = 1 ∨ v = 2 := by omega
  rcases this with rfl | rfl | rfl
  · exact ⟨_, bx box_11 (by decide +kernel)⟩
  · exact ⟨_, bx box_12 (by decide +kernel)⟩
  · exact ⟨_, bx box_13 (by decide +kernel)⟩
theorem bx2 {v u : Int} (h0 : 0 ≤ v) (h1 : v < 3) (k0 : 0 ≤ u) (k1 : u < 2) : ∃ G, Box (2 + v) (2 + u) G := by
  have : v = 0 ∨ v = 1 ∨ v = 2 := by omega
  have k : u = 0 ∨ u = 1 := by omega
  rcases this with rfl | rfl | rfl <;> rcases k with rfl | rfl
  · exact ⟨_, bx box_22 (by decide +kernel)⟩
  · exact ⟨_, bx box_32 (by decide +kernel)⟩
  · exact ⟨_, bx box_23 (by decide +kernel)⟩
  · exact ⟨_, bx box_33 (by decide +kernel)⟩
  · exact ⟨_, bx box_24 (by decide +kernel)⟩
  · exact ⟨_, bx box_34 (by decide +kernel)⟩
theorem bx3 : ∃ G, Box 3 4 G := ⟨_, bx box_43 (by decide +kernel)⟩
theorem bx5 : Asc (grid 4 5) ∧ (∀ p ∈ grid 4 5, nonneg p) ∧ (grid 4 5).length = 20 := by
  have h : (decide ((grid 4 5).Pairwise fun p q => ltP p q = true) && ((grid 4 5).all fun p => decide (0 ≤ p.1) && decide (0 ≤ p.2)) && decide ((grid 4 5).length = 20)) = true := by
    decide +kernel
  simp only [Bool.and_eq_true, decide_eq_true_iff, List.all_eq_true] at h
  exact ⟨h.1.1, fun p m => h.1.2 p m, h.2⟩
abbrev nearB : MS := (mAsg 9 (mBin addD (mVarF 9) (mLc (miSeq (mCall m__law_beside 2 [] (mCons (mVarF 10) mNil))) (tgName 14) (mAndT (mB (mInB true (mVarF 14) 7)) (mB (mBin geD (mFun minTD (mCons (mVarF 14) mNil)) (mC (.int 0))))) (mVarF 14) [14])))
abbrev lapI : MS := (mIf (mB (mBin ltD (mLenB 7) (mVarF 1))) (mDrop (mApp 7 (mCallR m__law_of 2 [] (rRef 0 (rDat (mFun sortSetND (mCons (mVarF 9) mNil)) rNil))))) mSkip)
abbrev lapB : MS := (mSeq (mAsg 9 (mLst mNil)) (mSeq (mForB 7 1000 (tgName 10) nearB) lapI))
abbrev rm1 : MS := (mTo (tgTL [2, 3, 4]) (mTup (mCons (mCallR m__law_take 6 [] (rRef 0 (rDat (mC (.int 3)) rNil))) (mCons (mCallR m__law_take 6 [] (rRef 0 (rDat (mC (.int 3)) rNil))) (mCons (mCallR m__law_take 6 [] (rRef 0 (rDat (mC (.int 8)) rNil))) mNil)))))
abbrev rm2 : MS := (mPar [5, 6] (mCons (mBin addD (mC (.int 2)) (mCallR m__law_take 6 [] (rRef 0 (rDat (mC (.int 3)) rNil)))) (mCons (mBin addD (mC (.int 2)) (mCallR m__law_take 6 [] (rRef 0 (rDat (mC (.int 2)) rNil)))) mNil)))
abbrev rm3 : MS := (mIf (mB (mBin eqD (mVarF 4) (mC (.int 0)))) (mPar [5, 6] (mCons (mBin addD (mC (.int 1)) (mCallR m__law_take 6 [] (rRef 0 (rDat (mC (.int 3)) rNil)))) (mCons (mC (.int 1)) mNil))) (mIf (mAndT (mB (mBin eqD (mVarF 4) (mC (.int 1)))) (mB (mBin gtD (mVarF 1) (mC (.int 11))))) (mTo (tgTL [5, 6]) (mTup (mCons (mC (.int 3)) (mCons (mC (.int 4)) mNil)))) mSkip))
abbrev rm4 : MS := (mSetF 7 (fSl (mLc (miSeq (mCall m__law_boxed 5 [] (mCons (mVarF 6) (mCons (mVarF 5) mNil)))) (tgTup [12, 13]) mYes (mTup (mCons (mBin addD (mVarF 2) (mVarF 12)) (mCons (mBin addD (mVarF 3) (mVarF 13)) mNil))) [12, 13]) mPN (mPS (mVarF 1))))
abbrev rm5 : MS := (mFor (miFun rangeF (mCons (mCallR m__law_take 6 [] (rRef 0 (rDat (mC (.int 5)) rNil))) mNil)) (tgName 8) lapB)
abbrev rm6 : MS := (mIf (mAndT (mB (mBin eqD (mCallR m__law_take 6 [] (rRef 0 (rDat (mC (.int 3)) rNil))) (mC (.int 0)))) (mB (mBin gtD (mLenB 7) (mC (.int 4))))) (mDrop (mRem 7 (mCallR m__law_of 2 [] (rRef 0 (rDat (mSortB 7 (mFun sortD (mCons (mVarF 7) mNil))) rNil))))) mSkip)
abbrev rm7 : MS := (mIf (mAndT (mB (mBin eqD (mCallR m__law_take 6 [] (rRef 0 (rDat (mC (.int 8)) rNil))) (mC (.int 0)))) (mB (mBin ltD (mLenB 7) (mBin subD (mVarF 1) (mC (.int 1)))))) (mSeq (mAsg 11 (mBin addD (mBin addD (mFun maxD (mCons (mLc (miSeq (mVarF 7)) (tgName 14) mYes (mBin ixD (mVarF 14) (mC (.int 0))) [14]) mNil)) (mC (.int 1))) (mCallR m__law_take 6 [] (rRef 0 (rDat (mC (.int 2)) rNil))))) (mSetF 7 (fAdd (mVarF 7) (mLst (mCons (mTup (mCons (mVarF 11) (mCons (mC (.int 7)) mNil))) (mCons (mTup (mCons (mVarF 11) (mCons (mC (.int 8)) mNil))) mNil)))))) mSkip)
theorem draw (n : Int) (n0 : 0 < n) (n1 : n < 1073741824) {st : S} {a b t : Int} (h0 : st.sl[0]? = some (.rf 0)) (hc : st.ce[0]? = some (tinC a b t)) (t0 : 0 ≤ t) (t1 : t + 1 < 1000000) :
    ∃ v a' t', 0 ≤ v ∧ v < n ∧ 0 ≤ t' ∧ t' ≤ t + 1 ∧ mCallR m__law_take 6 [] (rRef 0 (rDat (mC (.int n)) rNil)) st = .ok (.int v) (st.setC 0 (tinC a' b t')) := by
  obtain ⟨d, a', t', ⟨v, rfl, v0, v1⟩, q1, q2, e⟩ := callR_at (st := st) (k := 0) (take_rnR n n0 n1) (ref_at (i := 0) (r := rDat (mC (.int n)) rNil) (as := [.int n]) h0 rfl) hc t0 t1
  exact ⟨v, a', t', v0, v1, q1, q2, e⟩
theorem eq_int (i j : Int) : eqD (.int i) (.int j) = some (.bl (decide (i = j))) := by
  show some (D.bl (PyData.eqv (.int i) (.int j))) = _
  simp only [PyData.eqv]
  rfl
theorem andT_f {m n : MT} {st st1 : S} (h : m st = .ok false st1) : mAndT m n st = .ok false st1 := by
  unfold mAndT
  rw [h]
  rfl
theorem andT_t {m n : MT} {st st1 : S} {o : O Bool} (h : m st = .ok true st1) (k : n st1 = o) : mAndT m n st = o := by
  unfold mAndT
  rw [h]
  exact k
abbrev stR (x y k : Int) (s5 s6 s7 s8 s9 s10 s11 : Sl) (ce : List Ce) : S := ⟨[.rf 0, .d (.int 12), .d (.int x), .d (.int y), .d (.int k), s5, s6, s7, s8, s9, s10, s11, .no, .no, .no], ce⟩
theorem rm1_at (a b t : Int) (t0 : 0 ≤ t) (t1 : t + 3 < 1000000) : ∃ x y k a' t', 0 ≤ x ∧ 0 ≤ y ∧ 0 ≤ t' ∧ t' ≤ t + 3 ∧ rm1 ⟨[.rf 0, .d (.int 12), .no, .no, .no, .no, .no, .no, .no, .no, .no, .no, .no, .no, .no], [tinC a b t]⟩ = .nx (stR x y k .no .no .no .no .no .no .no [tinC a' b t']) := by
  obtain ⟨x, a1, t1', x0, x1, q1, q2, e1⟩ := draw 3 (by decide) (by decide) (st := ⟨[.rf 0, .d (.int 12), .no, .no, .no, .no, .no, .no, .no, .no, .no, .no, .no, .no, .no], [tinC a b t]⟩) rfl rfl t0 (by omega)
  obtain ⟨y, a2, t2', y0, y1, q3, q4, e2⟩ := draw 3 (by decide) (by decide) (st := ⟨[.rf 0, .d (.int 12), .no, .no, .no, .no, .no, .no, .no, .no, .no, .no, .no, .no, .no], [tinC a1 b t1']⟩) rfl rfl q1 (by omega)
  obtain ⟨k, a3, t3', k0, k1, q5, q6, e3⟩ := draw 8 (by decide) (by decide) (st := ⟨[.rf 0, .d (.int 12), .no, .no, .no, .no, .no, .no, .no, .no, .no, .no, .no, .no, .no], [tinC a2 b t2']⟩) rfl rfl q3 (by omega)
  exact ⟨x, y, k, a3, t3', x0, y0, q5, by omega, to_at (mtup_at (cons_at e1 (cons_at e2 (cons_at e3 rfl))) (show 3 ≤ 1000 by decide)) rfl⟩
theorem rm2_at (x y k a b t : Int) (t0 : 0 ≤ t) (t1 : t + 2 < 1000000) : ∃ v u a' t', 0 ≤ v ∧ v < 3 ∧ 0 ≤ u ∧ u < 2 ∧ 0 ≤ t' ∧ t' ≤ t + 2 ∧ rm2 (stR x y k .no .no .no .no .no .no .no [tinC a b t]) = .nx (stR x y k (.d (.int (2 + v))) (.d (.int (2 + u))) .no .no .no .no .no [tinC a' b t']) := by
  obtain ⟨v, a1, t1', v0, v1, q1, q2, e1⟩ := draw 3 (by decide) (by decide) (st := stR x y k .no .no .no .no .no .no .no [tinC a b t]) rfl rfl t0 (by omega)
  obtain ⟨u, a2, t2', u0, u1, q3, q4, e2⟩ := draw 2 (by decide) (by decide) (st := stR x y k .no .no .no .no .no .no .no [tinC a1 b t1']) rfl rfl q1 (by omega)
  exact ⟨v, u, a2, t2', v0, v1, u0, u1, q3, by omega, par_at (cons_at (bin_at (f := addD) (a := .int 2) (b := .int v) rfl e1 rfl) (cons_at (bin_at (f := addD) (a := .int 2) (b := .int u) rfl e2 rfl) rfl)) rfl⟩
theorem rm3_at (x y k v u a b t : Int) (v0 : 0 ≤ v) (v1 : v < 3) (u0 : 0 ≤ u) (u1 : u < 2) (t0 : 0 ≤ t) (t1 : t + 1 < 1000000) : ∃ w h G a' t', Box w h G ∧ 0 ≤ t' ∧ t' ≤ t + 1 ∧
    rm3 (stR x y k (.d (.int (2 + v))) (.d (.int (2 + u))) .no .no .no .no .no [tinC a b t]) = .nx (stR x y k (.d (.int w)) (.d (.int h)) .no .no .no .no .no [tinC a' b t']) := by
  have c0 : (mB (mBin eqD (mVarF 4) (mC (.int 0)))) (stR x y k (.d (.int (2 + v))) (.d (.int (2 + u))) .no .no .no .no .no [tinC a b t]) = .ok (decide (k = 0)) (stR x y k (.d (.int (2 + v))) (.d (.int (2 + u))) .no .no .no .no .no [tinC a b t]) := b_at (bin_at (a := .int k) (b := .int 0) rfl rfl (eq_int k 0))
  have c1 : (mB (mBin eqD (mVarF 4) (mC (.int 1)))) (stR x y k (.d (.int (2 + v))) (.d (.int (2 + u))) .no .no .no .no .no [tinC a b t]) = .ok (decide (k = 1)) (stR x y k (.d (.int (2 + v))) (.d (.int (2 + u))) .no .no .no .no .no [tinC a b t]) := b_at (bin_at (a := .int k) (b := .int 1) rfl rfl (eq_int k 1))
  by_cases h0 : k = 0
  · rw [decide_eq_true h0] at c0
    obtain ⟨z, a1, t1', z0, z1, q1, q2, e1⟩ := draw 3 (by decide) (by decide) (st := stR x y k (.d (.int (2 + v))) (.d (.int (2 + u))) .no .no .no .no .no [tinC a b t]) rfl rfl t0 (by omega)
    obtain ⟨G, B⟩ := bx1 z0 z1
    exact ⟨_, _, G, a1, t1', B, q1, q2, if_to c0 (par_at (cons_at (bin_at (f := addD) (a := .int 1) (b := .int z) rfl e1 rfl) (cons_at (d := .int 1) rfl rfl)) rfl)⟩
  · rw [decide_eq_false h0] at c0
    by_cases h1 : k = 1
    · rw [decide_eq_true h1] at c1
      obtain ⟨G, B⟩ := bx3
      exact ⟨3, 4, G, a, t, B, t0, by omega, (if_f c0).trans (if_to (andT_t c1 rfl) rfl)⟩
    · rw [decide_eq_false h1] at c1
      obtain ⟨G, B⟩ := bx2 v0 v1 u0 u1
      exact ⟨_, _, G, a, t, B, t0, by omega, (if_f c0).trans ((if_f (andT_f c1)).trans rfl)⟩
structure GoodF (F : List P2) : Prop where
  nd : F.Nodup
  pos : ∀ p ∈ F, nonneg p
  ne : 0 < F.length
  le : F.length ≤ 12
theorem rm4_at (x y k w h a b t : Int) {G : List P2} (B : Box w h G) (x0 : 0 ≤ x) (y0 : 0 ≤ y) : ∃ F, GoodF F ∧ rm4 (stR x y k (.d (.int w)) (.d (.int h)) .no .no .no .no .no [tinC a b t]) = .nx (stR x y k (.d (.int w)) (.d (.int h)) (.rf 1) .no .no .no .no [tinC a b t, .l (F.map sq)]) := by
  refine ⟨push (x, y) G, ⟨?_, ?_, by rw [List.length_map]; exact B.ne, by rw [List.length_map]; exact B.le⟩, ?_⟩
  · refine (List.pairwise_map).mpr (B.nd.imp fun {p q} n e => n ?_)
    have e1 := congrArg Prod.fst e
    have e2 := congrArg Prod.snd e
    simp only at e1 e2
    exact Prod.ext (by omega) (by omega)
  · intro p m
    obtain ⟨q, hq, rfl⟩ := List.mem_map.mp m
    have := B.pos q hq
    exact ⟨by have := this.1; show 0 ≤ x + q.1; omega, by have := this.2; show 0 ≤ y + q.2; omega⟩
  have e := lc_all (i := sq) (f := fun p => sq (x + p.1, y + p.2)) (mi := (miSeq (mCall m__law_boxed 5 [] (mCons (mVarF 6) (mCons (mVarF 5) mNil))))) (tg := tgTup [12, 13]) (me := (mTup (mCons (mBin addD (mVarF 2) (mVarF 12)) (mCons (mBin addD (mVarF 3) (mVarF 13)) mNil)))) (vs := [12, 13]) (st := stR x y k (.d (.int w)) (.d (.int h)) .no .no .no .no .no [tinC a b t]) G
    (by
      show bindO (mCall m__law_boxed 5 [] (mCons (mVarF 6) (mCons (mVarF 5) mNil)) _) _ = _
      rw [call_at (as := [.int h, .int w]) (ma := (mCons (mVarF 6) (mCons (mVarF 5) mNil))) (st1 := stR x y k (.d (.int w)) (.d (.int h)) .no .no .no .no .no [tinC a b t]) rfl B.run]
      rfl) (Nat.le_trans B.le (by decide)) fun p _ => ⟨[.rf 0, .d (.int 12), .d (.int x), .d (.int y), .d (.int k), .d (.int w), .d (.int h), .no, .no, .no, .no, .no, .d (.int p.1), .d (.int p.2), .no], rfl, rfl⟩
  have e2 : (G.map fun p => sq (x + p.1, y + p.2)) = (push (x, y) G).map sq := by rw [List.map_map]; rfl
  rw [e2] at e
  unfold rm4 mSetF fSl
  rw [e]
  have c : cutD ((push (x, y) G).map sq) none (some 12) = (push (x, y) G).map sq := by
    have l := B.le
    unfold cutD HT.sIx
    rw [List.length_map, List.length_map]
    show List.take ((if (12 : Int) < 0 then _ else min (12 : Int).toNat G.length) - 0) (List.drop 0 _) = _
    rw [if_neg (by decide), List.drop_zero, List.take_of_length_le]
    rw [List.length_map, List.length_map]
    have : min (12 : Int).toNat G.length = G.length := Nat.min_eq_right l
    omega
  show SO.nx (S.addC _ 7 (.l (cutD ((push (x, y) G).map sq) none (some 12)))) = _
  rw [c]
  rfl
abbrev nearOf (F : List P2) (s : P2) : List P2 := (obs s).filter fun q => !decide (q ∈ F) && decide (0 ≤ min q.1 q.2)
abbrev nearD (F : List P2) (L : List P2) : List P2 := L.flatMap (nearOf F)
theorem near_len (F s) : (nearOf F s).length ≤ 4 := List.length_filter_le ..
theorem nearD_len (F : List P2) : ∀ L : List P2, (nearD F L).length ≤ 4 * L.length
  | [] => by simp [nearD]
  | s :: L => by
    have h1 := nearD_len F L
    have h2 := near_len F s
    show ((nearOf F s) ++ nearD F L).length ≤ _
    rw [List.length_append, List.length_cons]
    omega
abbrev stL (x y k : Int) (s5 s6 s8 s9 s10 s11 : Sl) (F : List P2) (a b t : Int) : S := stR x y k s5 s6 (.rf 1) s8 s9 s10 s11 [tinC a b t, .l (F.map sq)]
section
variable {x y k : Int} {s5 s6 s8 s9 s10 s11 : Sl} {F : List P2} {a b t : Int}
theorem near_step (N : List P2) (s : P2) (hN : N.length ≤ 1000) : nearB (stL x y k s5 s6 s8 (.d (lR N)) (.d (sq s)) s11 F a b t) = .nx (stL x y k s5 s6 s8 (.d (lR (N ++ nearOf F s))) (.d (sq s)) s11 F a b t) := by
  have e := lc_at (i := sq) (f := sq) (b := fun q => !decide (q ∈ F) && decide (0 ≤ min q.1 q.2)) (mi := (miSeq (mCall m__law_beside 2 [] (mCons (mVarF 10) mNil)))) (tg := tgName 14) (tt := (mAndT (mB (mInB true (mVarF 14) 7)) (mB (mBin geD (mFun minTD (mCons (mVarF 14) mNil)) (mC (.int 0)))))) (me := mVarF 14) (vs := [14]) (st := stL x y k s5 s6 s8 (.d (lR N)) (.d (sq s)) s11 F a b t) (obs s)
    (by
      show bindO (mCall m__law_beside 2 [] (mCons (mVarF 10) mNil) _) _ = _
      rw [call_at (as := [sq s]) (ma := (mCons (mVarF 10) mNil)) (st1 := stL x y k s5 s6 s8 (.d (lR N)) (.d (sq s)) s11 F a b t) rfl (lbeside_rn s)]
      rfl) (show 4 ≤ 1000000 by decide) fun q _ => ⟨[.rf 0, .d (.int 12), .d (.int x), .d (.int y), .d (.int k), s5, s6, .rf 1, s8, .d (lR N), .d (sq s), s11, .no, .no, .d (sq q)], rfl, and_at (b_at (inb_at (d := lR F) rfl rfl (in_n q F rfl))) (b_at (bin_at (a := .int (min q.1 q.2)) (b := .int 0) rfl rfl rfl)), fun _ => rfl⟩
  refine (asg_at (bin_at (a := lR N) (b := lR (nearOf F s)) (d := lR (N ++ nearOf F s)) (st1 := stL x y k s5 s6 s8 (.d (lR N)) (.d (sq s)) s11 F a b t) rfl e ?_)).trans rfl
  show (if (N.map sq).length + ((nearOf F s).map sq).length ≤ lim then some (D.lst (N.map sq ++ (nearOf F s).map sq)) else none) = _
  have h := near_len F s
  rw [if_pos (by rw [List.length_map, List.length_map]; show _ ≤ 100000; omega), ← List.map_append]
theorem near_loop : ∀ (n i : Nat) (N : List P2) (s10 : Sl), i ≤ F.length → F.length < i + n → N.length + 4 * (F.length - i) ≤ 1000 →
    ∃ s10', loopB 1 (tgName 10) nearB n i (stL x y k s5 s6 s8 (.d (lR N)) s10 s11 F a b t) = .nx (stL x y k s5 s6 s8 (.d (lR (N ++ nearD F (F.drop i)))) s10' s11 F a b t)
  | 0, i, N, s10, h1, h2, h3 => by omega
  | n + 1, i, N, s10, h1, h2, h3 => by
    by_cases hi : i = F.length
    · subst hi
      refine ⟨s10, ?_⟩
      unfold loopB
      show (match (F.map sq)[F.length]? with
        | some d => _
        | none => SO.nx (stL x y k s5 s6 s8 (.d (lR N)) s10 s11 F a b t)) = _
      rw [List.getElem?_eq_none (by rw [List.length_map]; exact Nat.le_refl _), List.drop_length]
      show SO.nx _ = SO.nx (stL x y k s5 s6 s8 (.d (lR (N ++ []))) s10 s11 F a b t)
      rw [List.append_nil]
    · obtain ⟨s, hs⟩ : ∃ s, F[i]? = some s := ⟨_, List.getElem?_eq_getElem (by omega)⟩
      have hl := near_len F s
      obtain ⟨s10', e⟩ := near_loop n (i + 1) (N ++ nearOf F s) (.d (sq s)) (by omega) (by omega) (by rw [List.length_append]; omega)
      refine ⟨s10', ?_⟩
      unfold loopB
      show (match (F.map sq)[i]? with
        | some d => match tgName 10 d (stL x y k s5 s6 s8 (.d (lR N)) s10 s11 F a b t) with
          | some st1 => match nearB st1 with
            | .nx st2 => loopB 1 (tgName 10) nearB n (i + 1) st2
            | .ct st2 => loopB 1 (tgName 10) nearB n (i + 1) st2
            | .bk st2 => .nx st2
            | o => o
          | none => .no
        | none => SO.nx (stL x y k s5 s6 s8 (.d (lR N)) s10 s11 F a b t)) = _
      rw [List.getElem?_map, hs]
      show (match nearB (stL x y k s5 s6 s8 (.d (lR N)) (.d (sq s)) s11 F a b t) with
            | .nx st2 => loopB 1 (tgName 10) nearB n (i + 1) st2
            | .ct st2 => loopB 1 (tgName 10) nearB n (i + 1) st2
            | .bk st2 => .nx st2
            | o => o) = _
      rw [near_step N s (by omega)]
      show loopB 1 (tgName 10) nearB n (i + 1) _ = _
      rw [e]
      have hd : F.drop i = s :: F.drop (i + 1) := by
        obtain ⟨lt, rfl⟩ := List.getElem?_eq_some_iff.mp hs
        exact List.drop_eq_getElem_cons lt
      rw [hd, List.append_assoc]
      rfl
theorem far_ex : ∀ {F : List P2}, 0 < F.length → ∃ p ∈ F, ∀ q ∈ F, q.1 ≤ p.1
  | [p], _ => ⟨p, List.mem_singleton_self _, fun q m => by rw [List.mem_singleton.mp m]; exact Int.le_refl _⟩
  | p :: r :: F, _ => by
    obtain ⟨z, hz, m⟩ := far_ex (F := r :: F) (Nat.succ_pos _)
    by_cases h : z.1 ≤ p.1
    · refine ⟨p, List.mem_cons_self .., fun q hq => ?_⟩
      rcases List.mem_cons.mp hq with rfl | hq
      · exact Int.le_refl _
      · exact Int.le_trans (m q hq) h
    · refine ⟨z, List.mem_cons_of_mem _ hz, fun q hq => ?_⟩
      rcases List.mem_cons.mp hq with rfl | hq
      · omega
      · exact m q hq
theorem near_ne (g : GoodF F) : nearD F F ≠ [] := by
  obtain ⟨p, hp, m⟩ := far_ex g.ne
  have n := g.pos p hp
  intro e
  have h : (p.1 + 1, p.2 + 0) ∈ nearD F F := by
    refine List.mem_flatMap.mpr ⟨p, hp, List.mem_filter.mpr ⟨List.mem_cons_self .., ?_⟩⟩
    have nm : (p.1 + 1, p.2 + 0) ∉ F := fun q => by
      have := m _ q
      simp only at this
      omega
    rw [decide_eq_false nm]
    have : (0 : Int) ≤ min (p.1 + 1) (p.2 + 0) := by
      have h1 := n.1
      have h2 := n.2
      omega
    rw [decide_eq_true this]
    rfl
  rw [e] at h
  cases h
theorem near_mem {q : P2} (h : q ∈ nearD F F) : q ∉ F ∧ nonneg q := by
  obtain ⟨s, _, hq⟩ := List.mem_flatMap.mp h
  obtain ⟨_, hb⟩ := List.mem_filter.mp hq
  simp only [Bool.and_eq_true, Bool.not_eq_true', decide_eq_false_iff_not, decide_eq_true_eq] at hb
  exact ⟨hb.1, by have := hb.2; exact ⟨by omega, by omega⟩⟩
theorem lap_at (g : GoodF F) (t0 : 0 ≤ t) (t1 : t + 1 < 1000000) (s9 : Sl) : ∃ F' s9' s10' a' t', GoodF F' ∧ 0 ≤ t' ∧ t' ≤ t + 1 ∧ lapB (stL x y k s5 s6 s8 s9 s10 s11 F a b t) = .nx (stL x y k s5 s6 s8 s9' s10' s11 F' a' b t') := by
  have gl := g.le
  obtain ⟨s10', e⟩ := near_loop (x := x) (y := y) (k := k) (s5 := s5) (s6 := s6) (s8 := s8) (s11 := s11) (F := F) (a := a) (b := b) (t := t) 1000 0 [] s10 (Nat.zero_le _) (by omega) (by show 0 + _ ≤ 1000; omega)
  rw [List.drop_zero, List.nil_append] at e
  have e1 : (mForB 7 1000 (tgName 10) nearB) (stL x y k s5 s6 s8 (.d (lR [])) s10 s11 F a b t) = .nx (stL x y k s5 s6 s8 (.d (lR (nearD F F))) s10' s11 F a b t) := e
  have c : (mB (mBin ltD (mLenB 7) (mVarF 1))) (stL x y k s5 s6 s8 (.d (lR (nearD F F))) s10' s11 F a b t) = .ok (decide ((F.length : Int) < 12)) (stL x y k s5 s6 s8 (.d (lR (nearD F F))) s10' s11 F a b t) := by
    refine b_at (bin_at (st1 := stL x y k s5 s6 s8 (.d (lR (nearD F F))) s10' s11 F a b t) (a := .int (F.length : Nat)) (b := .int 12) ?_ rfl rfl)
    show O.ok (D.int ((F.map sq).length : Nat)) _ = _
    rw [List.length_map]
  by_cases h : (F.length : Int) < 12
  · rw [decide_eq_true h] at c
    have nl := nearD_len F F
    obtain ⟨M, m1, m2, m3, m4⟩ := sortSet_sq (nearD F F) (by omega)
    obtain ⟨d, a', t', ⟨p, pM, rfl⟩, q1, q2, e2⟩ := callR_at (ms := m__law_of) (n := 2) (st := stL x y k s5 s6 s8 (.d (lR (nearD F F))) s10' s11 F a b t) (k := 0) (of_rnR M (m3 (near_ne g)) (by omega)) (ref_at (i := 0) (r := rDat (mFun sortSetND (mCons (mVarF 9) mNil)) rNil) (as := [lR M]) rfl (rdat_at (as := []) (fun_at rfl m1) rfl)) rfl t0 t1
    obtain ⟨n1, n2⟩ := near_mem (m2 p pM)
    refine ⟨F ++ [p], .d (lR (nearD F F)), s10', a', t', ⟨?_, ?_, by rw [List.length_append]; exact Nat.lt_add_right _ g.ne, by rw [List.length_append, List.length_singleton]; omega⟩, q1, q2, ?_⟩
    · exact List.nodup_append.mpr ⟨g.nd, by simp, fun u hu v hv => by
        obtain rfl := List.mem_singleton.mp hv
        exact fun q => n1 (q ▸ hu)⟩
    · intro q hq
      rcases List.mem_append.mp hq with hq | hq
      · exact g.pos q hq
      · rw [List.mem_singleton.mp hq]; exact n2
    · refine seq_to rfl (seq_to e1 (if_to c (drop_at (d := .non) ?_)))
      rw [app_at (k := 1) (ds := F.map sq) rfl rfl e2 rfl (by rw [List.length_map]; show F.length ≤ 100000; omega)]
      show O.ok D.non (S.mk _ [_, .l (F.map sq ++ [sq p])]) = _
      rw [show F.map sq ++ [sq p] = (F ++ [p]).map sq by rw [List.map_append]; rfl]
      rfl
  · rw [decide_eq_false h] at c
    exact ⟨F, .d (lR (nearD F F)), s10', a, t, g, t0, by omega, seq_to rfl (seq_to e1 (if_n c))⟩
end
theorem laps_at {x y k : Int} {s5 s6 s11 : Sl} {b : Int} : ∀ (ds : List D) (F : List P2) (a t : Int) (s8 s9 s10 : Sl), GoodF F → 0 ≤ t → t + ds.length < 1000000 →
    ∃ F' s8' s9' s10' a' t', GoodF F' ∧ 0 ≤ t' ∧ t' ≤ t + ds.length ∧ loopS (tgName 8) lapB ds (stL x y k s5 s6 s8 s9 s10 s11 F a b t) = .nx (stL x y k s5 s6 s8' s9' s10' s11 F' a' b t')
  | [], F, a, t, s8, s9, s10, g, t0, t1 => ⟨F, s8, s9, s10, a, t, g, t0, by simp, rfl⟩
  | d :: ds, F, a, t, s8, s9, s10, g, t0, t1 => by
    rw [List.length_cons] at t1
    obtain ⟨F1, s9', s10', a1, t1', g1, q1, q2, e⟩ := lap_at (x := x) (y := y) (k := k) (s5 := s5) (s6 := s6) (s8 := .d d) (s10 := s10) (s11 := s11) (a := a) (b := b) g t0 (by omega) s9
    obtain ⟨F', s8', s9'', s10'', a', t', g', r1, r2, e'⟩ := laps_at (x := x) (y := y) (k := k) (s5 := s5) (s6 := s6) (s11 := s11) (b := b) ds F1 a1 t1' (.d d) s9' s10' g1 q1 (by omega)
    refine ⟨F', s8', s9'', s10'', a', t', g', r1, by rw [List.length_cons]; omega, ?_⟩
    show (match lapB (stL x y k s5 s6 (.d d) s9 s10 s11 F a b t) with
        | .nx st2 => loopS (tgName 8) lapB ds st2
        | .ct st2 => loopS (tgName 8) lapB ds st2
        | .bk st2 => .nx st2
        | o => o) = _
    rw [e]
    exact e'
theorem rm5_at {x y k : Int} {s5 s6 s8 s9 s10 s11 : Sl} {F : List P2} {a b t : Int} (g : GoodF F) (t0 : 0 ≤ t) (t1 : t + 5 < 1000000) :
    ∃ F' s8' s9' s10' a' t', GoodF F' ∧ 0 ≤ t' ∧ t' ≤ t + 5 ∧ rm5 (stL x y k s5 s6 s8 s9 s10 s11 F a b t) = .nx (stL x y k s5 s6 s8' s9' s10' s11 F' a' b t') := by
  obtain ⟨v, a1, t1', v0, v1, q1, q2, e⟩ := draw 5 (by decide) (by decide) (st := stL x y k s5 s6 s8 s9 s10 s11 F a b t) rfl rfl t0 (by omega)
  have hl : ((List.range v.toNat).map fun (i : Nat) => D.int (0 + (i : Int))).length = v.toNat := by rw [List.length_map, List.length_range]
  obtain ⟨F', s8', s9', s10', a', t', g', r1, r2, e'⟩ := laps_at (x := x) (y := y) (k := k) (s5 := s5) (s6 := s6) (s11 := s11) (b := b) ((List.range v.toNat).map fun (i : Nat) => D.int (0 + (i : Int))) F a1 t1' s8 s9 s10 g q1 (by rw [hl]; omega)
  rw [hl] at r2
  refine ⟨F', s8', s9', s10', a', t', g', r1, by omega, ?_⟩
  have e3 : (miFun rangeF (mCons (mCallR m__law_take 6 [] (rRef 0 (rDat (mC (.int 5)) rNil))) mNil)) (stL x y k s5 s6 s8 s9 s10 s11 F a b t) = .ok ((List.range v.toNat).map fun (i : Nat) => D.int (0 + (i : Int))) (stL x y k s5 s6 s8 s9 s10 s11 F a1 b t1') := by
    unfold miFun
    rw [cons_at e (e := (rfl : mNil _ = _))]
    show optO (if -4611686018427387904 ≤ v ∧ v < 4611686018427387904 then _ else _) _ = _
    rw [if_pos (by omega)]
    rfl
  unfold rm5 mFor
  rw [e3]
  exact e'
theorem rem_at {i k : Nat} {m : M} {st st1 : S} {p : P2} {F : List P2} (h1 : st.cellOf i = some k) (h2 : st.isL k = true) (h3 : m st = .ok (sq p) st1) (h4 : st1.ce[k]? = some (.l (F.map sq))) (h5 : p ∈ F) (h6 : F.length ≤ 1000) :
    ∃ j, mRem i m st = .ok .non (st1.setC k (.l ((F.eraseIdx j).map sq))) := by
  have e : mapO (toP 20) (F.map sq) = some (F.map pq) := mapO_map F fun x _ => toP_sq x
  obtain ⟨j, hj⟩ : ∃ j, SeqAt.dataPlace (F.map pq) (pq p) = some j := by
    refine Option.isSome_iff_exists.mp ?_
    unfold SeqAt.dataPlace
    rw [List.findIdx?_isSome, List.any_eq_true]
    exact ⟨pq p, List.mem_map.mpr ⟨p, h5, rfl⟩, by rw [eqv_pq]; simp⟩
  refine ⟨j, ?_⟩
  unfold mRem
  simp only [h1, h2, h3, bindO, h4, toP_sq, e, hj, if_true]
  rw [if_pos (by rw [List.length_map]; show _ ≤ 100000; omega), erase_map]
theorem sortB_at {i k : Nat} {st : S} {m : M} {F T : List P2} (h1 : st.cellOf i = some k) (h4 : st.ce[k]? = some (.l (F.map sq))) (h : Asc T) (q : T.Perm F) : mSortB i m st = .ok (lR T) st := by
  unfold mSortB
  simp only [h1]
  unfold mSortC cName
  simp only [h1, bindO, h4, sortSD_sq h q]
theorem lenB_at {i k : Nat} {st : S} {F : List P2} (h1 : st.cellOf i = some k) (h4 : st.ce[k]? = some (.l (F.map sq))) : mLenB i st = .ok (.int (F.length : Nat)) st := by
  unfold mLenB
  simp only [h1]
  unfold mLenC cName
  simp only [h1, bindO, h4, List.length_map]
section
variable {x y k : Int} {s5 s6 s8 s9 s10 s11 : Sl} {F : List P2} {a b t : Int}
theorem rm6_at (g : GoodF F) (t0 : 0 ≤ t) (t1 : t + 2 < 1000000) : ∃ F' a' t', GoodF F' ∧ 0 ≤ t' ∧ t' ≤ t + 2 ∧ rm6 (stL x y k s5 s6 s8 s9 s10 s11 F a b t) = .nx (stL x y k s5 s6 s8 s9 s10 s11 F' a' b t') := by
  have gl := g.le
  obtain ⟨v, a1, t1', v0, v1, q1, q2, e⟩ := draw 3 (by decide) (by decide) (st := stL x y k s5 s6 s8 s9 s10 s11 F a b t) rfl rfl t0 (by omega)
  have c0 := b_at (bin_at (f := eqD) (mb := mC (.int 0)) (b := .int 0) e rfl (eq_int v 0))
  have c1 : (mB (mBin gtD (mLenB 7) (mC (.int 4)))) (stL x y k s5 s6 s8 s9 s10 s11 F a1 b t1') = .ok (decide ((4 : Int) < (F.length : Nat))) (stL x y k s5 s6 s8 s9 s10 s11 F a1 b t1') := b_at (bin_at (lenB_at (k := 1) rfl rfl) rfl rfl)
  by_cases h0 : v = 0
  · rw [decide_eq_true h0] at c0
    by_cases h1 : (4 : Int) < (F.length : Nat)
    · rw [decide_eq_true h1] at c1
      obtain ⟨T, T1, T2⟩ := asc_ex g.nd
      have Tl := T2.length_eq
      obtain ⟨d, a', t', ⟨p, pT, rfl⟩, r1, r2, e2⟩ := callR_at (ms := m__law_of) (n := 2) (st := stL x y k s5 s6 s8 s9 s10 s11 F a1 b t1') (k := 0) (of_rnR T (by intro z; rw [z] at Tl; have := g.ne; simp at Tl; omega) (by omega)) (ref_at (i := 0) (r := rDat (mSortB 7 (mFun sortD (mCons (mVarF 7) mNil))) rNil) (as := [lR T]) rfl (rdat_at (as := []) (sortB_at (k := 1) rfl rfl T1 T2) rfl)) rfl q1 (by omega)
      obtain ⟨j, e3⟩ := rem_at (i := 7) (k := 1) (F := F) (st := stL x y k s5 s6 s8 s9 s10 s11 F a1 b t1') rfl rfl e2 rfl (T2.mem_iff.mp pT) (by omega)
      have sl : (F.eraseIdx j).Sublist F := List.eraseIdx_sublist ..
      refine ⟨F.eraseIdx j, a', t', ⟨g.nd.sublist sl, fun q hq => g.pos q (sl.subset hq), ?_, Nat.le_trans sl.length_le gl⟩, r1, by omega, if_to (andT_t c0 c1) (drop_at e3)⟩
      rw [List.length_eraseIdx]
      split <;> omega
    · rw [decide_eq_false h1] at c1
      exact ⟨F, a1, t1', g, q1, by omega, if_n (andT_t c0 c1)⟩
  · rw [decide_eq_false h0] at c0
    exact ⟨F, a1, t1', g, q1, by omega, if_n (andT_f c0)⟩
theorem max_ge : ∀ (l : List Int) (i : Int), i ≤ l.foldl max i ∧ ∀ z ∈ l, z ≤ l.foldl max i
  | [], i => ⟨Int.le_refl _, fun _ z => nomatch z⟩
  | w :: l, i => by
    obtain ⟨h1, h2⟩ := max_ge l (max i w)
    have h1 : max i w ≤ (w :: l).foldl max i := h1
    refine ⟨by omega, fun z hz => ?_⟩
    rcases List.mem_cons.mp hz with rfl | hz
    · omega
    · exact h2 z hz
theorem maxD_at (h : 0 < F.length) : ∃ m, maxD [.lst (F.map fun p => D.int p.1)] = some (.int m) ∧ ∀ p ∈ F, p.1 ≤ m := by
  cases F with
  | nil => cases h
  | cons p F =>
    obtain ⟨h1, h2⟩ := max_ge (F.map (·.1)) p.1
    refine ⟨(F.map (·.1)).foldl max p.1, ?_, fun q hq => ?_⟩
    · unfold maxD
      have e : mapO toI ((p :: F).map fun p => D.int p.1) = some ((p :: F).map (·.1)) := mapO_map _ fun _ _ => rfl
      simp only [e]
      rfl
    · rcases List.mem_cons.mp hq with rfl | hq
      · exact h1
      · exact h2 _ (List.mem_map.mpr ⟨q, hq, rfl⟩)
theorem rm7_at (g : GoodF F) (t0 : 0 ≤ t) (t1 : t + 2 < 1000000) : ∃ (F' : List P2) (a' t' : Int) (κ : Nat) (st' : S), F'.Nodup ∧ (∀ p ∈ F', nonneg p) ∧ 0 < F'.length ∧ F'.length ≤ 14 ∧ 0 ≤ t' ∧ t' ≤ t + 2 ∧ rm7 (stL x y k s5 s6 s8 s9 s10 s11 F a b t) = .nx st' ∧
    st'.cellOf 7 = some κ ∧ st'.ce[κ]? = some (.l (F'.map sq)) ∧ st'.ce[0]? = some (tinC a' b t') := by
  have gl := g.le
  obtain ⟨v, a1, t1', v0, v1, q1, q2, e⟩ := draw 8 (by decide) (by decide) (st := stL x y k s5 s6 s8 s9 s10 s11 F a b t) rfl rfl t0 (by omega)
  have c0 := b_at (bin_at (f := eqD) (mb := mC (.int 0)) (b := .int 0) e rfl (eq_int v 0))
  have c1 : (mB (mBin ltD (mLenB 7) (mBin subD (mVarF 1) (mC (.int 1))))) (stL x y k s5 s6 s8 s9 s10 s11 F a1 b t1') = .ok (decide (((F.length : Nat) : Int) < 11)) (stL x y k s5 s6 s8 s9 s10 s11 F a1 b t1') := b_at (bin_at (lenB_at (k := 1) rfl rfl) (bin_at (a := .int 12) (b := .int 1) rfl rfl rfl) rfl)
  have stay : ∃ (F' : List P2) (a' t' : Int) (κ : Nat) (st' : S), F'.Nodup ∧ (∀ p ∈ F', nonneg p) ∧ 0 < F'.length ∧ F'.length ≤ 14 ∧ 0 ≤ t' ∧ t' ≤ t + 2 ∧ SO.nx (stL x y k s5 s6 s8 s9 s10 s11 F a1 b t1') = .nx st' ∧ st'.cellOf 7 = some κ ∧ st'.ce[κ]? = some (.l (F'.map sq)) ∧ st'.ce[0]? = some (tinC a' b t') :=
    ⟨F, a1, t1', 1, _, g.nd, g.pos, g.ne, by omega, q1, by omega, rfl, rfl, rfl, rfl⟩
  by_cases h0 : v = 0
  · rw [decide_eq_true h0] at c0
    by_cases h1 : ((F.length : Nat) : Int) < 11
    · rw [decide_eq_true h1] at c1
      obtain ⟨m, m1, m2⟩ := maxD_at g.ne
      obtain ⟨p, hp, _⟩ := far_ex g.ne
      have m0 : 0 ≤ m := Int.le_trans (g.pos p hp).1 (m2 p hp)
      obtain ⟨s5', s6', s8', s9', s10', s11', fz⟩ : ∃ s5' s6' s8' s9' s10' s11', (stL x y k s5 s6 s8 s9 s10 s11 F a1 b t1').frz 1 (lR F) = ⟨[.rf 0, .d (.int 12), .d (.int x), .d (.int y), .d (.int k), s5', s6', .d (lR F), s8', s9', s10', s11', .no, .no, .no], [tinC a1 b t1', .dead]⟩ := ⟨_, _, _, _, _, _, rfl⟩
      have ev : mVarF 7 (stL x y k s5 s6 s8 s9 s10 s11 F a1 b t1') = .ok (lR F) ((stL x y k s5 s6 s8 s9 s10 s11 F a1 b t1').frz 1 (lR F)) := rfl
      rw [fz] at ev
      have el : (mLc (miSeq (mVarF 7)) (tgName 14) mYes (mBin ixD (mVarF 14) (mC (.int 0))) [14]) (stL x y k s5 s6 s8 s9 s10 s11 F a1 b t1') = .ok (.lst (F.map fun p => D.int p.1)) ⟨[.rf 0, .d (.int 12), .d (.int x), .d (.int y), .d (.int k), s5', s6', .d (lR F), s8', s9', s10', s11', .no, .no, .no], [tinC a1 b t1', .dead]⟩ := by
        have q := lc_all (i := sq) (f := fun p => D.int p.1) (mi := fun st => .ok (F.map sq) st) (tg := tgName 14) (me := (mBin ixD (mVarF 14) (mC (.int 0)))) (vs := [14]) (st := ⟨[.rf 0, .d (.int 12), .d (.int x), .d (.int y), .d (.int k), s5', s6', .d (lR F), s8', s9', s10', s11', .no, .no, .no], [tinC a1 b t1', .dead]⟩) F rfl (by omega) fun p _ =>
          ⟨[.rf 0, .d (.int 12), .d (.int x), .d (.int y), .d (.int k), s5', s6', .d (lR F), s8', s9', s10', s11', .no, .no, .d (sq p)], rfl, rfl⟩
        unfold mLc miSeq at *
        rw [ev]
        exact q
      obtain ⟨u, a2, t2', u0, u1, r1, r2, e2⟩ := draw 2 (by decide) (by decide) (st := ⟨[.rf 0, .d (.int 12), .d (.int x), .d (.int y), .d (.int k), s5', s6', .d (lR F), s8', s9', s10', s11', .no, .no, .no], [tinC a1 b t1', .dead]⟩) rfl rfl q1 (by omega)
      have ea := asg_at (i := 11) (bin_at (f := addD) (bin_at (f := addD) (mb := mC (.int 1)) (b := .int 1) (d := .int (m + 1)) (fun_at (f := maxD) (cons_at el (e := (rfl : mNil _ = _))) m1) rfl rfl) e2 (d := .int (m + 1 + u)) rfl)
      refine ⟨F ++ [(m + 1 + u, 7), (m + 1 + u, 8)], a2, t2', 2, ⟨[.rf 0, .d (.int 12), .d (.int x), .d (.int y), .d (.int k), s5', s6', .rf 2, s8', s9', s10', .d (.int (m + 1 + u)), .no, .no, .no], [tinC a2 b t2', .dead, .l ((F ++ [(m + 1 + u, 7), (m + 1 + u, 8)]).map sq)]⟩, ?_, ?_, ?_, ?_, r1, by omega, if_to (andT_t c0 c1) (seq_to ea ?_), rfl, rfl, rfl⟩
      · refine List.nodup_append.mpr ⟨g.nd, by simp, fun z hz w hw e => ?_⟩
        have := m2 z hz
        rw [e] at this
        simp only [List.mem_cons, List.not_mem_nil, or_false] at hw
        rcases hw with rfl | rfl <;> (simp only at this; omega)
      · intro z hz
        rcases List.mem_append.mp hz with hz | hz
        · exact g.pos z hz
        · simp only [List.mem_cons, List.not_mem_nil, or_false] at hz
          rcases hz with rfl | rfl
          · exact ⟨by show 0 ≤ m + 1 + u; omega, by show (0 : Int) ≤ _; simp⟩
          · exact ⟨by show 0 ≤ m + 1 + u; omega, by show (0 : Int) ≤ _; simp⟩
      · rw [List.length_append]
        exact Nat.lt_add_right _ g.ne
      · simp only [List.length_append, List.length_cons, List.length_nil]
        omega
      · unfold mSetF fAdd
        show bindS (if (F.map sq).length + 2 ≤ lim then O.ok (F.map sq ++ [sq (m + 1 + u, 7), sq (m + 1 + u, 8)]) _ else .no) _ = _
        rw [if_pos (by rw [List.length_map]; show _ ≤ 100000; omega), List.map_append]
        rfl
    · rw [decide_eq_false h1] at c1
      rw [show rm7 (stL x y k s5 s6 s8 s9 s10 s11 F a b t) = _ from if_n (andT_t c0 c1)]
      exact stay
  · rw [decide_eq_false h0] at c0
    rw [show rm7 (stL x y k s5 s6 s8 s9 s10 s11 F a b t) = _ from if_n (andT_f c0)]
    exact stay
end
theorem room_rnR : RnR m__law_room 15 [.int 12] 15 fun d => ∃ R, d = tR R ∧ Room R ∧ R.length ≤ 14 := fun a b t t0 t1 => by
  obtain ⟨x, y, k, a1, t1', x0, y0, p1, p2, e1⟩ := rm1_at a b t t0 (by omega)
  obtain ⟨v, u, a2, t2', v0, v1, u0, u1, p3, p4, e2⟩ := rm2_at x y k a1 b t1' p1 (by omega)
  obtain ⟨w, h, G, a3, t3', B, p5, p6, e3⟩ := rm3_at x y k v u a2 b t2' v0 v1 u0 u1 p3 (by omega)
  obtain ⟨F, g, e4⟩ := rm4_at x y k w h a3 b t3' B x0 y0
  obtain ⟨F5, s8, s9, s10, a5, t5', g5, p7, p8, e5⟩ := rm5_at (x := x) (y := y) (k := k) (s5 := .d (.int w)) (s6 := .d (.int h)) (s8 := .no) (s9 := .no) (s10 := .no) (s11 := .no) (a := a3) (b := b) g p5 (by omega)
  obtain ⟨F6, a6, t6', g6, p9, p10, e6⟩ := rm6_at (x := x) (y := y) (k := k) (s5 := .d (.int w)) (s6 := .d (.int h)) (s8 := s8) (s9 := s9) (s10 := s10) (s11 := .no) (a := a5) (b := b) g5 p7 (by omega)
  obtain ⟨F7, a7, t7', κ, st', n1, n2, n3, n4, p11, p12, e7, k1, k2, k3⟩ := rm7_at (x := x) (y := y) (k := k) (s5 := .d (.int w)) (s6 := .d (.int h)) (s8 := s8) (s9 := s9) (s10 := s10) (s11 := .no) (a := a6) (b := b) g6 p9 (by omega)
  obtain ⟨T, T1, T2⟩ := asc_ex n1
  have Tl := T2.length_eq
  refine ⟨tR T, a7, t7', st', ⟨T, rfl, ⟨T1, fun p hp => n2 p (T2.mem_iff.mp hp), by omega, fun z => by rw [z] at Tl; simp at Tl; omega⟩, by omega⟩, p11, by omega, ?_, k3⟩
  unfold m__law_room
  exact seq_to e1 (seq_to e2 (seq_to e3 (seq_to e4 (seq_to e5 (seq_to e6 (seq_to e7 (ret_at (fun_at (cons_at (sortB_at k1 k2 T1 T2) rfl) rfl))))))))
theorem right_rnR : RnR m__law_right 2 [] 45 fun d => d = .bl true := fun a b t t0 t1 => by
  obtain ⟨g1, g2, g3⟩ := bx5
  obtain ⟨v, a1, t1', v0, v1, q1, q2, e⟩ := draw 13 (by decide) (by decide) (st := ⟨[.rf 0, .no], [tinC a b t]⟩) rfl rfl t0 (by omega)
  have hv : (8 : Int) + v = ((8 + v.toNat : Nat) : Int) := by omega
  obtain ⟨d, a2, t2', ⟨L, rest, rfl, pe, len⟩, q3, q4, e2⟩ := callR_at (ms := m__law_pick) (n := 6) (st := ⟨[.rf 0, .no], [tinC a b t]⟩) (st1 := ⟨[.rf 0, .no], [tinC a1 b t1']⟩) (k := 0) (pick_rnR (grid 4 5) (8 + v.toNat) (by rw [g3]; decide) (by omega))
    (ref_at (i := 0) (r := (rDat (mFun listD (mCons (mCall m__law_boxed 5 [] (mCons (mC (.int 4)) (mCons (mC (.int 5)) mNil))) mNil)) (rDat (mBin addD (mC (.int 8)) (mCallR m__law_take 6 [] (rRef 0 (rDat (mC (.int 13)) rNil)))) rNil))) (as := [lR (grid 4 5), .int ((8 + v.toNat : Nat) : Int)]) rfl
      (rdat_at (fun_at (f := listD) (cons_at (call_at (as := [.int 4, .int 5]) (st1 := ⟨[.rf 0, .no], [tinC a b t]⟩) rfl box_45) (e := (rfl : mNil _ = _))) rfl) (rdat_at (as := []) (bin_at (f := addD) (a := .int 8) (b := .int v) rfl e (by rw [← hv]; rfl)) rfl))) rfl q1 (by omega)
  have nd : L.Nodup := (List.nodup_append.mp (pe.nodup_iff.mpr g1.nodup)).2.1
  have hL : ∀ p ∈ L, p ∈ grid 4 5 := fun p m => pe.mem_iff.mp (List.mem_append_right _ m)
  rw [g3] at len
  have l8 : 0 < L.length ∧ L.length ≤ 20 := by omega
  obtain ⟨T, T1, T2⟩ := asc_ex nd
  have Tl := T2.length_eq
  have rT : Room T := ⟨T1, fun p hp => g2 p (hL p (T2.mem_iff.mp hp)), by omega, fun z => by rw [z] at Tl; simp at Tl; omega⟩
  obtain ⟨d3, a3, t3', ⟨R, rfl, rR, rl⟩, q5, q6, e3⟩ := callR_at (ms := m__law_room) (n := 15) (st := ⟨[.rf 0, .d (tR T)], [tinC a2 b t2']⟩) (k := 0) room_rnR (ref_at (i := 0) (r := rDat (mC (.int 12)) rNil) (as := [.int 12]) rfl rfl) rfl q3 (by omega)
  obtain ⟨d4, a4, t4', rfl, q7, q8, e4⟩ := callR_at (ms := m__law_ground_right) (n := 9) (st := ⟨[.rf 0, .d (tR T)], [tinC a2 b t2']⟩) (st1 := ⟨[.rf 0, .d (tR T)], [tinC a3 b t3']⟩) (k := 0) (ground_rnR R rR (by omega)) (ref_at (i := 0) (r := (rDat (mCallR m__law_room 15 [] (rRef 0 (rDat (mC (.int 12)) rNil))) rNil)) (as := [tR R]) rfl (rdat_at (as := []) e3 rfl)) rfl q5 (by omega)
  obtain ⟨d5, a5, t5', rfl, q9, q10, e5⟩ := callR_at (ms := m__law_ground_right) (n := 9) (st := ⟨[.rf 0, .d (tR T)], [tinC a4 b t4']⟩) (k := 0) (ground_rnR T rT (by omega)) (ref_at (i := 0) (r := (rDat (mVarF 1) rNil)) (as := [tR T]) rfl rfl) rfl q7 (by omega)
  refine ⟨.bl true, a5, t5', ⟨[.rf 0, .d (tR T)], [tinC a5 b t5']⟩, rfl, q9, by omega, ?_, rfl⟩
  unfold m__law_right
  refine seq_to (asg_at (fun_at (f := tupleD) (cons_at (fun_at (f := sortD) (cons_at e2 (e := (rfl : mNil _ = _))) (sorted_sq L T T1 T2.symm)) (e := (rfl : mNil _ = _))) rfl)) ?_
  exact ret_at (mand_t e4 e5)
theorem hand_true : trueS (m__law_hand_right (S.start [] 6 [])) = true := by decide +kernel
/-- the law, whatever the script -/
theorem law_true : ∀ ns : List Int, ns.length ≤ 63 → trueS (m_law (S.start [.d (.ks (ns.map .int))] 1 [])) = true := fun ns hl => by
  unfold m_law
  exact law_rnR (A := m__law_hand_right) (B := m__law_right) hand_true right_rnR (by decide) ns hl
set_option maxHeartbeats 8000000
def atl : List (Str × Option Str) := [(.ofString "pushed", none), (.ofString "within", none), (.ofString "table_of", none), (.ofString "inner_of", none), (.ofString "rim_of", none), (.ofString "four_about", none), (.ofString "points_of", none), (.ofString "is_number", none), (.ofString "needed", none), (.ofString "plain_pair", none), (.ofString "plain_square", none), (.ofString "plain_items", none), (.ofString "plain_set", none), (.ofString "plain_room", none), (.ofString "need_room", none), (.ofString "need_pair", none), (.ofString "check_square", none), (.ofString "beside", none), (.ofString "around", none), (.ofString "rim", none), (.ofString "inner", none), (.ofString "points", none), (.ofString "about", none), (.ofString "_law_box", none), (.ofString "_law_take", none), (.ofString "_law_cells", none), (.ofString "_law_of", none), (.ofString "_law_pick", none), (.ofString "_law_lists", none), (.ofString "_law_same", none), (.ofString "_law_over", none), (.ofString "_law_beside", none), (.ofString "_law_around", none), (.ofString "_law_rim", none), (.ofString "_law_four", none), (.ofString "_law_points", none), (.ofString "_law_boxed", none), (.ofString "_law_room", none), (.ofString "_law_nook", none), (.ofString "_law_hall", none), (.ofString "_law_hand_right", none), (.ofString "_law_ground_right", none), (.ofString "_law_right", none), (.ofString "law", none)]
def gFn (K : PySem.W.Frag) (i : Nat) : Addr := He.fAd K (atl.getD i (.empty, none))
def pol : List Nat := [0, 1, 2, 4, 5, 6, 3, 7, 8, 9, 10, 11, 12, 13, 14, 15, 16, 17, 18, 19, 20, 21, 22, 23, 24, 25, 26, 27, 28, 29, 30, 31, 32, 33, 34, 35, 36, 37, 38, 39, 40, 41, 42, 43]
def gdn (gd : Nat → FuncData) (i : Nat) : FuncData := gd (pol.getD i 0)
def cll : List Str := [""]
def gCn (K : PySem.W.Frag) (n : Nat) : Addr := He.ga K (cll.getD n .empty)
def gfn (n : Nat) : List Str := ([] : List (List Str)).getD n []
def d_pushed : He.DefD := ⟨("pushed", none), "pushed", "pushed", defArgs s_pushed, defBody s_pushed, defScope s_pushed, [], []⟩
def d_within : He.DefD := ⟨("within", none), "within", "within", defArgs s_within, defBody s_within, defScope s_within, [], []⟩
def d_table_of : He.DefD := ⟨("table_of", none), "table_of", "table_of", defArgs s_table_of, defBody s_table_of, defScope s_table_of, [], []⟩
def d_points_of : He.DefD := ⟨("points_of", none), "points_of", "points_of", defArgs s_points_of, defBody s_points_of, defScope s_points_of, [], []⟩
def d_inner_of : He.DefD := ⟨("inner_of", none), "inner_of", "inner_of", defArgs s_inner_of, defBody s_inner_of, defScope s_inner_of, [], []⟩
def d_rim_of : He.DefD := ⟨("rim_of", none), "rim_of", "rim_of", defArgs s_rim_of, defBody s_rim_of, defScope s_rim_of, [], []⟩
def d_four_about : He.DefD := ⟨("four_about", none), "four_about", "four_about", defArgs s_four_about, defBody s_four_about, defScope s_four_about, [], []⟩
def d_is_number : He.DefD := ⟨("is_number", none), "is_number", "is_number", defArgs s_is_number, defBody s_is_number, defScope s_is_number, [], []⟩
def d_needed : He.DefD := ⟨("needed", none), "needed", "needed", defArgs s_needed, defBody s_needed, defScope s_needed, [], []⟩
def d_plain_pair : He.DefD := ⟨("plain_pair", none), "plain_pair", "plain_pair", defArgs s_plain_pair, defBody s_plain_pair, defScope s_plain_pair, [], []⟩
def d_plain_square : He.DefD := ⟨("plain_square", none), "plain_square", "plain_square", defArgs s_plain_square, defBody s_plain_square, defScope s_plain_square, [], []⟩
def d_plain_items : He.DefD := ⟨("plain_items", none), "plain_items", "plain_items", defArgs s_plain_items, defBody s_plain_items, defScope s_plain_items, [], []⟩
def d_plain_set : He.DefD := ⟨("plain_set", none), "plain_set", "plain_set", defArgs s_plain_set, defBody s_plain_set, defScope s_plain_set, [], []⟩
def d_plain_room : He.DefD := ⟨("plain_room", none), "plain_room", "plain_room", defArgs s_plain_room, defBody s_plain_room, defScope s_plain_room, [], []⟩
def d_need_room : He.DefD := ⟨("need_room", none), "need_room", "need_room", defArgs s_need_room, defBody s_need_room, defScope s_need_room, [], []⟩
def d_need_pair : He.DefD := ⟨("need_pair", none), "need_pair", "need_pair", defArgs s_need_pair, defBody s_need_pair, defScope s_need_pair, [], []⟩
def d_check_square : He.DefD := ⟨("check_square", none), "check_square", "check_square", defArgs s_check_square, defBody s_check_square, defScope s_check_square, [], []⟩
def d_beside : He.DefD := ⟨("beside", none), "beside", "beside", defArgs s_beside, defBody s_beside, defScope s_beside, [], []⟩
def d_around : He.DefD := ⟨("around", none), "around", "around", defArgs s_around, defBody s_around, defScope s_around, [], []⟩
def d_rim : He.DefD := ⟨("rim", none), "rim", "rim", defArgs s_rim, defBody s_rim, defScope s_rim, [], []⟩
def d_inner : He.DefD := ⟨("inner", none), "inner", "inner", defArgs s_inner, defBody s_inner, defScope s_inner, [], []⟩
def d_points : He.DefD := ⟨("points", none), "points", "points", defArgs s_points, defBody s_points, defScope s_points, [], []⟩
def d_about : He.DefD := ⟨("about", none), "about", "about", defArgs s_about, defBody s_about, defScope s_about, [], []⟩
def d__law_box : He.DefD := ⟨("_law_box", none), "_law_box", "_law_box", defArgs s__law_box, defBody s__law_box, defScope s__law_box, [], []⟩
def d__law_take : He.DefD := ⟨("_law_take", none), "_law_take", "_law_take", defArgs s__law_take, defBody s__law_take, defScope s__law_take, [], []⟩
def d__law_cells : He.DefD := ⟨("_law_cells", none), "_law_cells", "_law_cells", defArgs s__law_cells, defBody s__law_cells, defScope s__law_cells, [], []⟩
def d__law_of : He.DefD := ⟨("_law_of", none), "_law_of", "_law_of", defArgs s__law_of, defBody s__law_of, defScope s__law_of, [], []⟩
def d__law_pick : He.DefD := ⟨("_law_pick", none), "_law_pick", "_law_pick", defArgs s__law_pick, defBody s__law_pick, defScope s__law_pick, [], []⟩
def d__law_lists : He.DefD := ⟨("_law_lists", none), "_law_lists", "_law_lists", defArgs s__law_lists, defBody s__law_lists, defScope s__law_lists, [], []⟩
def d__law_same : He.DefD := ⟨("_law_same", none), "_law_same", "_law_same", defArgs s__law_same, defBody s__law_same, defScope s__law_same, [], []⟩
def d__law_over : He.DefD := ⟨("_law_over", none), "_law_over", "_law_over", defArgs s__law_over, defBody s__law_over, defScope s__law_over, [], []⟩
def d__law_beside : He.DefD := ⟨("_law_beside", none), "_law_beside", "_law_beside", defArgs s__law_beside, defBody s__law_beside, defScope s__law_beside, [], []⟩
def d__law_around : He.DefD := ⟨("_law_around", none), "_law_around", "_law_around", defArgs s__law_around, defBody s__law_around, defScope s__law_around, [], []⟩
def d__law_rim : He.DefD := ⟨("_law_rim", none), "_law_rim", "_law_rim", defArgs s__law_rim, defBody s__law_rim, defScope s__law_rim, [], []⟩
def d__law_four : He.DefD := ⟨("_law_four", none), "_law_four", "_law_four", defArgs s__law_four, defBody s__law_four, defScope s__law_four, [], []⟩
def d__law_points : He.DefD := ⟨("_law_points", none), "_law_points", "_law_points", defArgs s__law_points, defBody s__law_points, defScope s__law_points, [], []⟩
def d__law_boxed : He.DefD := ⟨("_law_boxed", none), "_law_boxed", "_law_boxed", defArgs s__law_boxed, defBody s__law_boxed, defScope s__law_boxed, [], []⟩
def d__law_room : He.DefD := ⟨("_law_room", none), "_law_room", "_law_room", defArgs s__law_room, defBody s__law_room, defScope s__law_room, [], []⟩
def d__law_nook : He.DefD := ⟨("_law_nook", none), "_law_nook", "_law_nook", defArgs s__law_nook, defBody s__law_nook, defScope s__law_nook, [], []⟩
def d__law_hall : He.DefD := ⟨("_law_hall", none), "_law_hall", "_law_hall", defArgs s__law_hall, defBody s__law_hall, defScope s__law_hall, [], []⟩
def d__law_hand_right : He.DefD := ⟨("_law_hand_right", none), "_law_hand_right", "_law_hand_right", defArgs s__law_hand_right, defBody s__law_hand_right, defScope s__law_hand_right, [], []⟩
def d__law_ground_right : He.DefD := ⟨("_law_ground_right", none), "_law_ground_right", "_law_ground_right", defArgs s__law_ground_right, defBody s__law_ground_right, defScope s__law_ground_right, [], []⟩
def d__law_right : He.DefD := ⟨("_law_right", none), "_law_right", "_law_right", defArgs s__law_right, defBody s__law_right, defScope s__law_right, [], []⟩
def d_law : He.DefD := ⟨("law", none), "law", "law", defArgs s_law, defBody s_law, defScope s_law, [], []⟩
def fnl : List He.DefD := [d_pushed, d_within, d_table_of, d_points_of, d_inner_of, d_rim_of, d_four_about, d_is_number, d_needed, d_plain_pair, d_plain_square, d_plain_items, d_plain_set, d_plain_room, d_need_room, d_need_pair, d_check_square, d_beside, d_around, d_rim, d_inner, d_points, d_about, d__law_box, d__law_take, d__law_cells, d__law_of, d__law_pick, d__law_lists, d__law_same, d__law_over, d__law_beside, d__law_around, d__law_rim, d__law_four, d__law_points, d__law_boxed, d__law_room, d__law_nook, d__law_hall, d__law_hand_right, d__law_ground_right, d__law_right, d_law]
abbrev DD (K : PySem.W.Frag) (gd : Nat → FuncData) : Prop := ∀ (j : Nat) (d : He.DefD), fnl[j]? = some d → FunD K d.name d.qual d.params d.body d.scope (d.dvs K) (d.kws K) (He.fAd K d.at_) (gd j)
def fxl_0 : List Fx := [.a (.glo "pushed"), .a (.glo "within"), .a (.glo "table_of"), .a (.glo "points_of"), .a (.glo "inner_of"), .a (.glo "rim_of"), .a (.glo "four_about"), .a (.glo "is_number"), .a (.glo "needed"), .a (.glo "plain_pair"), .a (.glo "plain_square"), .a (.glo "plain_items"), .a (.glo "plain_set"), .a (.glo "plain_room"), .a (.glo "need_room"), .a (.glo "need_pair"), .a (.glo "check_square"), .a (.glo "beside"), .a (.glo "around"), .a (.glo "rim"), .a (.glo "inner"), .a (.glo "points"), .a (.glo "about"), .a (.glo "_law_box"), .a (.glo "_law_take"), .a (.glo "_law_cells"), .a (.glo "_law_of"), .a (.glo "_law_pick"), .a (.glo "_law_lists"), .a (.glo "_law_same"), .a (.glo "_law_over"), .a (.glo "_law_beside"), .a (.glo "_law_around"), .a (.glo "_law_rim"), .a (.glo "_law_four"), .a (.glo "_law_points"), .a (.glo "_law_boxed"), .a (.glo "_law_room"), .a (.glo "_law_nook"), .a (.glo "_law_hall")]
def fxl_1 : List Fx := [.a (.glo "_law_hand_right"), .a (.glo "_law_ground_right"), .a (.glo "_law_right"), .a (.glo "law"), .a (.free "abs"), .a (.free "all"), .a (.free "any"), .a (.free "bool"), .a (.free "enumerate"), .a (.free "int"), .a (.free "isinstance"), .a (.free "len"), .a (.free "list"), .a (.free "max"), .a (.free "min"), .a (.free "range"), .a (.free "set"), .a (.free "sorted"), .a (.free "str"), .a (.free "tuple"), .a (.free "zip"), .con "SIDES" (.kt [(.kt [(.int (-1)), (.int 0)]), (.kt [(.int 0), (.int (-1))]), (.kt [(.int 0), (.int 1)]), (.kt [(.int 1), (.int 0)])]), .con "AROUND" (.kt [(.kt [(.int (-1)), (.int (-1))]), (.kt [(.int (-1)), (.int 0)]), (.kt [(.int (-1)), (.int 1)]), (.kt [(.int 0), (.int (-1))]), (.kt [(.int 0), (.int 1)]), (.kt [(.int 1), (.int (-1))]), (.kt [(.int 1), (.int 0)]), (.kt [(.int 1), (.int 1)])])]
def fxl : List Fx := fxl_0 ++ fxl_1
theorem gq_0 (K : PySem.W.Frag) : gFn K 0 = He.fAd K ("pushed", none) := rfl
theorem pq_0 (gd : Nat → FuncData) : gdn gd 0 = gd 0 := rfl
theorem ff_pushed {K : PySem.W.Frag} {gd : Nat → FuncData} (D : DD K gd) : Fun K "pushed" "pushed" s_pushed (He.fAd K ("pushed", none)) (gd 0) := fun_of (D 0 d_pushed rfl)
theorem fb_pushed {K : PySem.W.Frag} {f : Addr} {fd : FuncData} (F : Fun K "pushed" "pushed" s_pushed f fd) : Binds K fd P_pushed [] := F.binds (ps := P_pushed) fun _ _ _ _ _ _ us hl => match us, hl with | [_, _], _ => rfl
theorem gq_1 (K : PySem.W.Frag) : gFn K 1 = He.fAd K ("within", none) := rfl
theorem pq_1 (gd : Nat → FuncData) : gdn gd 1 = gd 1 := rfl
theorem ff_within {K : PySem.W.Frag} {gd : Nat → FuncData} (D : DD K gd) : Fun K "within" "within" s_within (He.fAd K ("within", none)) (gd 1) := fun_of (D 1 d_within rfl)
theorem fb_within {K : PySem.W.Frag} {f : Addr} {fd : FuncData} (F : Fun K "within" "within" s_within f fd) : Binds K fd P_within [] := F.binds (ps := P_within) fun _ _ _ _ _ _ us hl => match us, hl with | [_, _], _ => rfl
theorem gq_2 (K : PySem.W.Frag) : gFn K 2 = He.fAd K ("table_of", none) := rfl
theorem pq_2 (gd : Nat → FuncData) : gdn gd 2 = gd 2 := rfl
theorem ff_table_of {K : PySem.W.Frag} {gd : Nat → FuncData} (D : DD K gd) : Fun K "table_of" "table_of" s_table_of (He.fAd K ("table_of", none)) (gd 2) := fun_of (D 2 d_table_of rfl)
theorem fb_table_of {K : PySem.W.Frag} {f : Addr} {fd : FuncData} (F : Fun K "table_of" "table_of" s_table_of f fd) : Binds K fd P_table_of [] := F.binds (ps := P_table_of) fun _ _ _ _ _ _ us hl => match us, hl with | [_], _ => rfl
theorem gq_6 (K : PySem.W.Frag) : gFn K 6 = He.fAd K ("points_of", none) := rfl
theorem pq_6 (gd : Nat → FuncData) : gdn gd 6 = gd 3 := rfl
theorem ff_points_of {K : PySem.W.Frag} {gd : Nat → FuncData} (D : DD K gd) : Fun K "points_of" "points_of" s_points_of (He.fAd K ("points_of", none)) (gd 3) := fun_of (D 3 d_points_of rfl)
theorem fb_points_of {K : PySem.W.Frag} {f : Addr} {fd : FuncData} (F : Fun K "points_of" "points_of" s_points_of f fd) : Binds K fd P_points_of [] := F.binds (ps := P_points_of) fun _ _ _ _ _ _ us hl => match us, hl with | [_], _ => rfl
theorem gq_3 (K : PySem.W.Frag) : gFn K 3 = He.fAd K ("inner_of", none) := rfl
theorem pq_3 (gd : Nat → FuncData) : gdn gd 3 = gd 4 := rfl
theorem ff_inner_of {K : PySem.W.Frag} {gd : Nat → FuncData} (D : DD K gd) : Fun K "inner_of" "inner_of" s_inner_of (He.fAd K ("inner_of", none)) (gd 4) := fun_of (D 4 d_inner_of rfl)
theorem fb_inner_of {K : PySem.W.Frag} {f : Addr} {fd : FuncData} (F : Fun K "inner_of" "inner_of" s_inner_of f fd) : Binds K fd P_inner_of [] := F.binds (ps := P_inner_of) fun _ _ _ _ _ _ us hl => match us, hl with | [_], _ => rfl
theorem gq_4 (K : PySem.W.Frag) : gFn K 4 = He.fAd K ("rim_of", none) := rfl
theorem pq_4 (gd : Nat → FuncData) : gdn gd 4 = gd 5 := rfl
theorem ff_rim_of {K : PySem.W.Frag} {gd : Nat → FuncData} (D : DD K gd) : Fun K "rim_of" "rim_of" s_rim_of (He.fAd K ("rim_of", none)) (gd 5) := fun_of (D 5 d_rim_of rfl)
theorem fb_rim_of {K : PySem.W.Frag} {f : Addr} {fd : FuncData} (F : Fun K "rim_of" "rim_of" s_rim_of f fd) : Binds K fd P_rim_of [] := F.binds (ps := P_rim_of) fun _ _ _ _ _ _ us hl => match us, hl with | [_], _ => rfl
theorem gq_5 (K : PySem.W.Frag) : gFn K 5 = He.fAd K ("four_about", none) := rfl
theorem pq_5 (gd : Nat → FuncData) : gdn gd 5 = gd 6 := rfl
theorem ff_four_about {K : PySem.W.Frag} {gd : Nat → FuncData} (D : DD K gd) : Fun K "four_about" "four_about" s_four_about (He.fAd K ("four_about", none)) (gd 6) := fun_of (D 6 d_four_about rfl)
theorem fb_four_about {K : PySem.W.Frag} {f : Addr} {fd : FuncData} (F : Fun K "four_about" "four_about" s_four_about f fd) : Binds K fd P_four_about [] := F.binds (ps := P_four_about) fun _ _ _ _ _ _ us hl => match us, hl with | [_], _ => rfl
theorem gq_7 (K : PySem.W.Frag) : gFn K 7 = He.fAd K ("is_number", none) := rfl
theorem pq_7 (gd : Nat → FuncData) : gdn gd 7 = gd 7 := rfl
theorem ff_is_number {K : PySem.W.Frag} {gd : Nat → FuncData} (D : DD K gd) : Fun K "is_number" "is_number" s_is_number (He.fAd K ("is_number", none)) (gd 7) := fun_of (D 7 d_is_number rfl)
theorem fb_is_number {K : PySem.W.Frag} {f : Addr} {fd : FuncData} (F : Fun K "is_number" "is_number" s_is_number f fd) : Binds K fd P_is_number [] := F.binds (ps := P_is_number) fun _ _ _ _ _ _ us hl => match us, hl with | [_], _ => rfl
theorem gq_8 (K : PySem.W.Frag) : gFn K 8 = He.fAd K ("needed", none) := rfl
theorem pq_8 (gd : Nat → FuncData) : gdn gd 8 = gd 8 := rfl
theorem ff_needed {K : PySem.W.Frag} {gd : Nat → FuncData} (D : DD K gd) : Fun K "needed" "needed" s_needed (He.fAd K ("needed", none)) (gd 8) := fun_of (D 8 d_needed rfl)
theorem fb_needed {K : PySem.W.Frag} {f : Addr} {fd : FuncData} (F : Fun K "needed" "needed" s_needed f fd) : Binds K fd P_needed [] := F.binds (ps := P_needed) fun _ _ _ _ _ _ us hl => match us, hl with | [_], _ => rfl
theorem gq_9 (K : PySem.W.Frag) : gFn K 9 = He.fAd K ("plain_pair", none) := rfl
theorem pq_9 (gd : Nat → FuncData) : gdn gd 9 = gd 9 := rfl
theorem ff_plain_pair {K : PySem.W.Frag} {gd : Nat → FuncData} (D : DD K gd) : Fun K "plain_pair" "plain_pair" s_plain_pair (He.fAd K ("plain_pair", none)) (gd 9) := fun_of (D 9 d_plain_pair rfl)
theorem fb_plain_pair {K : PySem.W.Frag} {f : Addr} {fd : FuncData} (F : Fun K "plain_pair" "plain_pair" s_plain_pair f fd) : Binds K fd P_plain_pair [] := F.binds (ps := P_plain_pair) fun _ _ _ _ _ _ us hl => match us, hl with | [_], _ => rfl
theorem gq_10 (K : PySem.W.Frag) : gFn K 10 = He.fAd K ("plain_square", none) := rfl
theorem pq_10 (gd : Nat → FuncData) : gdn gd 10 = gd 10 := rfl
theorem ff_plain_square {K : PySem.W.Frag} {gd : Nat → FuncData} (D : DD K gd) : Fun K "plain_square" "plain_square" s_plain_square (He.fAd K ("plain_square", none)) (gd 10) := fun_of (D 10 d_plain_square rfl)
theorem fb_plain_square {K : PySem.W.Frag} {f : Addr} {fd : FuncData} (F : Fun K "plain_square" "plain_square" s_plain_square f fd) : Binds K fd P_plain_square [] := F.binds (ps := P_plain_square) fun _ _ _ _ _ _ us hl => match us, hl with | [_], _ => rfl
theorem gq_11 (K : PySem.W.Frag) : gFn K 11 = He.fAd K ("plain_items", none) := rfl
theorem pq_11 (gd : Nat → FuncData) : gdn gd 11 = gd 11 := rfl
theorem ff_plain_items {K : PySem.W.Frag} {gd : Nat → FuncData} (D : DD K gd) : Fun K "plain_items" "plain_items" s_plain_items (He.fAd K ("plain_items", none)) (gd 11) := fun_of (D 11 d_plain_items rfl)
theorem fb_plain_items {K : PySem.W.Frag} {f : Addr} {fd : FuncData} (F : Fun K "plain_items" "plain_items" s_plain_items f fd) : Binds K fd P_plain_items [] := F.binds (ps := P_plain_items) fun _ _ _ _ _ _ us hl => match us, hl with | [_, _], _ => rfl
theorem gq_12 (K : PySem.W.Frag) : gFn K 12 = He.fAd K ("plain_set", none) := rfl
theorem pq_12 (gd : Nat → FuncData) : gdn gd 12 = gd 12 := rfl
theorem ff_plain_set {K : PySem.W.Frag} {gd : Nat → FuncData} (D : DD K gd) : Fun K "plain_set" "plain_set" s_plain_set (He.fAd K ("plain_set", none)) (gd 12) := fun_of (D 12 d_plain_set rfl)
theorem fb_plain_set {K : PySem.W.Frag} {f : Addr} {fd : FuncData} (F : Fun K "plain_set" "plain_set" s_plain_set f fd) : Binds K fd P_plain_set [] := F.binds (ps := P_plain_set) fun _ _ _ _ _ _ us hl => match us, hl with | [_, _], _ => rfl
theorem gq_13 (K : PySem.W.Frag) : gFn K 13 = He.fAd K ("plain_room", none) := rfl
theorem pq_13 (gd : Nat → FuncData) : gdn gd 13 = gd 13 := rfl
theorem ff_plain_room {K : PySem.W.Frag} {gd : Nat → FuncData} (D : DD K gd) : Fun K "plain_room" "plain_room" s_plain_room (He.fAd K ("plain_room", none)) (gd 13) := fun_of (D 13 d_plain_room rfl)
theorem fb_plain_room {K : PySem.W.Frag} {f : Addr} {fd : FuncData} (F : Fun K "plain_room" "plain_room" s_plain_room f fd) : Binds K fd P_plain_room [] := F.binds (ps := P_plain_room) fun _ _ _ _ _ _ us hl => match us, hl with | [_], _ => rfl
theorem gq_14 (K : PySem.W.Frag) : gFn K 14 = He.fAd K ("need_room", none) := rfl
theorem pq_14 (gd : Nat → FuncData) : gdn gd 14 = gd 14 := rfl
theorem ff_need_room {K : PySem.W.Frag} {gd : Nat → FuncData} (D : DD K gd) : Fun K "need_room" "need_room" s_need_room (He.fAd K ("need_room", none)) (gd 14) := fun_of (D 14 d_need_room rfl)
theorem fb_need_room {K : PySem.W.Frag} {f : Addr} {fd : FuncData} (F : Fun K "need_room" "need_room" s_need_room f fd) : Binds K fd P_need_room [] := F.binds (ps := P_need_room) fun _ _ _ _ _ _ us hl => match us, hl with | [_], _ => rfl
theorem gq_15 (K : PySem.W.Frag) : gFn K 15 = He.fAd K ("need_pair", none) := rfl
theorem pq_15 (gd : Nat → FuncData) : gdn gd 15 = gd 15 := rfl
theorem ff_need_pair {K : PySem.W.Frag} {gd : Nat → FuncData} (D : DD K gd) : Fun K "need_pair" "need_pair" s_need_pair (He.fAd K ("need_pair", none)) (gd 15) := fun_of (D 15 d_need_pair rfl)
theorem fb_need_pair {K : PySem.W.Frag} {f : Addr} {fd : FuncData} (F : Fun K "need_pair" "need_pair" s_need_pair f fd) : Binds K fd P_need_pair [] := F.binds (ps := P_need_pair) fun _ _ _ _ _ _ us hl => match us, hl with | [_], _ => rfl
theorem gq_16 (K : PySem.W.Frag) : gFn K 16 = He.fAd K ("check_square", none) := rfl
theorem pq_16 (gd : Nat → FuncData) : gdn gd 16 = gd 16 := rfl
theorem ff_check_square {K : PySem.W.Frag} {gd : Nat → FuncData} (D : DD K gd) : Fun K "check_square" "check_square" s_check_square (He.fAd K ("check_square", none)) (gd 16) := fun_of (D 16 d_check_square rfl)
theorem fb_check_square {K : PySem.W.Frag} {f : Addr} {fd : FuncData} (F : Fun K "check_square" "check_square" s_check_square f fd) : Binds K fd P_check_square [] := F.binds (ps := P_check_square) fun _ _ _ _ _ _ us hl => match us, hl with | [_, _], _ => rfl
theorem gq_17 (K : PySem.W.Frag) : gFn K 17 = He.fAd K ("beside", none) := rfl
theorem pq_17 (gd : Nat → FuncData) : gdn gd 17 = gd 17 := rfl
theorem ff_beside {K : PySem.W.Frag} {gd : Nat → FuncData} (D : DD K gd) : Fun K "beside" "beside" s_beside (He.fAd K ("beside", none)) (gd 17) := fun_of (D 17 d_beside rfl)
theorem fb_beside {K : PySem.W.Frag} {f : Addr} {fd : FuncData} (F : Fun K "beside" "beside" s_beside f fd) : Binds K fd P_beside [] := F.binds (ps := P_beside) fun _ _ _ _ _ _ us hl => match us, hl with | [_, _], _ => rfl
theorem gq_18 (K : PySem.W.Frag) : gFn K 18 = He.fAd K ("around", none) := rfl
theorem pq_18 (gd : Nat → FuncData) : gdn gd 18 = gd 18 := rfl
theorem ff_around {K : PySem.W.Frag} {gd : Nat → FuncData} (D : DD K gd) : Fun K "around" "around" s_around (He.fAd K ("around", none)) (gd 18) := fun_of (D 18 d_around rfl)
theorem fb_around {K : PySem.W.Frag} {f : Addr} {fd : FuncData} (F : Fun K "around" "around" s_around f fd) : Binds K fd P_around [] := F.binds (ps := P_around) fun _ _ _ _ _ _ us hl => match us, hl with | [_, _], _ => rfl
theorem gq_19 (K : PySem.W.Frag) : gFn K 19 = He.fAd K ("rim", none) := rfl
theorem pq_19 (gd : Nat → FuncData) : gdn gd 19 = gd 19 := rfl
theorem ff_rim {K : PySem.W.Frag} {gd : Nat → FuncData} (D : DD K gd) : Fun K "rim" "rim" s_rim (He.fAd K ("rim", none)) (gd 19) := fun_of (D 19 d_rim rfl)
theorem fb_rim {K : PySem.W.Frag} {f : Addr} {fd : FuncData} (F : Fun K "rim" "rim" s_rim f fd) : Binds K fd P_rim [] := F.binds (ps := P_rim) fun _ _ _ _ _ _ us hl => match us, hl with | [_], _ => rfl
theorem gq_20 (K : PySem.W.Frag) : gFn K 20 = He.fAd K ("inner", none) := rfl
theorem pq_20 (gd : Nat → FuncData) : gdn gd 20 = gd 20 := rfl
theorem ff_inner {K : PySem.W.Frag} {gd : Nat → FuncData} (D : DD K gd) : Fun K "inner" "inner" s_inner (He.fAd K ("inner", none)) (gd 20) := fun_of (D 20 d_inner rfl)
theorem fb_inner {K : PySem.W.Frag} {f : Addr} {fd : FuncData} (F : Fun K "inner" "inner" s_inner f fd) : Binds K fd P_inner [] := F.binds (ps := P_inner) fun _ _ _ _ _ _ us hl => match us, hl with | [_], _ => rfl
theorem gq_21 (K : PySem.W.Frag) : gFn K 21 = He.fAd K ("points", none) := rfl
theorem pq_21 (gd : Nat → FuncData) : gdn gd 21 = gd 21 := rfl
theorem ff_points {K : PySem.W.Frag} {gd : Nat → FuncData} (D : DD K gd) : Fun K "points" "points" s_points (He.fAd K ("points", none)) (gd 21) := fun_of (D 21 d_points rfl)
theorem fb_points {K : PySem.W.Frag} {f : Addr} {fd : FuncData} (F : Fun K "points" "points" s_points f fd) : Binds K fd P_points [] := F.binds (ps := P_points) fun _ _ _ _ _ _ us hl => match us, hl with | [_], _ => rfl
theorem gq_22 (K : PySem.W.Frag) : gFn K 22 = He.fAd K ("about", none) := rfl
theorem pq_22 (gd : Nat → FuncData) : gdn gd 22 = gd 22 := rfl
theorem ff_about {K : PySem.W.Frag} {gd : Nat → FuncData} (D : DD K gd) : Fun K "about" "about" s_about (He.fAd K ("about", none)) (gd 22) := fun_of (D 22 d_about rfl)
theorem fb_about {K : PySem.W.Frag} {f : Addr} {fd : FuncData} (F : Fun K "about" "about" s_about f fd) : Binds K fd P_about [] := F.binds (ps := P_about) fun _ _ _ _ _ _ us hl => match us, hl with | [_, _], _ => rfl
theorem gq_23 (K : PySem.W.Frag) : gFn K 23 = He.fAd K ("_law_box", none) := rfl
theorem pq_23 (gd : Nat → FuncData) : gdn gd 23 = gd 23 := rfl
theorem ff__law_box {K : PySem.W.Frag} {gd : Nat → FuncData} (D : DD K gd) : Fun K "_law_box" "_law_box" s__law_box (He.fAd K ("_law_box", none)) (gd 23) := fun_of (D 23 d__law_box rfl)
theorem fb__law_box {K : PySem.W.Frag} {f : Addr} {fd : FuncData} (F : Fun K "_law_box" "_law_box" s__law_box f fd) : Binds K fd P__law_box [] := F.binds (ps := P__law_box) fun _ _ _ _ _ _ us hl => match us, hl with | [_, _], _ => rfl
theorem gq_24 (K : PySem.W.Frag) : gFn K 24 = He.fAd K ("_law_take", none) := rfl
theorem pq_24 (gd : Nat → FuncData) : gdn gd 24 = gd 24 := rfl
theorem ff__law_take {K : PySem.W.Frag} {gd : Nat → FuncData} (D : DD K gd) : Fun K "_law_take" "_law_take" s__law_take (He.fAd K ("_law_take", none)) (gd 24) := fun_of (D 24 d__law_take rfl)
theorem fb__law_take {K : PySem.W.Frag} {f : Addr} {fd : FuncData} (F : Fun K "_law_take" "_law_take" s__law_take f fd) : Binds K fd P__law_take [] := F.binds (ps := P__law_take) fun _ _ _ _ _ _ us hl => match us, hl with | [_, _], _ => rfl
theorem gq_25 (K : PySem.W.Frag) : gFn K 25 = He.fAd K ("_law_cells", none) := rfl
theorem pq_25 (gd : Nat → FuncData) : gdn gd 25 = gd 25 := rfl
theorem ff__law_cells {K : PySem.W.Frag} {gd : Nat → FuncData} (D : DD K gd) : Fun K "_law_cells" "_law_cells" s__law_cells (He.fAd K ("_law_cells", none)) (gd 25) := fun_of (D 25 d__law_cells rfl)
theorem fb__law_cells {K : PySem.W.Frag} {f : Addr} {fd : FuncData} (F : Fun K "_law_cells" "_law_cells" s__law_cells f fd) : Binds K fd P__law_cells [] := F.binds (ps := P__law_cells) fun _ _ _ _ _ _ us hl => match us, hl with | [_, _], _ => rfl
theorem gq_26 (K : PySem.W.Frag) : gFn K 26 = He.fAd K ("_law_of", none) := rfl
theorem pq_26 (gd : Nat → FuncData) : gdn gd 26 = gd 26 := rfl
theorem ff__law_of {K : PySem.W.Frag} {gd : Nat → FuncData} (D : DD K gd) : Fun K "_law_of" "_law_of" s__law_of (He.fAd K ("_law_of", none)) (gd 26) := fun_of (D 26 d__law_of rfl)
theorem fb__law_of {K : PySem.W.Frag} {f : Addr} {fd : FuncData} (F : Fun K "_law_of" "_law_of" s__law_of f fd) : Binds K fd P__law_of [] := F.binds (ps := P__law_of) fun _ _ _ _ _ _ us hl => match us, hl with | [_, _], _ => rfl
theorem gq_27 (K : PySem.W.Frag) : gFn K 27 = He.fAd K ("_law_pick", none) := rfl
theorem pq_27 (gd : Nat → FuncData) : gdn gd 27 = gd 27 := rfl
theorem ff__law_pick {K : PySem.W.Frag} {gd : Nat → FuncData} (D : DD K gd) : Fun K "_law_pick" "_law_pick" s__law_pick (He.fAd K ("_law_pick", none)) (gd 27) := fun_of (D 27 d__law_pick rfl)
theorem fb__law_pick {K : PySem.W.Frag} {f : Addr} {fd : FuncData} (F : Fun K "_law_pick" "_law_pick" s__law_pick f fd) : Binds K fd P__law_pick [] := F.binds (ps := P__law_pick) fun _ _ _ _ _ _ us hl => match us, hl with | [_, _, _], _ => rfl
theorem gq_28 (K : PySem.W.Frag) : gFn K 28 = He.fAd K ("_law_lists", none) := rfl
theorem pq_28 (gd : Nat → FuncData) : gdn gd 28 = gd 28 := rfl
theorem ff__law_lists {K : PySem.W.Frag} {gd : Nat → FuncData} (D : DD K gd) : Fun K "_law_lists" "_law_lists" s__law_lists (He.fAd K ("_law_lists", none)) (gd 28) := fun_of (D 28 d__law_lists rfl)
theorem fb__law_lists {K : PySem.W.Frag} {f : Addr} {fd : FuncData} (F : Fun K "_law_lists" "_law_lists" s__law_lists f fd) : Binds K fd P__law_lists [] := F.binds (ps := P__law_lists) fun _ _ _ _ _ _ us hl => match us, hl with | [_], _ => rfl
theorem gq_29 (K : PySem.W.Frag) : gFn K 29 = He.fAd K ("_law_same", none) := rfl
theorem pq_29 (gd : Nat → FuncData) : gdn gd 29 = gd 29 := rfl
theorem ff__law_same {K : PySem.W.Frag} {gd : Nat → FuncData} (D : DD K gd) : Fun K "_law_same" "_law_same" s__law_same (He.fAd K ("_law_same", none)) (gd 29) := fun_of (D 29 d__law_same rfl)
theorem fb__law_same {K : PySem.W.Frag} {f : Addr} {fd : FuncData} (F : Fun K "_law_same" "_law_same" s__law_same f fd) : Binds K fd P__law_same [] := F.binds (ps := P__law_same) fun _ _ _ _ _ _ us hl => match us, hl with | [_, _], _ => rfl
theorem gq_30 (K : PySem.W.Frag) : gFn K 30 = He.fAd K ("_law_over", none) := rfl
theorem pq_30 (gd : Nat → FuncData) : gdn gd 30 = gd 30 := rfl
theorem ff__law_over {K : PySem.W.Frag} {gd : Nat → FuncData} (D : DD K gd) : Fun K "_law_over" "_law_over" s__law_over (He.fAd K ("_law_over", none)) (gd 30) := fun_of (D 30 d__law_over rfl)
theorem fb__law_over {K : PySem.W.Frag} {f : Addr} {fd : FuncData} (F : Fun K "_law_over" "_law_over" s__law_over f fd) : Binds K fd P__law_over [] := F.binds (ps := P__law_over) fun _ _ _ _ _ _ us hl => match us, hl with | [_, _], _ => rfl
theorem gq_31 (K : PySem.W.Frag) : gFn K 31 = He.fAd K ("_law_beside", none) := rfl
theorem pq_31 (gd : Nat → FuncData) : gdn gd 31 = gd 31 := rfl
theorem ff__law_beside {K : PySem.W.Frag} {gd : Nat → FuncData} (D : DD K gd) : Fun K "_law_beside" "_law_beside" s__law_beside (He.fAd K ("_law_beside", none)) (gd 31) := fun_of (D 31 d__law_beside rfl)
theorem fb__law_beside {K : PySem.W.Frag} {f : Addr} {fd : FuncData} (F : Fun K "_law_beside" "_law_beside" s__law_beside f fd) : Binds K fd P__law_beside [] := F.binds (ps := P__law_beside) fun _ _ _ _ _ _ us hl => match us, hl with | [_], _ => rfl
theorem gq_32 (K : PySem.W.Frag) : gFn K 32 = He.fAd K ("_law_around", none) := rfl
theorem pq_32 (gd : Nat → FuncData) : gdn gd 32 = gd 32 := rfl
theorem ff__law_around {K : PySem.W.Frag} {gd : Nat → FuncData} (D : DD K gd) : Fun K "_law_around" "_law_around" s__law_around (He.fAd K ("_law_around", none)) (gd 32) := fun_of (D 32 d__law_around rfl)
theorem fb__law_around {K : PySem.W.Frag} {f : Addr} {fd : FuncData} (F : Fun K "_law_around" "_law_around" s__law_around f fd) : Binds K fd P__law_around [] := F.binds (ps := P__law_around) fun _ _ _ _ _ _ us hl => match us, hl with | [_], _ => rfl
theorem gq_33 (K : PySem.W.Frag) : gFn K 33 = He.fAd K ("_law_rim", none) := rfl
theorem pq_33 (gd : Nat → FuncData) : gdn gd 33 = gd 33 := rfl
theorem ff__law_rim {K : PySem.W.Frag} {gd : Nat → FuncData} (D : DD K gd) : Fun K "_law_rim" "_law_rim" s__law_rim (He.fAd K ("_law_rim", none)) (gd 33) := fun_of (D 33 d__law_rim rfl)
theorem fb__law_rim {K : PySem.W.Frag} {f : Addr} {fd : FuncData} (F : Fun K "_law_rim" "_law_rim" s__law_rim f fd) : Binds K fd P__law_rim [] := F.binds (ps := P__law_rim) fun _ _ _ _ _ _ us hl => match us, hl with | [_], _ => rfl
theorem gq_34 (K : PySem.W.Frag) : gFn K 34 = He.fAd K ("_law_four", none) := rfl
theorem pq_34 (gd : Nat → FuncData) : gdn gd 34 = gd 34 := rfl
theorem ff__law_four {K : PySem.W.Frag} {gd : Nat → FuncData} (D : DD K gd) : Fun K "_law_four" "_law_four" s__law_four (He.fAd K ("_law_four", none)) (gd 34) := fun_of (D 34 d__law_four rfl)
theorem fb__law_four {K : PySem.W.Frag} {f : Addr} {fd : FuncData} (F : Fun K "_law_four" "_law_four" s__law_four f fd) : Binds K fd P__law_four [] := F.binds (ps := P__law_four) fun _ _ _ _ _ _ us hl => match us, hl with | [_], _ => rfl
theorem gq_35 (K : PySem.W.Frag) : gFn K 35 = He.fAd K ("_law_points", none) := rfl
theorem pq_35 (gd : Nat → FuncData) : gdn gd 35 = gd 35 := rfl
theorem ff__law_points {K : PySem.W.Frag} {gd : Nat → FuncData} (D : DD K gd) : Fun K "_law_points" "_law_points" s__law_points (He.fAd K ("_law_points", none)) (gd 35) := fun_of (D 35 d__law_points rfl)
theorem fb__law_points {K : PySem.W.Frag} {f : Addr} {fd : FuncData} (F : Fun K "_law_points" "_law_points" s__law_points f fd) : Binds K fd P__law_points [] := F.binds (ps := P__law_points) fun _ _ _ _ _ _ us hl => match us, hl with | [_], _ => rfl
theorem gq_36 (K : PySem.W.Frag) : gFn K 36 = He.fAd K ("_law_boxed", none) := rfl
theorem pq_36 (gd : Nat → FuncData) : gdn gd 36 = gd 36 := rfl
theorem ff__law_boxed {K : PySem.W.Frag} {gd : Nat → FuncData} (D : DD K gd) : Fun K "_law_boxed" "_law_boxed" s__law_boxed (He.fAd K ("_law_boxed", none)) (gd 36) := fun_of (D 36 d__law_boxed rfl)
theorem fb__law_boxed {K : PySem.W.Frag} {f : Addr} {fd : FuncData} (F : Fun K "_law_boxed" "_law_boxed" s__law_boxed f fd) : Binds K fd P__law_boxed [] := F.binds (ps := P__law_boxed) fun _ _ _ _ _ _ us hl => match us, hl with | [_, _], _ => rfl
theorem gq_37 (K : PySem.W.Frag) : gFn K 37 = He.fAd K ("_law_room", none) := rfl
theorem pq_37 (gd : Nat → FuncData) : gdn gd 37 = gd 37 := rfl
theorem ff__law_room {K : PySem.W.Frag} {gd : Nat → FuncData} (D : DD K gd) : Fun K "_law_room" "_law_room" s__law_room (He.fAd K ("_law_room", none)) (gd 37) := fun_of (D 37 d__law_room rfl)
theorem fb__law_room {K : PySem.W.Frag} {f : Addr} {fd : FuncData} (F : Fun K "_law_room" "_law_room" s__law_room f fd) : Binds K fd P__law_room [] := F.binds (ps := P__law_room) fun _ _ _ _ _ _ us hl => match us, hl with | [_, _], _ => rfl
theorem gq_38 (K : PySem.W.Frag) : gFn K 38 = He.fAd K ("_law_nook", none) := rfl
theorem pq_38 (gd : Nat → FuncData) : gdn gd 38 = gd 38 := rfl
theorem ff__law_nook {K : PySem.W.Frag} {gd : Nat → FuncData} (D : DD K gd) : Fun K "_law_nook" "_law_nook" s__law_nook (He.fAd K ("_law_nook", none)) (gd 38) := fun_of (D 38 d__law_nook rfl)
theorem fb__law_nook {K : PySem.W.Frag} {f : Addr} {fd : FuncData} (F : Fun K "_law_nook" "_law_nook" s__law_nook f fd) : Binds K fd P__law_nook [] := F.binds (ps := P__law_nook) fun _ _ _ _ _ _ us hl => match us, hl with | [], _ => rfl
theorem gq_39 (K : PySem.W.Frag) : gFn K 39 = He.fAd K ("_law_hall", none) := rfl
theorem pq_39 (gd : Nat → FuncData) : gdn gd 39 = gd 39 := rfl
theorem ff__law_hall {K : PySem.W.Frag} {gd : Nat → FuncData} (D : DD K gd) : Fun K "_law_hall" "_law_hall" s__law_hall (He.fAd K ("_law_hall", none)) (gd 39) := fun_of (D 39 d__law_hall rfl)
theorem fb__law_hall {K : PySem.W.Frag} {f : Addr} {fd : FuncData} (F : Fun K "_law_hall" "_law_hall" s__law_hall f fd) : Binds K fd P__law_hall [] := F.binds (ps := P__law_hall) fun _ _ _ _ _ _ us hl => match us, hl with | [], _ => rfl
theorem gq_40 (K : PySem.W.Frag) : gFn K 40 = He.fAd K ("_law_hand_right", none) := rfl
theorem pq_40 (gd : Nat → FuncData) : gdn gd 40 = gd 40 := rfl
theorem ff__law_hand_right {K : PySem.W.Frag} {gd : Nat → FuncData} (D : DD K gd) : Fun K "_law_hand_right" "_law_hand_right" s__law_hand_right (He.fAd K ("_law_hand_right", none)) (gd 40) := fun_of (D 40 d__law_hand_right rfl)
theorem fb__law_hand_right {K : PySem.W.Frag} {f : Addr} {fd : FuncData} (F : Fun K "_law_hand_right" "_law_hand_right" s__law_hand_right f fd) : Binds K fd P__law_hand_right [] := F.binds (ps := P__law_hand_right) fun _ _ _ _ _ _ us hl => match us, hl with | [], _ => rfl
theorem gq_41 (K : PySem.W.Frag) : gFn K 41 = He.fAd K ("_law_ground_right", none) := rfl
theorem pq_41 (gd : Nat → FuncData) : gdn gd 41 = gd 41 := rfl
theorem ff__law_ground_right {K : PySem.W.Frag} {gd : Nat → FuncData} (D : DD K gd) : Fun K "_law_ground_right" "_law_ground_right" s__law_ground_right (He.fAd K ("_law_ground_right", none)) (gd 41) := fun_of (D 41 d__law_ground_right rfl)
theorem fb__law_ground_right {K : PySem.W.Frag} {f : Addr} {fd : FuncData} (F : Fun K "_law_ground_right" "_law_ground_right" s__law_ground_right f fd) : Binds K fd P__law_ground_right [] := F.binds (ps := P__law_ground_right) fun _ _ _ _ _ _ us hl => match us, hl with | [_, _], _ => rfl
theorem gq_42 (K : PySem.W.Frag) : gFn K 42 = He.fAd K ("_law_right", none) := rfl
theorem pq_42 (gd : Nat → FuncData) : gdn gd 42 = gd 42 := rfl
theorem ff__law_right {K : PySem.W.Frag} {gd : Nat → FuncData} (D : DD K gd) : Fun K "_law_right" "_law_right" s__law_right (He.fAd K ("_law_right", none)) (gd 42) := fun_of (D 42 d__law_right rfl)
theorem fb__law_right {K : PySem.W.Frag} {f : Addr} {fd : FuncData} (F : Fun K "_law_right" "_law_right" s__law_right f fd) : Binds K fd P__law_right [] := F.binds (ps := P__law_right) fun _ _ _ _ _ _ us hl => match us, hl with | [_], _ => rfl
theorem gq_43 (K : PySem.W.Frag) : gFn K 43 = He.fAd K ("law", none) := rfl
theorem pq_43 (gd : Nat → FuncData) : gdn gd 43 = gd 43 := rfl
theorem ff_law {K : PySem.W.Frag} {gd : Nat → FuncData} (D : DD K gd) : Fun K "law" "law" s_law (He.fAd K ("law", none)) (gd 43) := fun_of (D 43 d_law rfl)
theorem fb_law {K : PySem.W.Frag} {f : Addr} {fd : FuncData} (F : Fun K "law" "law" s_law f fd) : Binds K fd P_law [] := F.binds (ps := P_law) fun _ _ _ _ _ _ us hl => match us, hl with | [_], _ => rfl
theorem tx_mk {K : PySem.W.Frag} {h : Heap} {mg : Str → Option Value} (c : SaysX fxl fnl K) (X : K.In h) (Gn : h.Ns mainGlobals mg) : ∃ gd : Nat → FuncData, Tx mg ⟨K, gFn K, gCn K, gfn⟩ (gdn gd) := by
  obtain ⟨gd, D⟩ := c.defs
  exact ⟨gd, {
    F_pushed := at_fun (gq_0 K) (pq_0 gd) (ff_pushed D), b_pushed := at_binds (pq_0 gd) (fb_pushed (ff_pushed D)),
    m_pushed := at_mg (gq_0 K) (glo_x X Gn (c.fact 0 (f := .a (.glo "pushed")) rfl)),
    F_within := at_fun (gq_1 K) (pq_1 gd) (ff_within D), b_within := at_binds (pq_1 gd) (fb_within (ff_within D)),
    m_within := at_mg (gq_1 K) (glo_x X Gn (c.fact 1 (f := .a (.glo "within")) rfl)),
    F_table_of := at_fun (gq_2 K) (pq_2 gd) (ff_table_of D), b_table_of := at_binds (pq_2 gd) (fb_table_of (ff_table_of D)),
    m_table_of := at_mg (gq_2 K) (glo_x X Gn (c.fact 2 (f := .a (.glo "table_of")) rfl)),
    F_points_of := at_fun (gq_6 K) (pq_6 gd) (ff_points_of D), b_points_of := at_binds (pq_6 gd) (fb_points_of (ff_points_of D)),
    m_points_of := at_mg (gq_6 K) (glo_x X Gn (c.fact 3 (f := .a (.glo "points_of")) rfl)),
    F_inner_of := at_fun (gq_3 K) (pq_3 gd) (ff_inner_of D), b_inner_of := at_binds (pq_3 gd) (fb_inner_of (ff_inner_of D)),
    m_inner_of := at_mg (gq_3 K) (glo_x X Gn (c.fact 4 (f := .a (.glo "inner_of")) rfl)),
    F_rim_of := at_fun (gq_4 K) (pq_4 gd) (ff_rim_of D), b_rim_of := at_binds (pq_4 gd) (fb_rim_of (ff_rim_of D)),
    m_rim_of := at_mg (gq_4 K) (glo_x X Gn (c.fact 5 (f := .a (.glo "rim_of")) rfl)),
    F_four_about := at_fun (gq_5 K) (pq_5 gd) (ff_four_about D), b_four_about := at_binds (pq_5 gd) (fb_four_about (ff_four_about D)),
    m_four_about := at_mg (gq_5 K) (glo_x X Gn (c.fact 6 (f := .a (.glo "four_about")) rfl)),
    F_is_number := at_fun (gq_7 K) (pq_7 gd) (ff_is_number D), b_is_number := at_binds (pq_7 gd) (fb_is_number (ff_is_number D)),
    m_is_number := at_mg (gq_7 K) (glo_x X Gn (c.fact 7 (f := .a (.glo "is_number")) rfl)),
    F_needed := at_fun (gq_8 K) (pq_8 gd) (ff_needed D), b_needed := at_binds (pq_8 gd) (fb_needed (ff_needed D)),
    m_needed := at_mg (gq_8 K) (glo_x X Gn (c.fact 8 (f := .a (.glo "needed")) rfl)),
    F_plain_pair := at_fun (gq_9 K) (pq_9 gd) (ff_plain_pair D), b_plain_pair := at_binds (pq_9 gd) (fb_plain_pair (ff_plain_pair D)),
    m_plain_pair := at_mg (gq_9 K) (glo_x X Gn (c.fact 9 (f := .a (.glo "plain_pair")) rfl)),
    F_plain_square := at_fun (gq_10 K) (pq_10 gd) (ff_plain_square D), b_plain_square := at_binds (pq_10 gd) (fb_plain_square (ff_plain_square D)),
    m_plain_square := at_mg (gq_10 K) (glo_x X Gn (c.fact 10 (f := .a (.glo "plain_square")) rfl)),
    F_plain_items := at_fun (gq_11 K) (pq_11 gd) (ff_plain_items D), b_plain_items := at_binds (pq_11 gd) (fb_plain_items (ff_plain_items D)),
    m_plain_items := at_mg (gq_11 K) (glo_x X Gn (c.fact 11 (f := .a (.glo "plain_items")) rfl)),
    F_plain_set := at_fun (gq_12 K) (pq_12 gd) (ff_plain_set D), b_plain_set := at_binds (pq_12 gd) (fb_plain_set (ff_plain_set D)),
    m_plain_set := at_mg (gq_12 K) (glo_x X Gn (c.fact 12 (f := .a (.glo "plain_set")) rfl)),
    F_plain_room := at_fun (gq_13 K) (pq_13 gd) (ff_plain_room D), b_plain_room := at_binds (pq_13 gd) (fb_plain_room (ff_plain_room D)),
    m_plain_room := at_mg (gq_13 K) (glo_x X Gn (c.fact 13 (f := .a (.glo "plain_room")) rfl)),
    F_need_room := at_fun (gq_14 K) (pq_14 gd) (ff_need_room D), b_need_room := at_binds (pq_14 gd) (fb_need_room (ff_need_room D)),
    m_need_room := at_mg (gq_14 K) (glo_x X Gn (c.fact 14 (f := .a (.glo "need_room")) rfl)),
    F_need_pair := at_fun (gq_15 K) (pq_15 gd) (ff_need_pair D), b_need_pair := at_binds (pq_15 gd) (fb_need_pair (ff_need_pair D)),
    m_need_pair := at_mg (gq_15 K) (glo_x X Gn (c.fact 15 (f := .a (.glo "need_pair")) rfl)),
    F_check_square := at_fun (gq_16 K) (pq_16 gd) (ff_check_square D), b_check_square := at_binds (pq_16 gd) (fb_check_square (ff_check_square D)),
    m_check_square := at_mg (gq_16 K) (glo_x X Gn (c.fact 16 (f := .a (.glo "check_square")) rfl)),
    F_beside := at_fun (gq_17 K) (pq_17 gd) (ff_beside D), b_beside := at_binds (pq_17 gd) (fb_beside (ff_beside D)),
    m_beside := at_mg (gq_17 K) (glo_x X Gn (c.fact 17 (f := .a (.glo "beside")) rfl)),
    F_around := at_fun (gq_18 K) (pq_18 gd) (ff_around D), b_around := at_binds (pq_18 gd) (fb_around (ff_around D)),
    m_around := at_mg (gq_18 K) (glo_x X Gn (c.fact 18 (f := .a (.glo "around")) rfl)),
    F_rim := at_fun (gq_19 K) (pq_19 gd) (ff_rim D), b_rim := at_binds (pq_19 gd) (fb_rim (ff_rim D)),
    m_rim := at_mg (gq_19 K) (glo_x X Gn (c.fact 19 (f := .a (.glo "rim")) rfl)),
    F_inner := at_fun (gq_20 K) (pq_20 gd) (ff_inner D), b_inner := at_binds (pq_20 gd) (fb_inner (ff_inner D)),
    m_inner := at_mg (gq_20 K) (glo_x X Gn (c.fact 20 (f := .a (.glo "inner")) rfl)),
    F_points := at_fun (gq_21 K) (pq_21 gd) (ff_points D), b_points := at_binds (pq_21 gd) (fb_points (ff_points D)),
    m_points := at_mg (gq_21 K) (glo_x X Gn (c.fact 21 (f := .a (.glo "points")) rfl)),
    F_about := at_fun (gq_22 K) (pq_22 gd) (ff_about D), b_about := at_binds (pq_22 gd) (fb_about (ff_about D)),
    m_about := at_mg (gq_22 K) (glo_x X Gn (c.fact 22 (f := .a (.glo "about")) rfl)),
    F__law_box := at_fun (gq_23 K) (pq_23 gd) (ff__law_box D), b__law_box := at_binds (pq_23 gd) (fb__law_box (ff__law_box D)),
    m__law_box := at_mg (gq_23 K) (glo_x X Gn (c.fact 23 (f := .a (.glo "_law_box")) rfl)),
    F__law_take := at_fun (gq_24 K) (pq_24 gd) (ff__law_take D), b__law_take := at_binds (pq_24 gd) (fb__law_take (ff__law_take D)),
    m__law_take := at_mg (gq_24 K) (glo_x X Gn (c.fact 24 (f := .a (.glo "_law_take")) rfl)),
    F__law_cells := at_fun (gq_25 K) (pq_25 gd) (ff__law_cells D), b__law_cells := at_binds (pq_25 gd) (fb__law_cells (ff__law_cells D)),
    m__law_cells := at_mg (gq_25 K) (glo_x X Gn (c.fact 25 (f := .a (.glo "_law_cells")) rfl)),
    F__law_of := at_fun (gq_26 K) (pq_26 gd) (ff__law_of D), b__law_of := at_binds (pq_26 gd) (fb__law_of (ff__law_of D)),
    m__law_of := at_mg (gq_26 K) (glo_x X Gn (c.fact 26 (f := .a (.glo "_law_of")) rfl)),
    F__law_pick := at_fun (gq_27 K) (pq_27 gd) (ff__law_pick D), b__law_pick := at_binds (pq_27 gd) (fb__law_pick (ff__law_pick D)),
    m__law_pick := at_mg (gq_27 K) (glo_x X Gn (c.fact 27 (f := .a (.glo "_law_pick")) rfl)),
    F__law_lists := at_fun (gq_28 K) (pq_28 gd) (ff__law_lists D), b__law_lists := at_binds (pq_28 gd) (fb__law_lists (ff__law_lists D)),
    m__law_lists := at_mg (gq_28 K) (glo_x X Gn (c.fact 28 (f := .a (.glo "_law_lists")) rfl)),
    F__law_same := at_fun (gq_29 K) (pq_29 gd) (ff__law_same D), b__law_same := at_binds (pq_29 gd) (fb__law_same (ff__law_same D)),
    m__law_same := at_mg (gq_29 K) (glo_x X Gn (c.fact 29 (f := .a (.glo "_law_same")) rfl)),
    F__law_over := at_fun (gq_30 K) (pq_30 gd) (ff__law_over D), b__law_over := at_binds (pq_30 gd) (fb__law_over (ff__law_over D)),
    m__law_over := at_mg (gq_30 K) (glo_x X Gn (c.fact 30 (f := .a (.glo "_law_over")) rfl)),
    F__law_beside := at_fun (gq_31 K) (pq_31 gd) (ff__law_beside D), b__law_beside := at_binds (pq_31 gd) (fb__law_beside (ff__law_beside D)),
    m__law_beside := at_mg (gq_31 K) (glo_x X Gn (c.fact 31 (f := .a (.glo "_law_beside")) rfl)),
    F__law_around := at_fun (gq_32 K) (pq_32 gd) (ff__law_around D), b__law_around := at_binds (pq_32 gd) (fb__law_around (ff__law_around D)),
    m__law_around := at_mg (gq_32 K) (glo_x X Gn (c.fact 32 (f := .a (.glo "_law_around")) rfl)),
    F__law_rim := at_fun (gq_33 K) (pq_33 gd) (ff__law_rim D), b__law_rim := at_binds (pq_33 gd) (fb__law_rim (ff__law_rim D)),
    m__law_rim := at_mg (gq_33 K) (glo_x X Gn (c.fact 33 (f := .a (.glo "_law_rim")) rfl)),
    F__law_four := at_fun (gq_34 K) (pq_34 gd) (ff__law_four D), b__law_four := at_binds (pq_34 gd) (fb__law_four (ff__law_four D)),
    m__law_four := at_mg (gq_34 K) (glo_x X Gn (c.fact 34 (f := .a (.glo "_law_four")) rfl)),
    F__law_points := at_fun (gq_35 K) (pq_35 gd) (ff__law_points D), b__law_points := at_binds (pq_35 gd) (fb__law_points (ff__law_points D)),
    m__law_points := at_mg (gq_35 K) (glo_x X Gn (c.fact 35 (f := .a (.glo "_law_points")) rfl)),
    F__law_boxed := at_fun (gq_36 K) (pq_36 gd) (ff__law_boxed D), b__law_boxed := at_binds (pq_36 gd) (fb__law_boxed (ff__law_boxed D)),
    m__law_boxed := at_mg (gq_36 K) (glo_x X Gn (c.fact 36 (f := .a (.glo "_law_boxed")) rfl)),
    F__law_room := at_fun (gq_37 K) (pq_37 gd) (ff__law_room D), b__law_room := at_binds (pq_37 gd) (fb__law_room (ff__law_room D)),
    m__law_room := at_mg (gq_37 K) (glo_x X Gn (c.fact 37 (f := .a (.glo "_law_room")) rfl)),
    F__law_nook := at_fun (gq_38 K) (pq_38 gd) (ff__law_nook D), b__law_nook := at_binds (pq_38 gd) (fb__law_nook (ff__law_nook D)),
    m__law_nook := at_mg (gq_38 K) (glo_x X Gn (c.fact 38 (f := .a (.glo "_law_nook")) rfl)),
    F__law_hall := at_fun (gq_39 K) (pq_39 gd) (ff__law_hall D), b__law_hall := at_binds (pq_39 gd) (fb__law_hall (ff__law_hall D)),
    m__law_hall := at_mg (gq_39 K) (glo_x X Gn (c.fact 39 (f := .a (.glo "_law_hall")) rfl)),
    F__law_hand_right := at_fun (gq_40 K) (pq_40 gd) (ff__law_hand_right D), b__law_hand_right := at_binds (pq_40 gd) (fb__law_hand_right (ff__law_hand_right D)),
    m__law_hand_right := at_mg (gq_40 K) (glo_x X Gn (c.fact 40 (f := .a (.glo "_law_hand_right")) rfl)),
    F__law_ground_right := at_fun (gq_41 K) (pq_41 gd) (ff__law_ground_right D), b__law_ground_right := at_binds (pq_41 gd) (fb__law_ground_right (ff__law_ground_right D)),
    m__law_ground_right := at_mg (gq_41 K) (glo_x X Gn (c.fact 41 (f := .a (.glo "_law_ground_right")) rfl)),
    F__law_right := at_fun (gq_42 K) (pq_42 gd) (ff__law_right D), b__law_right := at_binds (pq_42 gd) (fb__law_right (ff__law_right D)),
    m__law_right := at_mg (gq_42 K) (glo_x X Gn (c.fact 42 (f := .a (.glo "_law_right")) rfl)),
    F_law := at_fun (gq_43 K) (pq_43 gd) (ff_law D), b_law := at_binds (pq_43 gd) (fb_law (ff_law D)),
    m_law := at_mg (gq_43 K) (glo_x X Gn (c.fact 43 (f := .a (.glo "law")) rfl)),
    z_abs := free_x X Gn (c.fact 44 (f := .a (.free "abs")) rfl),
    z_all := free_x X Gn (c.fact 45 (f := .a (.free "all")) rfl),
    z_any := free_x X Gn (c.fact 46 (f := .a (.free "any")) rfl),
    z_bool := free_x X Gn (c.fact 47 (f := .a (.free "bool")) rfl),
    z_enumerate := free_x X Gn (c.fact 48 (f := .a (.free "enumerate")) rfl),
    z_int := free_x X Gn (c.fact 49 (f := .a (.free "int")) rfl),
    z_isinstance := free_x X Gn (c.fact 50 (f := .a (.free "isinstance")) rfl),
    z_len := free_x X Gn (c.fact 51 (f := .a (.free "len")) rfl),
    z_list := free_x X Gn (c.fact 52 (f := .a (.free "list")) rfl),
    z_max := free_x X Gn (c.fact 53 (f := .a (.free "max")) rfl),
    z_min := free_x X Gn (c.fact 54 (f := .a (.free "min")) rfl),
    z_range := free_x X Gn (c.fact 55 (f := .a (.free "range")) rfl),
    z_set := free_x X Gn (c.fact 56 (f := .a (.free "set")) rfl),
    z_sorted := free_x X Gn (c.fact 57 (f := .a (.free "sorted")) rfl),
    z_str := free_x X Gn (c.fact 58 (f := .a (.free "str")) rfl),
    z_tuple := free_x X Gn (c.fact 59 (f := .a (.free "tuple")) rfl),
    z_zip := free_x X Gn (c.fact 60 (f := .a (.free "zip")) rfl),
    c_SIDES := con_x rfl X Gn (c.fact 61 (f := .con "SIDES" (.kt [(.kt [(.int (-1)), (.int 0)]), (.kt [(.int 0), (.int (-1))]), (.kt [(.int 0), (.int 1)]), (.kt [(.int 1), (.int 0)])])) rfl),
    c_AROUND := con_x rfl X Gn (c.fact 62 (f := .con "AROUND" (.kt [(.kt [(.int (-1)), (.int (-1))]), (.kt [(.int (-1)), (.int 0)]), (.kt [(.int (-1)), (.int 1)]), (.kt [(.int 0), (.int (-1))]), (.kt [(.int 0), (.int 1)]), (.kt [(.int 1), (.int (-1))]), (.kt [(.int 1), (.int 0)]), (.kt [(.int 1), (.int 1)])])) rfl) }⟩
theorem law_all (P : Program) (w : World) (mg : Str → Option Value) (h : Heap) (K : PySem.W.Frag) (c : SaysX fxl fnl K) (X : K.In h) (Gn : h.Ns mainGlobals mg) : ∃ (fa : Addr) (fd : FuncData), mg "law" = some (.ref fa) ∧ (∀ (s : Shared) (u : Value), BindsTo s fd ⟨[u], []⟩ [("script", u)]) ∧
    ∀ base : Heap, K.In base → base.Ns mainGlobals mg → FnOk P w K mg base (L2.CX P w) 12 fa fd ["script"] (spLaw K) := by
  obtain ⟨gd, T⟩ := tx_mk c X Gn
  exact ⟨gFn K 43, gdn gd 43, T.m_law, fun s u => bind_of T.F_law s u fun _ _ _ _ _ _ => rfl, fun base _ _ => ((law_imp (ok_law T) law_true))⟩
end RE.K04
namespace RE.K04
open PySem PySem.W PySem.Calls PyProof.Rows RE
abbrev hR : OpenRow := OpenLaw.row PySem.Challenge.rw_tatamirooms_k04_whole_rims_and_points
abbrev hq : Program := view hR.prog [53]
def hn_0 : List PySem.Str := [.ofString "__name__", .ofString "NoPoint", .ofString "NoSquare", .ofString "Unfit", .ofString "SIDES", .ofString "AROUND", .ofString "pushed", .ofString "within", .ofString "table_of", .ofString "inner_of", .ofString "rim_of", .ofString "four_about", .ofString "points_of", .ofString "is_number", .ofString "needed", .ofString "plain_pair", .ofString "plain_square", .ofString "plain_items", .ofString "plain_set", .ofString "plain_room", .ofString "need_room", .ofString "need_pair", .ofString "check_square", .ofString "beside", .ofString "around", .ofString "rim", .ofString "inner", .ofString "points", .ofString "about", .ofString "_law_box", .ofString "_law_take", .ofString "_law_cells", .ofString "_law_of", .ofString "_law_pick", .ofString "_law_lists", .ofString "_law_same", .ofString "_law_over", .ofString "_law_beside", .ofString "_law_around", .ofString "_law_rim"]
def hn_1 : List PySem.Str := [.ofString "_law_four", .ofString "_law_points", .ofString "_law_boxed", .ofString "_law_room", .ofString "_law_nook", .ofString "_law_hall", .ofString "_law_hand_right", .ofString "_law_ground_right", .ofString "_law_right"]
def hn : List PySem.Str := hn_0 ++ hn_1
abbrev hk : Hook := hookX 4 fxl fnl
abbrev hob : SharedT → AlX := obT 4 fxl fnl
theorem hob_eq (s : SharedT) : hob s = hk.obs s.abs := obsXG_eq (HandSHeadRun.getT_eq s)
theorem run_l (w : World) : (runO hR 15000 w).map (fun x => HandSHeadRun.looksF hR.prog x.1.heap x.2.abs) = some true := by kernel_rfl
theorem run_s (w : World) : (runO hR 15000 w).map (fun x => HandSHeadRun.seenQ hq hn (importedModules hR.prog.main.body) (fun (s : Shared) => PySem.W.xlAt hq [] s && PySem.W.recOk hR.records s) x.2.abs) = some (PySem.W.openGood hq hn) := by kernel_rfl
theorem run_0 (w : World) : (runO hR 15000 w).map (fun x => obT 4 (fxl.take 32) (fnl.take 22) x.2) = some (valX (fnl.take 22)) := by kernel_rfl
theorem run_1 (w : World) : (runO hR 15000 w).map (fun x => obT 4 (fxl.drop 32) (fnl.drop 22) x.2) = some (valX (fnl.drop 22)) := by kernel_rfl
theorem hrun (w : World) : HandSHeadRun.RunEqI hR hq hk hob 15000 hn w := runEq_of (run_l w) (run_s w) (ob_cut 32 22 (run_0 w) (run_1 w))
end RE.K04
open PySem PySem.W PySem.Calls PyProof.Rows
set_option maxHeartbeats 0 in
theorem PySem.Challenge.cw_tatamirooms_k04_whole_rims_and_points_holds : PySem.Challenge.rw_tatamirooms_k04_whole_rims_and_points.Holds := by
  w_on; o_law
  refine HandSHeadRun.head_imp (r := OpenLaw.row PySem.Challenge.rw_tatamirooms_k04_whole_rims_and_points) (q := RE.K04.hq) (H := RE.K04.hk) (ob := RE.K04.hob) (M := 15000) (loose := RE.K04.hn) (d := HandSHeadRun.topDef (OpenLaw.row PySem.Challenge.rw_tatamirooms_k04_whole_rims_and_points).prog 53) (kwd := []) RE.K04.hob_eq
    RE.K04.hrun (by kernel_rfl) (by kernel_rfl) (by kernel_rfl) (by rfl) (by first | assumption | decide +kernel) (by decide +kernel) ⟨rfl, rfl, rfl, rfl, rfl, by decide +kernel⟩ ?hw ?hc
  case hw => w_witness2
  case hc => exact RE.law_head (l := PySem.Challenge.rw_tatamirooms_k04_whole_rims_and_points) (k := 12) (fx := RE.K04.fxl) (fn := RE.K04.fnl) (N := 4) rfl (by kernel_rfl) (by kernel_rfl) ⟨rfl, by decide, by decide⟩ fun w mg h K c X Gn => RE.K04.law_all _ w mg h K c X Gn
